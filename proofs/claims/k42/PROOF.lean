import PyProof.Rows.All
import Wide.All
import OpenK.AllK
import Wide.FinOn
import Lean
import PyProof.EqAt
import PyProof.EqKinds
import PyProof.TupleCall
import PyProof.FactsAll.NoneType_1
import PyProof.ZipIter
import PyProof.Draws
import PyProof.TupleIter
import PyProof.ListMulRoad
import PyProof.FactsAll.tuple
import PyProof.ReprRoads
import PyProof.Rows.RegFStrParts
import PyProof.Rows.Range3
import KE.KIntText
import PyProof.AutoListH
import PyProof.Rows.MinMaxN
import PyProof.SetScanFacts
import PyProof.SetKind
import PyProof.DictKinds
import PyProof.WalkLemmas
import PyProof.CollectWalk
import PyProof.FactsAll.set
import PyProof.Walks
import PyProof.WalksS
import PyProof.SetRoads
import PyProof.Rows.SetFrom
import PyProof.Rows.SortWalk
import PyProof.EnumMake
import PyProof.EnumFor
import PyProof.DictItemsLoops
import PyProof.DictWalks
import KE.KDictList
import PyProof.Rows.SumAny
import KE.KRevIter
import KE.KDictOf
import PyProof.AttrMissHeap
import PyProof.NsDelKeeps
import PyProof.RulesAs
import KE.KTryMore
import PyProof.ExcArgsOwn
import KE.KUnpack
import PyProof.ExcClass2
import OpenK.KMake
import OpenK.KGet
import PyProof.InstStore
import PyProof.InstStoreFacts
import OpenK.KCls
import OpenK.KMore
import PyProof.FString4
import PyProof.StrLawsRepr
import KE.KEqDict
import KE.KItemsList
import PyProof.Rows.SortStr
import KE.KLam
import KE.KMinKey
import KE.KNestM
import PySem.Challenge.RW_wardsmith_k42_a_fault_told
open PySem renaming wpAny_bind->Da,Value->Fa,starEach->aa,Addr->ca,wpAny_pure->ia,wpAny->wa,Str->xa,mainGlobals->jb,model->pb,Program->ic,Expr->qc,World->vd,backTo->zd,Around->je,Heap->ke,sizeLine_eq->se,attributeBase->ye,wpAny_mono->af,Stmt->sf,wpAny_newObj_type->tf,bootBuiltins->vf,FuncData->wf,foldedSetIterable->dg,rawInt->fg,assignEach->gg,wpAny_holding->ng,wpAny_call_entry->og,Pos->vg,behindInMarks->bh,wpAny_Call_Name_kw->lh,swapsWith->ph,compareOp->zh,mem_of_lookup->Pi,sliceBounds->ai,wpAny_ite_split->ci,Obj->ki,NameKind->mi,SetTable->xi,wpAny_callSpecial?_slot->zi,codeAny_builtin->dj,Builtin->kj,cellsFrom->oj,wpAny_setField_rec->rj,wpAny_passesOwn->yj,binaryOp->zj,wpAny_setState_of->gk,Keyword->rk,isSubtype_type->yk,sysModules->Tl,codeAny_mono->gl,GenState->ql,scanBound->xl,codeAny->im,keywordEach->om,wpAny_typeOf->rm,plainId_quiet->bn,ExceptHandler->cn,assign->mn,call_meets->yn,wpAny_field->jo,wpAny_Call_method0_late->ko,pushCells->qo,noteFrame->uo,intKind->xo,holding->yo,wpAny_pyIter_list->xp,builtinLookup_eq_fast->cq,wpAny_rule->dq,setFlight->jq,swapsWithSole->kq,swappedStores->lq,relabel->mq,setField->qq,wpAny_specialOf->rq,wpAny_execs_nil->uq,letOwnedTupleGo->vq,evalArgs_none->yq,wpAny_setEntries_of->zq,PassesOwn->sr,pickOrder->ur,Scope->xr,cLine->zr,backToKw->ms,wpAny_pyIter_tuple->rs,wpAny_seqItems->ss,firstArgMember->ft,wpAny_truthy_bool->yt,fits_of_scanBound->au,wpAny_pyIter_slot->bu,wpAny_getItem_list_slice->ju,wpAny_comprehension_free->ku,Env->tu,noFill_tuple_add->xu,DictEntry->zu,wpAny_askSetting->bv,handleBy->jv,Result->uv,BindsTo->xv,IsPart->yv,wpAny_Call_method_late->aw,valueAt->cw,pushCells_keeps->jw,typeLookup_type->lw,wpAny_updateSeq->mw
open List renaming length_cons->ba,length_map->la,getElem?_eq_getElem->oa,mem_cons_of_mem->ua,getElem?_eq_some_iff->ya,mem_cons_self->ib,range->qb,getD_eq_getElem?_getD->ub,mem_range->wb,set_cons_zero->zb,set_cons_succ->Sc,map_cons->ac,size_toArray->jc,replicate->kc,length_range->lc,getElem?_map->wc,mem_cons->zc,getElem?_set_ne->pd,length_nil->rd,length_append->ud,mem_singleton->ge,getElem?_set_self->me,mem_of_getElem?->qe,mem_append_right->ue,filter_cons_of_pos->we,all_eq_true->Uf,filter_cons_of_neg->gf,mem_map->jf,not_mem_nil->pf,getElem?_eq_none->zf,mem_append->ag,getElem?_range->jg,map_append->kg,cons_append->lg,length_singleton->qg,getElem?_append_left->ug,nil_append->xg,lookup_cons->yg,getElem?_append_right->ah,filterMap_cons->uh,map_map->xh,getElem?_set_self'->di,pairwise_cons->ji,replicate_succ->pi,map_congr_left->qi,eq_nil_of_length_eq_zero->si,append_nil->bj,foldl_cons->cj,take_of_length_le->lj,length_replicate->pj,mem_map_of_mem->sj,Nodup->vj,append_assoc->ak,map_nil->fk,getElem?_replicate->uk,Pairwise->vk,length_eq_zero_iff->wk,map_singleton->yl,length_filter_le->zl,mem_filter->lm,nodup_cons->mm,mem_reverse->qm,drop_eq_getElem_cons->vm,zip_cons_cons->Do,lookup->No,length_take->ao,findIdx?_eq_some_iff_getElem->wo,flatten_cons->qp,ext_getElem?->yp,filter_congr->aq,mem_iff_getElem?->bq,getElem_mem->iq,mem_append_left->oq,mem_iff_getElem->pq,find?_cons->wq,length_reverse->br,forall_mem_nil->cr,filterMap_map->Ps,all_cons->ls,length_eraseIdx_of_lt->qt,range_succ->ut,getElem?_eq_none_iff->vt,length_drop->zt,nodup_append->cu,nodup_range->gu,eraseIdx_cons_succ->yu,drop_length->Pv,map_reverse->qv,range_succ_eq_map->bw,drop_of_length_le->fw,of_mem_zip->iw
open PySem.Heap renaming get?_push_of_some->ja,get?_push_size->yc,lt_size->qd,get?_update_self->uj,size_push->sk,get?_update_other->il,SameBut->dm,FlyingW->dw
open Bool renaming false_ne_true->Db,false_eq_true->uc,and_eq_true->ze,eq_iff_iff->kh,not_false->yh,not_true->nj,false_and->Op,and_false->vp,true_and->su
open Option.some renaming inj->yb
open Classical renaming propDecidable->xc
open Nat renaming le_refl->jd,lt_of_lt_of_le->yd,ne_of_lt->Re,reduceAdd->ve,reduceLeDiff->qf,le_trans->uf,lt_irrefl->oh,zero_le->vh,reduceSub->qj,lt_succ_self->Tk,le_of_lt->rl,lt_succ_of_lt->km,le_of_not_lt->tm,ne_of_gt->xm,lt_trans->On,not_lt_zero->jn,le_succ->gp,zero_add->zp,lt_of_not_le->Ev,lt_or_ge->av,le_of_eq->vv
open PySem.W renaming Frag->td,keepIn->mf,codeIn->rh,mg_none_of->tj,findIn->ik,mg_of->zk,nsIn->kl,emptyDict->Go,cellsFrom_some->ip,hasDictIn->wu,instObj->sv
open Array renaming getElem?_eq_getElem->ae,length_toList->mj,getElem?_toList->ul,getElem?_eq_some_iff->nt,size_append->fu
open PyProof.Rows renaming slot_tuple_getitem->kf,callWith_type1->cg,AllBare->am,envOfC->wn,callWith_builtin1->gq,IntsAre->mr,subscriptTail->iu,subscriptTail_builtinR->zv
open PySem.PassesOwn renaming never->rf
open Int renaming emod_lt_of_pos->yf,emod_nonneg->zg,toNat_natCast->lp
open False renaming elim->bg
open Option renaming map_eq_some_iff->jh,isSome_iff_exists->ym
open PySem.F renaming called_set->mh,plainAttrs_list->aj,args_tuple_add_2->zm,entry_tuple_add->bo,slot_tuple_add->jp,slot_list_append->lu,type_list_append->nu,plain_list_iadd->cv
open PySem.Around renaming under_plainId->qh,under->wv
open PySem.Txt renaming mul->ii
open PySem.SetTable renaming below->ui,grown->xk
open PySem.Builtin.Str renaming occurrences->yi
open PyProof.Rows.F renaming plain_set_update_loop->fj,entry_set_update_loop->wm
open PySem.Calls renaming callWith_builtin->gj,spliced_cons->vn,spliced_nil->bp,Name_function_global->yr
open PySem.Builtin.Slice renaming slicePlaces->wj,sliceAdjust->um,sliceApplied->Os
open PySem.Builtin.SmallTypes renaming nextOf->xj
open PySem.Builtin.Tuple renaming tupleExact->jk,tupleItemsOf->Rs,tupleTooMany->jt
open PySem.Builtin.List renaming listTooLong->nk,listLengthHint->nr,listExtendWith->qr,listSameRef->qu
open Ne renaming symm->qk
open PySem.Obj renaming mapSeq->xn,data_mapFields->zn
open PySem.Sem renaming wp_pure->vo
open PySem.Value renaming isInt->nq,isInt_shape->wt
open PySem.Str renaming ofString->jr
open Sum.inr renaming inj->xt
open PySem.Builtin.Frozenset renaming sizeOf->ou
open PySem.Builtin.Dict renaming updateFrom->dv
noncomputable section
open PySem.W (fnOf kia_one plainGet specialIn methodObj lookIn plainOver takerIn Looks makesIn isFn mroIn callWith_K exmOne)
open List (range Nodup map_map Pairwise getElem?_eq_none Perm append_assoc any_cons)
open Nat (le_refl zero_add)
open Option (map_some)
open Array (getD)
set_option Elab.async false
set_option linter.all false
set_option maxRecDepth 100000
namespace L2
open PySem PySem.Spec PyProof.Rows
abbrev Hb:=Sum Int xa
def Zn:Hb->Fa->Bool
 | .inl k,v=>nq k v
 | .inr x,v=>Value.isStrOf x v
def UT(w:vd):Hb->Int
 | .inl k=>hashInt k
 | .inr x=>hashStr w x
theorem Zb:∀ {k:Hb} {v:Fa},Zn k v=true->(∃ i t,k=Sum.inl i/\v=Value.int i t)\/(∃ x t,k=Sum.inr x/\v=Value.str x t)
 | .inl i,v,h=>by
  obtain⟨t,e⟩:=wt (k:=i) (v:=v) h;exact .inl ⟨i,t,rfl,e⟩
 | .inr x,v,h=>by
  obtain⟨t,e⟩:=Value.isStrOf_shape (x:=x) (v:=v) h;exact .inr ⟨x,t,rfl,e⟩
theorem XH(i:Int)(t:Tok):Zn (.inl i) (.int i t)=true:=by simp[Zn,nq]
theorem YH(x:xa)(t:Tok):Zn (.inr x) (.str x t)=true:=by simp[Zn,Value.isStrOf]
theorem O0(a b:Int):decide ((Sum.inl a:Hb)=Sum.inl b)=(a==b):=by
 by_cases e:a=b
 .subst e;simp
 .have h:¬ (Sum.inl a:Hb)=Sum.inl b:=λq=>e (Sum.inl.inj q);rw[decide_eq_false h];exact(beq_eq_false_iff_ne.mpr e).symm
theorem R0(a b:xa):decide ((Sum.inr a:Hb)=Sum.inr b)=decide (a=b):=by
 by_cases e:a=b
 .subst e;simp
 .have h:¬ (Sum.inr a:Hb)=Sum.inr b:=λq=>e (xt q);rw[decide_eq_false h,decide_eq_false e]
theorem P0(a:Int)(b:xa):decide ((Sum.inl a:Hb)=Sum.inr b)=false:=decide_eq_false (λq=>nomatch q)
theorem Q0(a:xa)(b:Int):decide ((Sum.inr a:Hb)=Sum.inl b)=false:=decide_eq_false (λq=>nomatch q)
def Gc(prog:ic)(w:vd):PySem.KeyKind prog w Hb where
 is:=Zn
 hash:=UT w
 inj:=λv a b ha hb=>by
  rcases Zb ha with⟨i,t,rfl,rfl⟩|⟨x,t,rfl,rfl⟩
  .rcases Zb hb with⟨j,u,rfl,e⟩|⟨y,u,rfl,e⟩
   .injection e with e1 _;rw[e1]
   .exact nomatch e
  .rcases Zb hb with⟨j,u,rfl,e⟩|⟨y,u,rfl,e⟩
   .exact nomatch e
   .injection e with e1 _;rw[e1]
 byValue:=λk v h=>by
  rcases Zb h with⟨i,t,rfl,rfl⟩|⟨x,t,rfl,rfl⟩<;>rfl
 pyHash:=λhv h=>by
  rcases Zb hv with⟨i,t,rfl,rfl⟩|⟨x,t,rfl,rfl⟩
  .exact wpAny_pyHash_int h
  .exact wpAny_pyHash_str h
 eqBool:=λhu hv h=>by
  rcases Zb hu with⟨i,t,rfl,rfl⟩|⟨x,t,rfl,rfl⟩
  .rcases Zb hv with⟨j,u,rfl,rfl⟩|⟨y,u,rfl,rfl⟩
   .rw[O0]at h;exact wpAny_eqBool_int h
   .rw[P0]at h;exact SeqAt.EqAt.int_str i t y u _ _ _ _ h
  .rcases Zb hv with⟨j,u,rfl,rfl⟩|⟨y,u,rfl,rfl⟩
   .rw[Q0]at h;exact SeqAt.EqAt.str_int x t j u _ _ _ _ h
   .rw[R0]at h;exact wpAny_eqBool_str h
 «strs» :=λk x t v h=>by
  rcases Zb h with⟨i,u,rfl,e⟩|⟨y,u,rfl,e⟩
  .exact nomatch e
  .injection e with e1 _
   subst e1;cases v<;>rfl
theorem Oz(prog:ic)(w:vd)(i:Int)(t:Tok):(Gc prog w).is (.inl i) (.int i t)=true:=XH i t
theorem Pz(prog:ic)(w:vd)(x:xa)(t:Tok):(Gc prog w).is (.inr x) (.str x t)=true:=YH x t
inductive V where
 |non|bl (b:Bool)|int (i:Int)|str (x:xa)|byt (b:Array UInt8)|flt (b:UInt64)|ref (a:ca)|ty (n:String)
 deriving DecidableEq
def RelV:V->Fa->Prop
 | .non,u=>u=Value.none
 | .bl b,u=>u=Value.bool b
 | .int i,u=>∃ t,u=Value.int i t
 | .str x,u=>∃ t,u=Value.str x t
 | .byt b,u=>∃ t,u=Value.bytes b t
 | .flt b,u=>∃ t,u=Value.float b t
 | .ref a,u=>u=Value.ref a
 | .ty n,u=>u=Value.type n
abbrev Vals:List V->List Fa->Prop:=Paired RelV
variable{xs:List V}{us:List Fa}
theorem Vals.length(r:Vals xs us):xs.length=us.length:=Paired.length r
theorem Vals.get:∀ {xs:List V} {us:List Fa} {i:Nat} {x:V},Vals xs us->xs[i]? =some x->∃ u,us[i]? =some u/\RelV x u
 |_,_,_,_,.nil,e=>by simp at e
 |_,_,0,_,.cons r _,e=>by simp at e;subst e;exact⟨_,rfl,r⟩
 |_,_,i+1,x,.cons _ t,e=>by
  obtain⟨u,h1,h2⟩:=Vals.get (i:=i) (x:=x) t (by simpa using e);exact⟨u,by simpa using h1,h2⟩
variable{u:Fa}
theorem Vals.set{x:V}(r:RelV x u):∀ {xs:List V} {us:List Fa} (i:Nat),Vals xs us->Vals (xs.set i x) (us.set i u)
 |_,_,_,.nil=>.nil
 |_,_,0,.cons _ t=>.cons r t
 |_,_,i+1,.cons q t=>.cons q (Vals.set r i t)
theorem Vals.append:∀ {xs ys:List V} {us ws:List Fa},Vals xs us->Vals ys ws->Vals (xs++ys) (us++ws)
 |_,_,_,_,.nil,s=>s
 |_,_,_,_,.cons r t,s=>.cons r (Vals.append t s)
theorem Vals.take:∀ {xs:List V} {us:List Fa} (n:Nat),Vals xs us->Vals (xs.take n) (us.take n)
 |_,_,0,_=>.nil
 |_,_,_+1,.nil=>.nil
 |_,_,n+1,.cons r t=>.cons r (Vals.take n t)
theorem Vals.drop:∀ {xs:List V} {us:List Fa} (n:Nat),Vals xs us->Vals (xs.drop n) (us.drop n)
 |_,_,0,r=>r
 |_,_,_+1,.nil=>.nil
 |_,_,n+1,.cons _ t=>Vals.drop n t
def RelO:Option V->Option Fa->Prop
 |some v,some u=>RelV v u
 |none,none=>True
 |_,_=>False
def KV{κ:Type}:List (κ×V)->List (κ×Fa)->Prop:=Paired λ(p:κ×V) (q:κ×Fa)=>p.1=q.1/\RelV p.2 q.2
def kV:Hb->V
 | .inl i=>.int i
 | .inr x=>.str x
def NX:Option Hb->Fa->Bool
 |none,.none=>true
 |some k,v=>Zn k v
 |_,_=>false
def X9(w:vd):Option Hb->Int
 |none=>0xFCA86420
 |some k=>UT w k
variable{v:Fa}
theorem Rc{o:Option Hb}(h:NX o v=true):(o=none/\v=.none)\/∃ k,o=some k/\Zn k v=true:=by
 cases o with
 |none=>
  cases v with
  |none=>exact .inl ⟨rfl,rfl⟩
  |_=>cases h
 |some k=>exact .inr ⟨k,rfl,h⟩
theorem Gv{k:Hb}(h:Zn k .none=true):False:=by
 rcases Zb h with⟨i,t,rfl,e⟩|⟨x,t,rfl,e⟩<;>cases e
variable{prog:ic}{w:vd}{A:je}{E:Fa->Shared->Prop}{s:Shared}
theorem Lo{Q:Int->Shared->Prop}(h:Q 0xFCA86420 {s with toks:=s.toks+1}):wa (pb prog w) A (pyHash .none) Q E s:=by
 have hT:s.TypeIs .none "NoneType":=rfl;unfold pyHash;have hv: [Value.none].any Value.onHeap=false:=rfl;refine Da ?_;rw[cRoomFor,if_neg (by rw[hv];exact Db)];refine ia ?_;refine Da (rq hT F.slot_NoneType_hash.lookup ?_);show wa _ _ (if(some (Value.builtin "NoneType.__hash__")==some Value.none)=true then _ else _) Q E s;rw[if_neg (by rw[beq_builtin_none];exact Db)];refine Da (rq hT F.slot_NoneType_hash.lookup ?_);show wa _ _ (callSpecialIfBoundUnlessNone? .none "__hash__" _ >>= _) Q E s
 refine Da (wpAny_callSpecialIfBoundUnlessNone?_slot hT F.slot_NoneType_hash
  (og F.slot_NoneType_hash hT F.entry_NoneType_hash
   (show wa _ _ (do ret (<-mkInt 0xFCA86420)) _ _ s from wpAny_ret_mkInt ?_) (F.args_NoneType_hash_1 _)))
 show wa _ _ (if(decide (-(2:Int)^63<=0xFCA86420)&&decide ((0xFCA86420:Int)<2^63))=true then _ else _) Q E _;rw[if_pos (by decide)];exact ia h
theorem Ry{Q:Bool->Shared->Prop}(h:Q true s):wa (pb prog w) A (eqBool .none .none) Q E s:=by
 unfold eqBool;refine ng ?_;rw[if_pos (by decide)];exact Da (dq (ia h))
def GU(prog:ic)(w:vd):PySem.KeyKind prog w (Option Hb) where
 is:=NX
 hash:=X9 w
 inj:=λv a b ha hb=>by
  rcases Rc ha with⟨rfl,rfl⟩|⟨k,rfl,h1⟩
  .rcases Rc hb with⟨rfl,_⟩|⟨k,rfl,h2⟩
   .rfl
   .exact(Gv h2).elim
  .rcases Rc hb with⟨rfl,rfl⟩|⟨k',rfl,h2⟩
   .exact(Gv h1).elim
   .rw[(Gc prog w).inj v k k' h1 h2]
 byValue:=λk v h=>by
  rcases Rc h with⟨rfl,rfl⟩|⟨k,rfl,h1⟩
  .rfl
  .exact(Gc prog w).byValue k v h1
 pyHash:=λhv h=>by
  rcases Rc hv with⟨rfl,rfl⟩|⟨k,rfl,h1⟩
  .exact Lo h
  .exact(Gc prog w).pyHash h1 h
 eqBool:=λhu hv h=>by
  rcases Rc hu with⟨rfl,rfl⟩|⟨k,rfl,h1⟩
  .rcases Rc hv with⟨rfl,rfl⟩|⟨k,rfl,h2⟩
   .exact Ry (by simpa using h)
   .rw[decide_eq_false (by intro z;cases z)]at h
    rcases Zb h2 with⟨i,t,rfl,rfl⟩|⟨x,t,rfl,rfl⟩
    .exact SeqAt.EqAt.none_int i t _ _ _ _ h
    .exact SeqAt.EqAt.none_str x t _ _ _ _ h
  .rcases Rc hv with⟨rfl,rfl⟩|⟨k',rfl,h2⟩
   .rw[decide_eq_false (by intro z;cases z)]at h
    rcases Zb h1 with⟨i,t,rfl,rfl⟩|⟨x,t,rfl,rfl⟩
    .exact SeqAt.EqAt.int_none i t _ _ _ _ h
    .exact SeqAt.EqAt.str_none x t _ _ _ _ h
   .have e:decide ((some k:Option Hb)=some k')=decide (k=k'):=by
     by_cases z:k=k'
     .rw[z,decide_eq_true rfl,decide_eq_true rfl]
     .rw[decide_eq_false z,decide_eq_false λy=>z (yb y)]
    rw[e]at h
    exact(Gc prog w).eqBool h1 h2 h
 «strs» :=λk x t v h=>by
  rcases Rc h with⟨rfl,e⟩|⟨k',rfl,h1⟩
  .cases e
  .exact(Gc prog w).strs k' x t v h1
inductive HO where
  |lst (xs:List V)
  |tup (xs:List V)
  |dK (kvs:List (Hb×V))|dT (kvs:List (List Hb×V))
  |set (S:Int->Bool) (n:Nat)
  |ins (C dx:ca) (fs:List (xa×V))
  |own (x:ca)
  |xd (fs:List (xa×V))
  |met (f x:ca)
  |rng (lo hi:Int)
  |frz (o:ki) (u:HO)
  |tbl (ps:Array Fa)
  |ext (φ:ke->Prop)
 |tab (pos:vg) (qual:xa)
 |dN (l:List (Option Hb×Int))
abbrev Hp:=ca->Option HO
def Pb(H:Hp)(a:ca)(o:HO):Hp:=λb=>if b=a then some o else H b
variable{o:HO}{H:Hp}{a:ca}
theorem Ta:Pb H a o a=some o:=by unfold Pb;rw[if_pos rfl]
variable{b:ca}
theorem Ha(h:b≠a):Pb H a o b=H b:=by unfold Pb;rw[if_neg h]
theorem Ua(h:H a=some o)(h':H b=none):a≠b:=by
 intro e;subst e;rw[h]at h';cases h'
section
variable (P:ic)(w:vd)
def ObjOk(H:Hp)(h:ke)(a:ca):HO->Prop
 | .lst xs=>xs.length<=sizeLine/\∃ (its:List Fa) (n:Nat),Vals xs its/\h.get? a=some {cls:=.type "list",data:=.seq its.toArray n}
 | .tup xs=>xs.length<=sizeLine/\∃ its:List Fa,Vals xs its/\IsTup h a its.toArray
 | .dK kvs=>kvs.length<=sizeLine/\(a==Tl)=false/\∃ vs,KV kvs vs/\h.DictOf (Gc P w) a vs
 | .dT kvs=>kvs.length<=sizeLine/\(a==Tl)=false/\∃ xs:List (List Hb×ca×Fa),
   Paired (λ(p:List Hb×V) (q:List Hb×ca×Fa)=>p.1=q.1/\H q.2.1=some (.tup (p.1.map kV))/\RelV p.2 q.2.2) kvs xs/\
   ∃ o es ep,h.get? a=some o/\o.ExactDict/\o.data=.dict es ep/\es.toList=xs.map (entryOfKey (tupleKind (Gc P w)))/\(xs.map (·.1)).Nodup
 | .set S n=>h.SetOf (xo P w) a S n
 | .ins C dx fs=>H dx=some (.own a)/\fs.length<=1000/\dx≠a/\h.get? a=some (sv C dx)/\
   ∃ mA,h.Ns1 dx mA/\(∀ f,RelO (fs.lookup f) (mA f))/\PySem.Within mA (fs.map (·.1))
 | .own _=>∃ o,h.get? a=some o
 | .xd fs=>∃ mA,h.Ns1 a mA/\∀ f,RelO (fs.lookup f) (mA f)
 | .rng lo hi=>∃ t u v,h.get? a=some {cls:=.type "range",data:=.fields #[.int lo t,.int hi u,.int 1 v]}
 | .frz o u=>h.get? a=some o/\ObjOk H h a u
 | .tbl ps=>h.get? a=some {cls:=.none,data:=.fields ps}
 | .met f x=>h.get? a=some (methodObj (.ref f) (.ref x))
 | .ext φ=>φ h/\(∃ o,h.get? a=some o)/\∀ h1 h2:ke,φ h1->(∀ o,h1.get? a=some o->h2.get? a=some o)->φ h2
 | .tab pos qual=>∃ ps:Array Fa,h.get? a=some {cls:=.none,data:=.fields ps}/\(ps= #[]\/∃ c':ca,ps= #[fg pos.line,fg pos.col,.ref c']/\H c'=some (.own a)/\h.CodeRec (.ref c') qual)
 | .dN l=>l.length<=sizeLine/\(a==Tl)=false/\∃ vs:List (Option Hb×Fa),Paired (λ(p:Option Hb×Int) (q:Option Hb×Fa)=>p.1=q.1/\RelV (.int p.2) q.2) l vs/\h.DictOf (GU P w) a vs
def HOk(H:Hp)(h:ke):Prop:=∀ a o,H a=some o->ObjOk P w H h a o
end
variable{P:ic}{H':Hp}{h h':ke}{α:Type}
theorem ObjOk.lt(x:ObjOk P w H h a o):a<h.objs.size:=by
 cases o with
 |lst xs=>obtain⟨_,_,_,_,e⟩:=x;exact qd e
 |tup xs=>obtain⟨_,_,_,p⟩:=x;exact p.lt
 |dK kvs=>obtain⟨_,_,_,_,o,_,_,e,_⟩:=x;exact qd e
 |dT kvs=>obtain⟨_,_,_,_,o,_,_,e,_⟩:=x;exact qd e
 |set S n=>obtain⟨o,_,_,_,e,_⟩:=x;exact qd e
 |ins C dx fs=>obtain⟨_,_,_,e,_⟩:=x;exact qd e
 |own y=>obtain⟨_,e⟩:=x;exact qd e
 |xd fs=>obtain⟨_,⟨_,_,_,e,_⟩,_⟩:=x;exact qd e
 |rng lo hi=>obtain⟨_,_,_,e⟩:=x;exact qd e
 |frz ob u=>obtain⟨e,_⟩:=x;exact qd e
 |tbl ps=>exact qd (show h.get? a=some _ from x)
 |met f y=>exact qd (show h.get? a=some _ from x)
 |ext φ=>obtain⟨_,⟨_,e⟩,_⟩:=x;exact qd e
 |tab pos qual=>obtain⟨_,e,_⟩:=x;exact qd e
 |dN l=>obtain⟨_,_,_,_,o,_,_,e,_⟩:=x;exact qd e
theorem Paired.mapP{β:Type}{F G:α->β->Prop}:∀ {l₁:List α} {l₂:List β},Paired F l₁ l₂->(∀ a b,F a b->G a b)->Paired G l₁ l₂
 |_,_,.nil,_=>.nil
 |_,_,.cons r t,f=>.cons (f _ _ r) (Paired.mapP t f)
theorem ObjOk.stay(x:ObjOk P w H h a o)(k:∀ b u,(b=a\/H b=some (.own a))->h.get? b=some u->h'.get? b=some u)(ho:∀ b,H b=some (.own a)->H' b=some (.own a))(ht:∀ b xs,H b=some (.tup xs)->H' b=some (.tup xs)):ObjOk P w H' h' a o:=by
 induction o with
 |lst xs=>obtain⟨z,its,n,r,e⟩:=x;exact⟨z,its,n,r,k _ _ (.inl rfl) e⟩
 |tup xs=>obtain⟨z,its,r,ob,e,c⟩:=x;exact⟨z,its,r,ob,k _ _ (.inl rfl) e,c⟩
 |dK kvs=>obtain⟨z,y,vs,r,ob,es,ep,e,c⟩:=x;exact⟨z,y,vs,r,ob,es,ep,k _ _ (.inl rfl) e,c⟩
 |dT kvs=>
  obtain⟨z,y,xs,r,ob,es,ep,e,c⟩:=x;exact⟨z,y,xs,Paired.mapP r λp q z=>⟨z.1,ht _ _ z.2.1,z.2.2⟩,ob,es,ep,k _ _ (.inl rfl) e,c⟩
 |set S n=>obtain⟨ob,es,ep,t,e,c⟩:=x;exact⟨ob,es,ep,t,k _ _ (.inl rfl) e,c⟩
 |ins C dx fs=>
  obtain⟨d,z,ne,e,mA,⟨od,es,ep,e2,c⟩,r⟩:=x;exact⟨ho _ d,z,ne,k _ _ (.inl rfl) e,mA,⟨od,es,ep,k _ _ (.inr d) e2,c⟩,r⟩
 |own y=>obtain⟨ob,e⟩:=x;exact⟨ob,k _ _ (.inl rfl) e⟩
 |xd fs=>obtain⟨mA,⟨od,es,ep,e,c⟩,r⟩:=x;exact⟨mA,⟨od,es,ep,k _ _ (.inl rfl) e,c⟩,r⟩
 |rng lo hi=>obtain⟨t,u,v,e⟩:=x;exact⟨t,u,v,k _ _ (.inl rfl) e⟩
 |frz ob u ih=>obtain⟨e,q⟩:=x;exact⟨k _ _ (.inl rfl) e,ih q⟩
 |tbl ps=>
  have e:h.get? a=some {cls:=.none,data:=.fields ps}:=x;show h'.get? a=some {cls:=.none,data:=.fields ps};exact k a _ (.inl rfl) e
 |met f y=>
  have e:h.get? a=some (methodObj (.ref f) (.ref y)):=x;show h'.get? a=some (methodObj (.ref f) (.ref y));exact k a _ (.inl rfl) e
 |ext φ=>obtain⟨p,⟨o,e⟩,st⟩:=x;exact⟨st _ _ p λo q=>k _ _ (.inl rfl) q,⟨o,k _ _ (.inl rfl) e⟩,st⟩
 |tab pos qual=>
  obtain⟨ps,e,r⟩:=x;refine⟨ps,k _ _ (.inl rfl) e,r.imp id λz=>?_⟩;obtain⟨c',e1,e2,c,oc,vs,tq,z1,z2,z3⟩:=z;refine⟨c',e1,ho _ e2,c,oc,vs,tq,z1,k _ _ (.inr ?_) z2,z3⟩;cases z1;exact e2
 |dN l=>obtain⟨z,y,vs,r,ob,es,ep,e,c⟩:=x;exact⟨z,y,vs,r,ob,es,ep,k _ _ (.inl rfl) e,c⟩
theorem HOk.lt(x:HOk P w H h)(e:H a=some o):a<h.objs.size:=(x a o e).lt
theorem HOk.fresh(x:HOk P w H h)(e:h.objs.size<=a):H a=none:=by
 cases q:H a with
 |none=>rfl
 |some u=>exact absurd (yd (x.lt q) e) (oh _)
theorem HOk.kept(x:HOk P w H h)(k:∀ b u,h.get? b=some u->h'.get? b=some u):HOk P w H h':=λa o e=>
 (x a o e).stay (λb u _ q=>k b u q) (λ_ q=>q) λ_ _ q=>q
theorem HOk.laid(x:HOk P w H h)(k:∀ b u,h.get? b=some u->h'.get? b=some u)(hp:h.objs.size<=a)(new:ObjOk P w (Pb H a o) h' a o):HOk P w (Pb H a o) h':=λb u e=>by
 have hn:=x.fresh hp;by_cases hb:b=a
 .subst hb;rw[Ta]at e;cases e;exact new
 .rw[Ha hb]at e
  exact(x b u e).stay (λc v _ q=>k c v q) (λc q=>by rw[Ha (Ua q hn)];exact q) λc xs q=>by rw[Ha (Ua q hn)];exact q
def Rd(H:Hp)(a:ca)(u:HO):Prop:=H a=some u\/∃ o,H a=some (.frz o u)
theorem Rd.ok{u:HO}(r:Rd H a u)(x:HOk P w H h):ObjOk P w H h a u:=by
 rcases r with r|⟨o,r⟩
 .exact x a u r
 .obtain⟨_,q⟩:=x a _ r;exact q
def K8:Option HO->Prop
 |some (.lst _)=>True
 |some (.dK _)=>True
 |some (.dT _)=>True
 |some (.set _ _)=>True
 |some (.ins _ _ _)=>True
 |some (.ext _)=>True
 |some (.dN _)=>True
 |_=>False
variable{x e:ca}
section
variable {o':HO}
theorem HOk.write(ok:HOk P w H h)(mu:K8 (H x))(he:e=x\/H e=some (.own x))(k:∀ b u,b≠e->h.get? b=some u->h'.get? b=some u)(heo:∃ u,h'.get? e=some u)(new:ObjOk P w (Pb H x o') h' x o'):HOk P w (Pb H x o') h':=λb u q=>by
 have nown:∀ c y,H c=some (.own y)->c≠x:=λc y r z=>by subst z;rw[r]at mu;exact mu
 have ntup:∀ c xs,H c=some (.tup xs)->c≠x:=λc xs r z=>by subst z;rw[r]at mu;exact mu
 by_cases hb:b=x
 .subst hb;rw[Ta]at q;cases q;exact new
 .rw[Ha hb]at q
  by_cases hbe:b=e
  .have q':H b=some (.own x):=by
    rcases he with z|z
    .exact absurd (hbe.trans z) hb
    .rw[hbe];exact z
   rw[q]at q';cases q'
   obtain⟨v,hv⟩:=heo;exact⟨v,by rw[hbe];exact hv⟩
  .refine(ok b u q).stay (λc v hc r=>k c v ?_ r) (λc r=>by rw[Ha (nown c b r)];exact r) λc xs r=>by rw[Ha (ntup c xs r)];exact r
   rcases hc with rfl|hc
   .exact hbe
   .rintro rfl;rcases he with z|z
    .exact nown c b hc z
    .rw[hc]at z;cases z;exact hb rfl
end
structure Un(fs ex:List ca)(H H':Hp)(h h':ke):Prop where
 keep:∀ b o,h.get? b=some o->H b=none->b∉fs->b∉ex->h'.get? b=some o
 slot:∀ b o,h.get? b=some o->H b=none->b∈fs->b∉ex->∃ sl,h'.get? b=some {o with slots:=sl}
 free:∀ b o,h.get? b=some o->H b=none->b∉ex->H' b=none
 there:∀ b o,h.get? b=some o->b∉ex->∃ o',h'.get? b=some o'
 tups:∀ b xs,H b=some (.tup xs)->H' b=some (.tup xs)
 frzs:∀ b o u,H b=some (.frz o u)->H' b=some (.frz o u)
 tbls:∀ b ps,H b=some (.tbl ps)->∃ more,H' b=some (.tbl (ps++more))
section
variable {fs fs' ex ex':List ca}{H1 H2:Hp}{h1 h2:ke}
theorem Un.any(u:Un fs ex H H1 h h1){ob:ki}(q:h.get? b=some ob)(n:H b=none)(hx:b∉ex):∃ sl,h1.get? b=some {ob with slots:=sl}:=by
 by_cases hb:b∈fs
 .exact u.slot b ob q n hb hx
 .exact⟨ob.slots,u.keep b ob q n hb hx⟩
theorem Un.kept(k:∀ b u,h.get? b=some u->h'.get? b=some u):Un fs ex H H h h':=
 ⟨λb ob q _ _ _=>k b ob q,λb ob q _ _ _=>⟨ob.slots,k b ob q⟩,λ_ _ _ n _=>n,λb ob q _=>⟨ob,k b ob q⟩,λ_ _ q=>q,λ_ _ _ q=>q,λ_ ps q=>⟨#[],by rw[q];simp⟩⟩
theorem Un.refl:Un fs ex H H h h:=Un.kept λ_ _ q=>q
theorem Un.laid(k:∀ b u,h.get? b=some u->h'.get? b=some u)(hp:h.objs.size<=a)(hn:H a=none):Un fs ex H (Pb H a o) h h' where
 keep:=λb u q _ _ _=>k b u q
 slot:=λb u q _ _ _=>⟨u.slots,k b u q⟩
 free:=λb u q n _=>by rw[Ha (Re (yd (qd q) hp))];exact n
 there:=λb u q _=>⟨u,k b u q⟩
 tups:=λb xs q=>by rw[Ha (Ua q hn)];exact q
 frzs:=λb u xs q=>by rw[Ha (Ua q hn)];exact q
 tbls:=λb ps q=>⟨#[],by rw[Ha (Ua q hn),q];simp⟩
theorem Un.write(mu:K8 (H x))(he:e=x\/H e=some (.own x))(k:∀ b u,b≠e->h.get? b=some u->h'.get? b=some u)(heo:∃ u,h'.get? e=some u):Un fs ex H (Pb H x o) h h':=by
 have hx:∀ b,H b=none->b≠x:=λb n z=>by subst z;rw[n]at mu;exact mu
 have hb:∀ b,H b=none->b≠e:=λb n z=>by
  subst z;rcases he with r|r
  .exact hx b n r
  .rw[n]at r;cases r
 have hm:∀ b u,H b=some u->¬ K8 (some u)->b≠x:=λb u q nm z=>by subst z;rw[q]at mu;exact nm mu
 refine⟨λb u q n _ _=>k b u (hb b n) q,λb u q n _ _=>⟨u.slots,k b u (hb b n) q⟩,λb u q n _=>by rw[Ha (hx b n)];exact n,λb u q _=>?_,
  λb xs q=>by rw[Ha (hm b _ q λz=>z)];exact q,λb u xs q=>by rw[Ha (hm b _ q λz=>z)];exact q,λb ps q=>⟨#[],by rw[Ha (hm b _ q λz=>z),q];simp⟩⟩
 by_cases hbe:b=e
 .subst hbe;exact heo
 .exact⟨u,k b u hbe q⟩
end
def V8(h:ke)(H:Hp):List ca:=(qb h.objs.size).filter λa=>(H a).isSome
def Kw(h:ke)(H:Hp):ke:=PySem.W.hideAll h (V8 h H)
theorem NH(h:ke)(H:Hp):(Kw h H).objs.size=h.objs.size:=PySem.W.hideAll_size _ _
variable{o:ki}
theorem KL(e:h.get? b=some o)(n:H b=none):(Kw h H).get? b=some o:=
 PySem.W.hideAll_get _ e λhm=>by
  have q:(H b).isSome=true:=(lm.mp hm).2;rw[n]at q;simp at q
theorem IU(e:(Kw h H).get? b=some o):h.get? b=some o/\H b=none:=by
 have e':h.get? b=some o:=PySem.W.of_hideAll (V8 h H) e;refine⟨e',?_⟩;cases q:H b with
 |none=>rfl
 |some x=>
  have hm:b∈V8 h H:=lm.mpr ⟨wb.mpr (qd e'),by simp[q]⟩;have z:(Kw h H).get? b=none:=PySem.W.hideAll_none (V8 h H) hm;rw[z]at e;cases e
def NQ(g h:ke)(L:ca):List (ca×ki):=(qb h.objs.size).filterMap λa=>if a=L\/(g.get? a).isSome=true then none else(h.get? a).map λo=>(a,o)
def rest(g h:ke)(L d:ca):List (ca×ki):=(NQ g h L).filter λp=>decide (p.1≠d)
structure Mod(K:td)(mg:xa->Option Fa)(base:ke):Prop where
 kin:K.In base
 glob:base.Ns jb mg
 blt:∃ mb,base.Ns builtinsNs mb/\∀ x:xa,x≠"__name__"->mb x=vf x
 nolimit:base.NoLimit
structure Cx where
 prog:ic
 w:vd
 K:td
 mg:xa->Option Fa
 base:ke
 A:je
 N:List xa
 s₀:Shared
 H₀:Hp
 env:tu
 outer:List tu
 stack:List tu
 ex:List ca
 fn:xa->Bool
 calm:Bool
 pn:List (ca×ki)
 xe:Fa->Shared->Prop
def Zp(l:List tu):List ca:=l.filterMap (·.frame)
abbrev Cx.fs(X:Cx):List ca:=Zp X.outer
def Wx(sc:xr)(x:xa):Prop:=sc.names.lookup x=some .local\/sc.names.lookup x=some .cell\/sc.names.lookup x=some .free
def Loc(sc:xr)(x:xa):Prop:=sc.names.lookup x=some .local\/sc.names.lookup x=some .cell
def Look(env:tu)(h:ke)(m:xa->Option Fa)(x:xa)(u:Fa):Prop:=
 (env.kindOf x=some .local/\m x=some u)\/((env.kindOf x=some .cell\/env.kindOf x=some .free)/\∃ c,env.cells.lookup x=some c/\h.IsCell c (some u))
structure Cx.Ok(X:Cx):Prop where
 mod:Mod X.K X.mg X.base
 kind:X.env.scope.kind=.function
 glob:X.env.globals=jb
 blt:X.env.builtins=builtinsNs
 above:X.s₀.heap.objs.size<=X.env.locals
 inj:∀ x y c,X.env.cells.lookup x=some c->X.env.cells.lookup y=some c->x=y
 has:∀ x,(X.env.kindOf x=some .cell\/X.env.kindOf x=some .free)->∃ c,X.env.cells.lookup x=some c
 cab:∀ x c,X.fn x=true->X.env.cells.lookup x=some c->X.s₀.heap.objs.size<=c
 hd:X.calm=true->X.A.handled=none
 frames:X.A.frames=some X.stack
 stk:X.stack=X.outer\/(X.stack=X.env::X.outer/\X.env.frame=some X.env.locals)
 exf:∀ b∈X.ex,b≠X.env.locals/\∀ x c,X.env.cells.lookup x=some c->c≠b
 bs:∀ b o,X.base.get? b=some o->X.s₀.heap.get? b=some o/\X.H₀ b=none
 bsz:X.base.objs.size<=X.s₀.heap.objs.size
 noex:∀ b o,X.base.get? b=some o->b∉X.ex
 exfs:∀ b∈X.ex,b∉X.fs
 funs:X.s₀.heap.FunFrames X.base X.outer
 frf:∀ b∈X.fs,X.H₀ b=none
structure Inv(X:Cx)(pins:List (ca×ki))(σ:List (Option V))(H:Hp)(s:Shared):Prop where
 ok:X.Ok
 os:s.os=X.s₀.os
 bare:am s.gens
 base:Un X.fs X.ex X.H₀ H X.s₀.heap s.heap
 loc:∃ m,s.heap.Ns X.env.locals m/\∀ (i:Nat) (x:xa) (v:V),X.N[i]? =some x->σ[i]? =some (some v)->Wx X.env.scope x->∃ u,RelV v u/\Look X.env s.heap m x u
 cell:∀ x c,X.env.cells.lookup x=some c->∃ v,s.heap.IsCell c v
 free:H X.env.locals=none
 freeC:∀ x c,X.env.cells.lookup x=some c->H c=none
 pin:∀ p∈X.pn++pins,s.heap.get? p.1=some p.2/\H p.1=none/\p.1≠X.env.locals/\p.1∉X.fs/\∀ v,p.2.data≠ .cell v
 hok:HOk X.prog X.w H s.heap
 len:σ.length=X.N.length
variable{x:xa}{Q:Unit->Shared->Prop}{X:Cx}{pins:List (ca×ki)}{g':Array ql}{t' i j:Nat}{d':Drawn}{ch:List ca}{it:ca}{M:Model}{s':Shared}
section
variable {σ:List (Option V)}
theorem Cx.Ok.nofr(ok:X.Ok)(e:X.base.get? b=some o):b∉X.fs:=λhb=>by
 have:=(ok.funs.mem hb).1;rw[e]at this;cases this
theorem Inv.bs(I:Inv X pins σ H s):∀ b o,X.base.get? b=some o->s.heap.get? b=some o/\H b=none:=λb o e=>
 ⟨I.base.keep b o (I.ok.bs b o e).1 (I.ok.bs b o e).2 (I.ok.nofr e) (I.ok.noex b o e),I.base.free b o (I.ok.bs b o e).1 (I.ok.bs b o e).2 (I.ok.noex b o e)⟩
theorem Inv.bk(I:Inv X pins σ H s):∀ b o,X.base.get? b=some o->s.heap.get? b=some o:=λb o e=>(I.bs b o e).1
theorem Inv.mod(I:Inv X pins σ H s):Mod X.K X.mg X.base:=I.ok.mod
theorem Inv.kIn(I:Inv X pins σ H s):X.K.In s.heap:=I.ok.mod.kin.keeps I.bk
theorem Inv.lt(I:Inv X pins σ H s):X.env.locals<s.heap.objs.size:=let ⟨_,hn,_⟩:=I.loc;hn.lt
theorem Inv.sz(I:Inv X pins σ H s):X.s₀.heap.objs.size<=s.heap.objs.size:=uf I.ok.above (rl I.lt)
theorem Inv.nofs(I:Inv X pins σ H s)(h:s.heap.objs.size<=a):a∉X.fs:=λhb=>by
 obtain⟨_,o,ho,_⟩:=I.ok.funs.mem hb;exact absurd (yd (qd ho) (uf I.sz h)) (oh _)
theorem Inv.cne(I:Inv X pins σ H s):∀ x c,X.env.cells.lookup x=some c->c≠X.env.locals:=λx c e z=>by
 obtain⟨v,o,ho,hd⟩:=I.cell x c e;obtain⟨m,⟨o',es,ep,ho',hd',_⟩,_⟩:=I.loc;rw[z,ho']at ho;cases ho;rw[hd']at hd;cases hd
theorem Inv.funs(I:Inv X pins σ H s):s.heap.FunFrames X.base X.outer:=by
 have all:∀ (l:List tu),(∀ b∈Zp l,b∈X.fs)->X.s₀.heap.FunFrames X.base l->s.heap.FunFrames X.base l:=by
  intro l
  induction l with
  |nil=>intro _ _;trivial
  |cons env r ih=>
   intro hs hl;obtain⟨hk,⟨L,o,hf,hn,ho,hd⟩,hr⟩:=hl;have hL:L∈X.fs:=hs L (by unfold Zp;rw[uh,hf];exact ib);obtain⟨sl,e⟩:=I.base.slot L o ho (I.ok.frf L hL) hL λz=>I.ok.exfs L z hL;exact⟨hk,⟨L,_,hf,hn,e,hd⟩,ih (λb hb=>hs b (by unfold Zp;rw[uh,hf];exact ua _ hb)) hr⟩
 exact all X.outer (λ_ hb=>hb) I.ok.funs
theorem Inv.stack(I:Inv X pins σ H s):s.heap.FunFrames X.base X.stack:=by
 rcases I.ok.stk with e|⟨e,hf⟩
 .rw[e];exact I.funs
 .rw[e];obtain⟨m,hn,_⟩:=I.loc;refine .cons (by rw[I.ok.kind];decide) hf hn ?_ I.funs;exact Heap.get?_none_of_le (uf I.ok.bsz I.ok.above)
theorem Inv.stkSub(I:Inv X pins σ H s):∀ b∈Zp X.stack,b∈X.env.locals::X.fs:=λb hb=>by
 rcases I.ok.stk with e|⟨e,hf⟩
 .rw[e]at hb;exact ua _ hb
 .rw[e]at hb
  unfold Zp at hb;rw[uh,hf]at hb
  exact hb
theorem Inv.stkFree(I:Inv X pins σ H s):∀ b∈Zp X.stack,H b=none:=λb hb=>by
 rcases zc.mp (I.stkSub b hb) with e|hb
 .rw[e];exact I.free
 .obtain⟨_,o,ho,_⟩:=I.ok.funs.mem hb;exact I.base.free b o ho (I.ok.frf b hb) λz=>I.ok.exfs b z hb
theorem Inv.step(I:Inv X pins σ H s)(hch:∀ b∈ch,(b∈X.ex\/X.s₀.heap.objs.size<=b)/\b≠X.env.locals/\(∀ x c,X.env.cells.lookup x=some c->c≠b)/\∀ p∈X.pn++pins,p.1≠b)(keep:∀ b o,b≠X.env.locals->b∉X.fs->b∉ch->s.heap.get? b=some o->H b=none->h'.get? b=some o)(slot:∀ b o,b≠X.env.locals->b∈X.fs->b∉ch->s.heap.get? b=some o->H b=none->∃ sl,h'.get? b=some {o with slots:=sl})(free:∀ b o,b∉ch->s.heap.get? b=some o->H b=none->H' b=none)(there:∀ b o,b∉ch->s.heap.get? b=some o->∃ o',h'.get? b=some o')(tups:∀ b xs,H b=some (.tup xs)->H' b=some (.tup xs))(frzs:∀ b o u,H b=some (.frz o u)->H' b=some (.frz o u))(tbls:∀ b ps,H b=some (.tbl ps)->∃ more,H' b=some (.tbl (ps++more)))(ns:∀ m,s.heap.Ns X.env.locals m->h'.Ns X.env.locals m)(hok:HOk X.prog X.w H' h')(hg:am g'):
  Inv X pins σ H' {s with heap:=h',gens:=g',drawn:=d',toks:=t'}:=by
 have neL:∀ b o,X.s₀.heap.get? b=some o->b≠X.env.locals:=λb o e=>Re (yd (qd e) I.ok.above)
 have neC:∀ b o,X.s₀.heap.get? b=some o->b∉X.ex->b∉ch:=λb o e hx hb=>by
  rcases(hch b hb).1 with z|z
  .exact hx z
  .exact absurd (yd (qd e) z) (oh _)
 have cellK:∀ x c,X.env.cells.lookup x=some c->∀ v,s.heap.IsCell c v->h'.IsCell c v:=λx c e v ⟨o,ho,hd⟩=>by
  have nch:c∉ch:=λz=>(hch c z).2.2.1 x c e rfl;by_cases hc:c∈X.fs
  .obtain⟨sl,q⟩:=slot c o (I.cne x c e) hc nch ho (I.freeC x c e);exact⟨_,q,hd⟩
  .exact⟨o,keep c o (I.cne x c e) hc nch ho (I.freeC x c e),hd⟩
 refine⟨I.ok,I.os,hg,⟨λb o e n hb hx=>?_,λb o e n hb hx=>?_,λb o e n hx=>?_,λb o e hx=>?_,λb xs e=>tups b xs (I.base.tups b xs e),λb o xs e=>frzs b o xs (I.base.frzs b o xs e),λb ps e=>?_⟩,?_,λx c e=>?_,?_,λx c e=>?_,λp hp=>?_,hok,I.len⟩
 .exact keep b o (neL b o e) hb (neC b o e hx) (I.base.keep b o e n hb hx) (I.base.free b o e n hx)
 .obtain⟨sl,e1⟩:=I.base.slot b o e n hb hx;obtain⟨sl',e2⟩:=slot b _ (neL b o e) hb (neC b o e hx) e1 (I.base.free b o e n hx);exact⟨sl',e2⟩
 .obtain⟨o',e1⟩:=I.base.there b o e hx;exact free b o' (neC b o e hx) e1 (I.base.free b o e n hx)
 .obtain⟨o',e1⟩:=I.base.there b o e hx;exact there b o' (neC b o e hx) e1
 .obtain⟨m1,e1⟩:=I.base.tbls b ps e;obtain⟨m2,e2⟩:=tbls b _ e1;exact⟨m1++m2,by rw[e2,Array.append_assoc]⟩
 .obtain⟨m,hn,hl⟩:=I.loc;refine⟨m,ns m hn,λi x v e1 e2 e3=>?_⟩;obtain⟨u,r,l⟩:=hl i x v e1 e2 e3;refine⟨u,r,?_⟩;rcases l with l|⟨k,c,e,z⟩
  .exact .inl l
  .exact .inr ⟨k,c,e,cellK x c e _ z⟩
 .obtain⟨v,z⟩:=I.cell x c e;exact⟨v,cellK x c e v z⟩
 .obtain⟨m,⟨o,_,_,ho,_⟩,_⟩:=I.loc;exact free _ o (λz=>(hch _ z).2.1 rfl) ho I.free
 .obtain⟨v,o,ho,hd⟩:=I.cell x c e;exact free c o (λz=>(hch c z).2.2.1 x c e rfl) ho (I.freeC x c e)
 .obtain⟨e,n,ne,nf,d⟩:=I.pin p hp;have nch:p.1∉ch:=λz=>(hch p.1 z).2.2.2 p hp rfl;exact⟨keep p.1 p.2 ne nf nch e n,free p.1 p.2 nch e n,ne,nf,d⟩
theorem Inv.un(I:Inv X pins σ H s)(u:Un X.fs [] H H' s.heap h')(hok:HOk X.prog X.w H' h'):Inv X pins σ H' {s with heap:=h',toks:=t'}:=by
 obtain⟨m,⟨o,es,ep,ho,r⟩,_⟩:=id I.loc;obtain⟨sl,hL⟩:=u.any ho I.free (by simp)
 exact I.step (g':=s.gens) (d':=s.drawn) (ch:= []) (λ_ z=>nomatch z) (λb o _ hb _ e n=>u.keep b o e n hb (by simp)) (λb o _ hb _ e n=>u.slot b o e n hb (by simp)) (λb o _ e n=>u.free b o e n (by simp)) (λb o _ e=>u.there b o e (by simp)) u.tups u.frzs u.tbls (λm' hm=>by
  obtain⟨o',es',ep',ho',r'⟩:=hm;rw[ho]at ho';cases ho'
  exact⟨_,es',ep',hL,r'⟩) hok I.bare
theorem Inv.call(I:Inv X pins σ H s)(u:Un (Zp X.stack) ch H H' s.heap h')(hok:HOk X.prog X.w H' h')(hg:am g')(hch:∀ b∈ch,(b∈X.ex\/X.s₀.heap.objs.size<=b)/\b≠X.env.locals/\(∀ x c,X.env.cells.lookup x=some c->c≠b)/\∀ p∈X.pn++pins,p.1≠b):
  Inv X pins σ H' {s with heap:=h',gens:=g',drawn:=d',toks:=t'}:=by
 obtain⟨m,⟨o,es,ep,ho,r⟩,_⟩:=id I.loc;obtain⟨sl,hL⟩:=u.any ho I.free λz=>(hch _ z).2.1 rfl
 exact I.step (ch:=ch) hch (λb o hL hb hc e n=>u.keep b o e n (λz=>(zc.mp (I.stkSub b z)).elim hL hb) hc) (λb o _ _ hc e n=>u.any e n hc) (λb o hc e n=>u.free b o e n hc) (λb o hc e=>u.there b o e hc) u.tups u.frzs u.tbls (λm' hm=>by
  obtain⟨o',es',ep',ho',r'⟩:=hm;rw[ho]at ho';cases ho'
  exact⟨_,es',ep',hL,r'⟩) hok hg
theorem Inv.turned(I:Inv X pins σ H s)(k:∀ b o,b≠it->s.heap.get? b=some o->h'.get? b=some o)(hn:H it=none)(hL:it≠X.env.locals)(h1:it∈X.ex\/X.s₀.heap.objs.size<=it)(h2:∀ x c,X.env.cells.lookup x=some c->c≠it)(h3:∀ p∈X.pn++pins,p.1≠it):Inv X pins σ H {s with heap:=h',toks:=t'}:=by
 have nit:∀ b u,H b=some u->b≠it:=λb u e z=>by rw[z,hn]at e;cases e
 refine I.step (g':=s.gens) (d':=s.drawn) (ch:= [it]) (λb hb=>?_) (λb o _ _ hc e _=>k b o (λz=>hc (by simp[z])) e) (λb o _ _ hc e _=>⟨o.slots,k b o (λz=>hc (by simp[z])) e⟩) (λ_ _ _ _ n=>n)
  (λb o hc e=>⟨o,k b o (λz=>hc (by simp[z])) e⟩) (λ_ _ e=>e) (λ_ _ _ e=>e) (λb ps e=>⟨#[],by rw[e];simp⟩) (λm hm=>?_) (λb u e=>?_) I.bare
 .have e:b=it:=by simpa using hb
  subst e;exact⟨h1,hL,h2,h3⟩
 .obtain⟨o,es,ep,ho,r⟩:=hm;exact⟨o,es,ep,k _ o (qk hL) ho,r⟩
 .refine(I.hok b u e).stay (λc v hc q=>k c v ?_ q) (λ_ q=>q) λ_ _ q=>q;rcases hc with z|z
  .rw[z];exact nit b u e
  .exact nit c _ z
theorem Inv.tok(I:Inv X pins σ H s)(t:Nat):Inv X pins σ H {s with toks:=t}:=I.un (h':=s.heap) (t':=t) Un.refl I.hok
theorem Inv.kept(I:Inv X pins σ H s)(k:∀ b u,s.heap.get? b=some u->h'.get? b=some u):Inv X pins σ H {s with heap:=h',toks:=t'}:=I.un (Un.kept k) (I.hok.kept k)
theorem Inv.laid{o:HO}(I:Inv X pins σ H s)(k:∀ b u,s.heap.get? b=some u->h'.get? b=some u)(hp:s.heap.objs.size<=a)(new:ObjOk X.prog X.w (Pb H a o) h' a o):
  Inv X pins σ (Pb H a o) {s with heap:=h',toks:=t'}:=I.un (Un.laid k hp (I.hok.fresh hp)) (I.hok.laid k hp new)
theorem Inv.write{x:ca}{o:HO}(I:Inv X pins σ H s)(mu:K8 (H x))(he:e=x\/H e=some (.own x))(k:∀ b u,b≠e->s.heap.get? b=some u->h'.get? b=some u)(heo:∃ u,h'.get? e=some u)(new:ObjOk X.prog X.w (Pb H x o) h' x o):Inv X pins σ (Pb H x o) {s with heap:=h',toks:=t'}:=I.un (Un.write mu he k heo) (I.hok.write mu he k heo new)
theorem Inv.pins_of{pins':List (ca×ki)}(I:Inv X pins σ H s)(h:∀ p∈pins',s.heap.get? p.1=some p.2/\H p.1=none/\p.1≠X.env.locals/\p.1∉X.fs/\∀ v,p.2.data≠ .cell v):Inv X pins' σ H s:=
 ⟨I.ok,I.os,I.bare,I.base,I.loc,I.cell,I.free,I.freeC,λp hp=>(ag.mp hp).elim (λz=>I.pin p (oq _ z)) (h p),I.hok,I.len⟩
theorem Us{N:List xa}(hN:N.Nodup)(a:N[i]? =some x)(b:N[j]? =some x):i=j:=by
 obtain⟨h1,e1⟩:=ya.mp a;obtain⟨h2,e2⟩:=ya.mp b;exact(List.getElem_inj hN).mp (e1.trans e2.symm)
theorem GJ{v:V}(I:Inv X pins σ H s)(hN:X.N.Nodup)(hi:X.N[i]? =some x)(hx:Loc X.env.scope x)(r:RelV v u)(h:∀ s',Inv X pins (σ.set i (some v)) H s'->(∃ a,dm a s.heap s'.heap/\(a=X.env.locals\/X.env.cells.lookup x=some a))->Q () s')(hf:X.fn x=true\/X.env.scope.names.lookup x=some .local:=by first|exact .inl rfl|exact .inr rfl|assumption):wa M A (storeName X.env x u) Q E s:=by
 obtain⟨m,hn,hl⟩:=id I.loc;have hcls:(X.env.scope.kind== .class||(X.env.scope.kind== .module&&X.env.locals != X.env.globals))=false:=by rw[I.ok.kind];rfl
 have hiσ:i<σ.length:=by rw[I.len];exact(ya.mp hi).1
 have cne:=I.cne
 have tracked:∀ {a:ca} {h':ke},(∃ o,s.heap.get? a=some o/\H a=none)->dm a s.heap h'->HOk X.prog X.w H h':=λ{a h'} ha hs b ob e=>by
  obtain⟨_,_,hfree⟩:=ha;refine(I.hok b ob e).stay (λc w' hc q=>(hs.2 c ?_).trans q) (λ_ q=>q) λ_ _ q=>q;rintro rfl;rcases hc with rfl|hc
  .rw[hfree]at e;cases e
  .rw[hfree]at hc;cases hc
 rcases hx with hk|hk
 .refine wpAny_storeName_local hk hn (λh' hn' hs=>?_) hcls;obtain⟨oL,_,_,hoL,_⟩:=id hn;refine h _ ⟨I.ok,I.os,I.bare,⟨λb o e n hb hx=>?_,λb o e n hb hx=>?_,I.base.free,λb o e hx=>?_,I.base.tups,I.base.frzs,I.base.tbls⟩,⟨_,hn',λj y v' e1 e2 e3=>?_⟩,λy c e=>?_,I.free,I.freeC,λp hp=>?_,tracked ⟨oL,hoL,I.free⟩ hs,by simpa using I.len⟩ ⟨_,hs,.inl rfl⟩
  .exact(hs.2 b (Re (yd (qd e) I.ok.above))).trans (I.base.keep b o e n hb hx)
  .obtain⟨sl,e1⟩:=I.base.slot b o e n hb hx;exact⟨sl,(hs.2 b (Re (yd (qd e) I.ok.above))).trans e1⟩
  .obtain⟨o',e1⟩:=I.base.there b o e hx;exact⟨o',(hs.2 b (Re (yd (qd e) I.ok.above))).trans e1⟩
  .by_cases hj:j=i
   .subst hj;rw[hi]at e1;cases e1
    rw[me hiσ]at e2
    cases e2;exact⟨u,r,.inl ⟨hk,by simp⟩⟩
   .rw[pd (qk hj)]at e2
    obtain⟨u',r',q⟩:=hl j y v' e1 e2 e3;refine⟨u',r',?_⟩;rcases q with⟨k,e⟩|⟨k,c,e,z⟩
    .refine .inl ⟨k,?_⟩;have:y≠x:=λe=>hj (Us hN e1 (e▸hi));simp[this,e]
    .exact .inr ⟨k,c,e,z.sameBut hs (cne y c e)⟩
  .obtain⟨w',z⟩:=I.cell y c e;exact⟨w',z.sameBut hs (cne y c e)⟩
  .obtain⟨e,n,ne,nf,d⟩:=I.pin p hp;exact⟨(hs.2 p.1 ne).trans e,n,ne,nf,d⟩
 .have hfn:X.fn x=true:=by
   rcases hf with z|z
   .exact z
   .rw[z]at hk;cases hk
  obtain⟨c,hc⟩:=I.ok.has x (.inl hk);obtain⟨w',z⟩:=I.cell x c hc;refine wpAny_storeName_cell I.ok.kind hk hc z (λh' hc' hs=>?_);obtain⟨oc,hoc,hocd⟩:=id z;refine h {s with heap:=h'} ⟨I.ok,I.os,I.bare,⟨λb o e n hb hx=>?_,λb o e n hb hx=>?_,I.base.free,λb o e hx=>?_,I.base.tups,I.base.frzs,I.base.tbls⟩,⟨m,hn.sameBut hs (qk (cne x c hc)),λj y v' e1 e2 e3=>?_⟩,λy c' e=>?_,I.free,I.freeC,λp hp=>?_,tracked ⟨oc,hoc,I.freeC x c hc⟩ hs,by simpa using I.len⟩ ⟨c,hs,.inr hc⟩
  .exact(hs.2 b (Re (yd (qd e) (I.ok.cab x c hfn hc)))).trans (I.base.keep b o e n hb hx)
  .obtain⟨sl,e1⟩:=I.base.slot b o e n hb hx;exact⟨sl,(hs.2 b (Re (yd (qd e) (I.ok.cab x c hfn hc)))).trans e1⟩
  .obtain⟨o',e1⟩:=I.base.there b o e hx;exact⟨o',(hs.2 b (Re (yd (qd e) (I.ok.cab x c hfn hc)))).trans e1⟩
  .by_cases hj:j=i
   .subst hj;rw[hi]at e1;cases e1
    rw[me hiσ]at e2
    cases e2;exact⟨u,r,.inr ⟨.inl hk,c,hc,hc'⟩⟩
   .rw[pd (qk hj)]at e2
    obtain⟨u',r',q⟩:=hl j y v' e1 e2 e3;refine⟨u',r',?_⟩;rcases q with q|⟨k,c',e,z'⟩
    .exact .inl q
    .refine .inr ⟨k,c',e,z'.sameBut hs ?_⟩;rintro rfl;exact hj (Us hN e1 (I.ok.inj _ _ _ e hc▸hi))
  .by_cases hcc:c'=c
   .subst hcc;exact⟨_,hc'⟩
   .obtain⟨w2,z2⟩:=I.cell y c' e;exact⟨w2,z2.sameBut hs hcc⟩
  .obtain⟨e,n,ne,nf,d⟩:=I.pin p hp;refine⟨(hs.2 p.1 ?_).trans e,n,ne,nf,d⟩;intro q;rw[q,hoc]at e
   have q':oc=p.2:=yb e;exact d w' (by rw[<-q'];exact hocd)
theorem Jo{v:V}(I:Inv X pins σ H s)(hN:X.N.Nodup)(hi:X.N[i]? =some x)(hx:Loc X.env.scope x)(r:RelV v u)(h:∀ s',Inv X pins (σ.set i (some v)) H s'->Q () s')(hf:X.fn x=true\/X.env.scope.names.lookup x=some .local:=by first|exact .inl rfl|exact .inr rfl|assumption):wa M A (storeName X.env x u) Q E s:=
 GJ I hN hi hx r (λs' I' _=>h s' I') hf
theorem Inv.call'(I:Inv X pins σ H s)(ho:s'.os=s.os)(u:Un (Zp X.stack) ch H H' s.heap s'.heap)(hok:HOk X.prog X.w H' s'.heap)(hg:am s'.gens)(hch:∀ b∈ch,(b∈X.ex\/X.s₀.heap.objs.size<=b)/\b≠X.env.locals/\(∀ x c,X.env.cells.lookup x=some c->c≠b)/\∀ p∈X.pn++pins,p.1≠b):Inv X pins σ H' s':=by
 obtain⟨h',g',d',t',o'⟩:=s';have e:o'=s.os:=ho;subst e;exact I.call (g':=g') (t':=t') (d':=d') u hok hg hch
end
abbrev XK:=Fa->Option ca×Bool->Hp->Prop
abbrev St:=List (Option V)
abbrev VK:=V->Hp->Prop
abbrev TE:=St->Hp->VK->Prop
abbrev TT:=St->Hp->(Bool->Hp->Prop)->Prop
abbrev TA:=St->Hp->(List V->Hp->Prop)->Prop
structure Ends where
 nx:St->Hp->Prop
 rt:VK
 bk:St->Hp->Prop:=λ_ _=>False
 ct:St->Hp->Prop:=λ_ _=>False
abbrev TS:=Ends->St->Hp->Prop
def EP(X:Cx)(pins:List (ca×ki))(σ:St)(Q:VK)(u:Fa)(s':Shared):Prop:=∃ v H',Inv X pins σ H' s'/\RelV v u/\Q v H'
def TP(X:Cx)(pins:List (ca×ki))(σ:St)(Q:Bool->Hp->Prop)(b:Bool)(s':Shared):Prop:=∃ H',Inv X pins σ H' s'/\Q b H'
def AP(X:Cx)(pins:List (ca×ki))(σ:St)(Q:List V->Hp->Prop)(us:List Fa)(s':Shared):Prop:=∃ vs H',Inv X pins σ H' s'/\Vals vs us/\Q vs H'
def SP(X:Cx)(pins:List (ca×ki))(D:Ends)(f:Flow)(s':Shared):Prop:=
 match f with
 | .next=>∃ σ' H',Inv X pins σ' H' s'/\D.nx σ' H'
 | .brk=>∃ σ' H',Inv X pins σ' H' s'/\D.bk σ' H'
 | .cont=>∃ σ' H',Inv X pins σ' H' s'/\D.ct σ' H'
 | .ret u=>∃ v σ' H',Inv X pins σ' H' s'/\RelV v u/\D.rt v H'
def PE(X:Cx)(e:qc)(t:TE):Prop:=
 ∀ (pins:List (ca×ki)) (s:Shared) (σ:St) (H:Hp) (Q:VK),Inv X pins σ H s->t σ H Q->wa (pb X.prog X.w) X.A (eval e X.env) (EP X pins σ Q) X.xe s
def PT(X:Cx)(e:qc)(t:TT):Prop:=
 ∀ (pins:List (ca×ki)) (s:Shared) (σ:St) (H:Hp) (Q:Bool->Hp->Prop),Inv X pins σ H s->t σ H Q->wa (pb X.prog X.w) X.A (isTrue e X.env (eval e X.env)) (TP X pins σ Q) X.xe s
def PW(X:Cx)(e:qc)(t:TT):Prop:=
 ∀ (whole:Sem Fa) (pins:List (ca×ki)) (s:Shared) (σ:St) (H:Hp) (Q:Bool->Hp->Prop),Inv X pins σ H s->t σ H Q->wa (pb X.prog X.w) X.A (isTrue e X.env whole) (TP X pins σ Q) X.xe s
variable{e:qc}
theorem PW.pt{t:TT}(h:PW X e t):PT X e t:=h _
def PA(X:Cx)(es:List qc)(t:TA):Prop:=
 ∀ (pos:vg) (pins:List (ca×ki)) (s:Shared) (σ:St) (H:Hp) (Q:List V->Hp->Prop),Inv X pins σ H s->t σ H Q->wa (pb X.prog X.w) X.A (spliced (zd pos (aa es X.env))) (AP X pins σ Q) X.xe s
def PS(X:Cx)(st:sf)(t:TS):Prop:=
 ∀ (pins:List (ca×ki)) (s:Shared) (σ:St) (H:Hp) (D:Ends),Inv X pins σ H s->t D σ H->wa (pb X.prog X.w) X.A (exec st X.env) (SP X pins D) X.xe s
def PSs(X:Cx)(st:List sf)(t:TS):Prop:=
 ∀ (pins:List (ca×ki)) (s:Shared) (σ:St) (H:Hp) (D:Ends),Inv X pins σ H s->t D σ H->wa (pb X.prog X.w) X.A (execs st X.env) (SP X pins D) X.xe s
theorem thn{t:Sem α}{Q Q':α->Shared->Prop}(h:wa M A t Q E s)(hQ:∀ a s,Q a s->Q' a s):wa M A t Q' E s:=af h hQ λ_ _ x=>x
variable{Q:Fa->Shared->Prop}{a b:qc}{σ:St}{ta tb:TE}{pos:vg}{op:CmpOp}
section
def U7(i:Nat):TE:=λσ H Q=>∃ v,σ[i]? =some (some v)/\Q v H
def tC(v:V):TE:=λ_ H Q=>Q v H
theorem Bi{pos:vg}(hN:X.N[i]? =some x)(hv:Wx X.env.scope x)(hd:(x==("__debug__":xa))=false:=by decide)(hcd:(x==("__classdict__":xa))=false:=by decide):PE X (.Name x pos) (U7 i):=by
 intro pins s σ H Q I h;obtain⟨v,e,h⟩:=h;obtain⟨m,hn,hl⟩:=I.loc;obtain⟨u,r,l⟩:=hl i x v hN e hv;have fin:EP X pins σ Q u s:=⟨v,H,I,r,h⟩
 rcases l with⟨hk,hm⟩|⟨hk,c,hc,hcell⟩
 .exact wpAny_Name (wpAny_loadName_local I.ok.kind hk hn hm fin) hd
 .rcases hk with hk|hk
  .exact wpAny_Name (wpAny_loadName_cell I.ok.kind hk hc hcell fin) hd
  .exact wpAny_Name (wpAny_loadName_free I.ok.kind hk hc hcell fin hcd) hd
theorem F2{i j pos}:PE X (.Constant (.int i) j pos) (tC (.int i)):=λ_ _ _ H _ I h=>wpAny_Constant_int ⟨.int i,H,I.tok _,⟨_,rfl⟩,h⟩
theorem S6{b j pos}:PE X (.Constant (.bool b) j pos) (tC (.bl b)):=λ_ _ _ H _ I h=>Constant_bool ⟨.bl b,H,I,rfl,h⟩
theorem K2{j pos}:PE X (.Constant .none j pos) (tC .non):=λ_ _ _ H _ I h=>Constant_none ⟨.non,H,I,rfl,h⟩
theorem M2{x j pos}:PE X (.Constant (.str x) j pos) (tC (.str x)):=λ_ _ _ H _ I h=>Calls.Constant_str ⟨.str x,H,I.tok _,⟨_,rfl⟩,h⟩
def Gl(X:Cx)(x:xa):Prop:=X.env.kindOf x=some .globalImplicit
theorem Uq{pos:vg}(I:Inv X pins σ H s)(hg:Gl X x)(hm:X.mg x=some u)(h:Q u s)(hd:(x==("__debug__":xa))=false:=by decide):wa (pb X.prog X.w) X.A (eval (.Name x pos) X.env) Q E s:=
 yr I.ok.kind hg (Calls.loadGlobal_global (by rw[I.ok.glob];exact I.mod.glob.keeps I.bk) hm h) hd
theorem Dk{pos:vg}(I:Inv X pins σ H s)(hg:Gl X x)(hm:X.mg x=none)(hv:vf x=some u)(h:Q u s)(hn:x≠"__name__":=by decide)(hd:(x==("__debug__":xa))=false:=by decide):wa (pb X.prog X.w) X.A (eval (.Name x pos) X.env) Q E s:=by
 obtain⟨mb,h1,h2⟩:=I.mod.blt;exact yr I.ok.kind hg (Calls.loadGlobal_builtin (by rw[I.ok.glob];exact I.mod.glob.keeps I.bk) hm (by rw[I.ok.blt];exact h1.keeps I.bk) ((h2 x hn).trans hv) h) hd
theorem UU{v:V}{pos:vg}(hg:Gl X x)(hm:X.mg x=none)(hv:vf x=some u)(r:RelV v u)(hn:x≠"__name__":=by decide)(hd:(x==("__debug__":xa))=false:=by decide):PE X (.Name x pos) (tC v):=
 λ_ _ _ H _ I h=>Dk I hg hm hv ⟨v,H,I,r,h⟩ hn hd
def PC(X:Cx)(op:CmpOp)(a b:qc)(t:TE):Prop:=
 ∀ (pins:List (ca×ki)) (s:Shared) (σ:St) (H:Hp) (Q:VK),Inv X pins σ H s->t σ H Q->
  wa (pb X.prog X.w) X.A (eval a X.env) (λv s₁=>wa (pb X.prog X.w) X.A (eval b X.env) (λu s₂=>wa (pb X.prog X.w) X.A (zh op v u) (EP X pins σ Q) X.xe s₂) X.xe s₁) X.xe s
theorem Vz(b:qc)(h:op≠ .In)(h2:op≠ .NotIn):bh op b=false:=by
 have e1:(op==CmpOp.In)=false:=by cases op<;>first|rfl|exact absurd rfl h
 have e2:(op==CmpOp.NotIn)=false:=by cases op<;>first|rfl|exact absurd rfl h2
 cases b<;>simp[bh,e1,e2]
def Ab0(ta:TE):TE:=λσ H Q=>ta σ H λx H1=>Q (.bl (decide (x=.non))) H1
def P7(ta:TE):TE:=λσ H Q=>ta σ H λx H1=>Q (.bl (!decide (x=.non))) H1
theorem RelV.none_iff{x:V}(r:RelV x v):(v==Value.none)=decide (x=.non):=by
 cases x with
 |non=>cases r;rfl
 |bl _=>cases r;rfl
 |int _=>obtain⟨t,rfl⟩:=r;rfl
 |str _=>obtain⟨t,rfl⟩:=r;rfl
 |byt _=>obtain⟨t,rfl⟩:=r;rfl
 |flt _=>obtain⟨t,rfl⟩:=r;rfl
 |ref _=>cases r;rfl
 |ty _=>cases r;rfl
theorem SN{j pos'}(ha:PE X a ta):PC X .Is a (.Constant .none j pos') (Ab0 ta):=by
 intro pins s σ H Q I h;refine thn (ha pins s σ H _ I h) λv s1 ⟨x,H1,I1,r1,q1⟩=>?_;exact Constant_none (is_none_gen ⟨.bl _,H1,I1,by rw[r1.none_iff];rfl,q1⟩)
theorem TU{j pos'}(ha:PE X a ta):PC X .IsNot a (.Constant .none j pos') (P7 ta):=by
 intro pins s σ H Q I h;refine thn (ha pins s σ H _ I h) λv s1 ⟨x,H1,I1,r1,q1⟩=>?_;exact Constant_none (isnot_none_gen ⟨.bl _,H1,I1,by rw[r1.none_iff];rfl,q1⟩)
def tB(t:TE):TT:=λσ H Q=>t σ H λx H1=>∃ c,x=.bl c/\Q c H1
theorem C2{t:TE}(h:PC X op a b t)(h1:bh op b=false:=by first|exact Vz _ (by decide) (by decide)|rfl):PE X (.Compare a [op] [b] pos) t:=λpins s σ H Q I hw=>wpAny_Compare1 (h pins s σ H Q I hw) h1
theorem EO{t:TE}(h:PC X op a b t)(h1:bh op b=false:=by first|exact Vz _ (by decide) (by decide)|rfl):PT X (.Compare a [op] [b] pos) (tB t):=by
 intro pins s σ H Q I hw;refine wpAny_isTrue_Compare1 (thn (h pins s σ H _ I hw) λv s1 h1=>thn h1 λu s2 h2=>thn h2 λc s3 ⟨x,H1,I1,r1,q1⟩=>?_) h1;obtain⟨d,rfl,q⟩:=q1;cases r1;exact yt ⟨H1,I1,q⟩
theorem X2{t:TE}(h:PE X e t)(he:∀ whole,isTrue e X.env whole=(do let v <-whole;standAt e.pos;yo [v] (truthy v)):=by intro _;rfl):PT X e (tB t):=by
 intro pins s σ H Q I hw;refine isTrue_plain (thn (h pins s σ H _ I hw) λv s1 ⟨x,H1,I1,r1,q1⟩=>?_) (he _);obtain⟨d,rfl,q⟩:=q1;cases r1;exact yt ⟨H1,I1,q⟩
variable {tA tB':TT}{rest:List qc}
def Qa0(t u:TT):TT:=λσ H Q=>t σ H λc H1=>if c=true then u σ H1 Q else Q false H1
def tOr(t u:TT):TT:=λσ H Q=>t σ H λc H1=>if c=true then Q true H1 else u σ H1 Q
def Cb0(t:TT):TT:=λσ H Q=>t σ H λc H1=>Q (!c) H1
theorem OV(ha:PT X a tA):PW X (.BoolOp .And [a] pos) tA:=by
 intro wh pins s σ H Q I h;refine isTrue_and (thn (ha pins s σ H Q I h) λc s1 e=>?_);cases c with
 |true=>exact isTrue_and_nil e
 |false=>exact e
theorem A3(ha:PT X a tA):PW X (.BoolOp .Or [a] pos) tA:=by
 intro wh pins s σ H Q I h;refine isTrue_or (thn (ha pins s σ H Q I h) λc s1 e=>?_);cases c with
 |false=>exact isTrue_or_nil e
 |true=>exact e
theorem Z2(ha:PT X a tA)(hb:PW X (.BoolOp .And (b::rest) pos) tB'):PW X (.BoolOp .And (a::b::rest) pos) (Qa0 tA tB'):=by
 intro wh pins s σ H Q I h;refine isTrue_and (thn (ha pins s σ H _ I h) λc s1 ⟨H1,I1,q1⟩=>?_);cases c with
 |true=>exact hb wh pins s1 σ H1 Q I1 q1
 |false=>exact⟨H1,I1,q1⟩
theorem V6(ha:PT X a tA)(hb:PW X (.BoolOp .Or (b::rest) pos) tB'):PW X (.BoolOp .Or (a::b::rest) pos) (tOr tA tB'):=by
 intro wh pins s σ H Q I h;refine isTrue_or (thn (ha pins s σ H _ I h) λc s1 ⟨H1,I1,q1⟩=>?_);cases c with
 |true=>exact⟨H1,I1,q1⟩
 |false=>exact hb wh pins s1 σ H1 Q I1 q1
theorem V2(ha:PT X a tA):PT X (.UnaryOp .Not a pos) (Cb0 tA):=by
 intro pins s σ H Q I h;exact isTrue_not (ha pins s σ H (λc H1=>Q (!c) H1) I h)
end
def SqL(K:td)(H:Hp)(a:ca)(xs:List V):Prop:=
 Rd H a (.lst xs)\/
  ∃ (o:ki) (its:Array Fa) (n:Nat),K.lookup a=some o/\o.cls=.type "list"/\o.dict=none/\o.data=.seq its n/\its.size<=sizeLine/\Vals xs its.toList
def SqT(K:td)(H:Hp)(a:ca)(xs:List V):Prop:=
 Rd H a (.tup xs)\/
  ∃ (o:ki) (its:Array Fa) (n:Nat),K.lookup a=some o/\o.cls=.type "tuple"/\o.data=.seq its n/\its.size<=sizeLine/\Vals xs its.toList
def K9:Fa->Option V
 | .none=>some .non
 | .bool b=>some (.bl b)
 | .int i _=>some (.int i)
 | .str x _=>some (.str x)
 | .bytes b _=>some (.byt b)
 | .float b _=>some (.flt b)
 | .ref a=>some (.ref a)
 | .type n=>some (.ty n)
 |_=>none
theorem RelV.abs{x:V}(r:RelV x u):K9 u=some x:=by
 cases x with
 |non=>cases r;rfl
 |bl _=>cases r;rfl
 |int _=>obtain⟨t,rfl⟩:=r;rfl
 |str _=>obtain⟨t,rfl⟩:=r;rfl
 |byt _=>obtain⟨t,rfl⟩:=r;rfl
 |flt _=>obtain⟨t,rfl⟩:=r;rfl
 |ref _=>cases r;rfl
 |ty _=>cases r;rfl
variable{y:V}
theorem RelV.inj{x:V}(r:RelV x u)(q:RelV y u):x=y:=yb (r.abs.symm.trans q.abs)
theorem Vals.inj:∀ {xs ys:List V} {us:List Fa},Vals xs us->Vals ys us->xs=ys
 |_,_,_,.nil,.nil=>rfl
 |_,_,_,.cons r t,.cons r' t'=>by rw[r.inj r',Vals.inj t t']
variable{K:td}
section
variable {a:ca}{ys:List V}
theorem SqL.of(h:H a=some (.lst xs)):SqL K H a xs:=.inl (.inl h)
theorem SqT.of(h:H a=some (.tup xs)):SqT K H a xs:=.inl (.inl h)
theorem Inv.list(I:Inv X pins σ H s)(h:SqL X.K H a xs):∃ its:List Fa,Vals xs its/\PlainL s.heap a its.toArray/\xs.length<=sizeLine:=by
 rcases h with h|⟨o,its,n,hk,hc,hd,hs,hz,r⟩
 .obtain⟨z,its,n,r,e⟩:=h.ok I.hok;exact⟨its,r,⟨_,n,e,rfl,rfl,rfl⟩,z⟩
 .refine⟨its.toList,r,⟨o,n,I.kIn a o hk,hc,hd,by simpa using hs⟩,?_⟩;have e:=r.length;simp only[mj]at e;omega
theorem Inv.tuple(I:Inv X pins σ H s)(h:SqT X.K H a xs):∃ its:List Fa,Vals xs its/\IsTup s.heap a its.toArray/\xs.length<=sizeLine:=by
 rcases h with h|⟨o,its,n,hk,hc,hs,hz,r⟩
 .obtain⟨z,its,r,p⟩:=h.ok I.hok;exact⟨its,r,p,z⟩
 .refine⟨its.toList,r,⟨o,I.kIn a o hk,hc,n,by simpa using hs⟩,?_⟩;have e:=r.length;simp only[mj]at e;omega
theorem Inv.list_inj(I:Inv X pins σ H s)(h:SqL X.K H a xs)(h':SqL X.K H a ys):xs=ys:=by
 obtain⟨its,r,⟨o,n,e,_,_,d⟩,_⟩:=I.list h;obtain⟨its',r',⟨o',n',e',_,_,d'⟩,_⟩:=I.list h';rw[e]at e';cases e'
 rw[d]at d'
 injection d' with d1 _
 have:its=its':=by simpa using congrArg Array.toList d1
 subst this;exact r.inj r'
theorem Inv.tuple_inj(I:Inv X pins σ H s)(h:SqT X.K H a xs)(h':SqT X.K H a ys):xs=ys:=by
 obtain⟨its,r,⟨o,e,_,n,d⟩,_⟩:=I.tuple h;obtain⟨its',r',⟨o',e',_,n',d'⟩,_⟩:=I.tuple h';rw[e]at e';cases e'
 rw[d]at d'
 injection d' with d1 _
 have:its=its':=by simpa using congrArg Array.toList d1
 subst this;exact r.inj r'
end
abbrev Cx.wish(X:Cx)(E:Fa->Shared->Prop):Cx:= {X with xe:=E}
abbrev Cx.nox(X:Cx):Cx:=X.wish λ_ _=>False
theorem Cx.Ok.wish(ok:X.Ok)(E:Fa->Shared->Prop):(X.wish E).Ok:=
 ⟨ok.mod,ok.kind,ok.glob,ok.blt,ok.above,ok.inj,ok.has,ok.cab,ok.hd,ok.frames,ok.stk,ok.exf,ok.bs,ok.bsz,ok.noex,ok.exfs,ok.funs,ok.frf⟩
theorem Cx.Ok.unwish(ok:(X.wish E).Ok):X.Ok:=
 ⟨ok.mod,ok.kind,ok.glob,ok.blt,ok.above,ok.inj,ok.has,ok.cab,ok.hd,ok.frames,ok.stk,ok.exf,ok.bs,ok.bsz,ok.noex,ok.exfs,ok.funs,ok.frf⟩
theorem Inv.wish(I:Inv X pins σ H s)(E:Fa->Shared->Prop):Inv (X.wish E) pins σ H s:=⟨I.ok.wish E,I.os,I.bare,I.base,I.loc,I.cell,I.free,I.freeC,I.pin,I.hok,I.len⟩
theorem Inv.unwish(I:Inv (X.wish E) pins σ H s):Inv X pins σ H s:=⟨I.ok.unwish,I.os,I.bare,I.base,I.loc,I.cell,I.free,I.freeC,I.pin,I.hok,I.len⟩
theorem SP.unwish{D:Ends}{f:Flow}(h:SP (X.wish E) pins D f s'):SP X pins D f s':=by
 cases f with
 |next=>obtain⟨σ',H',I,q⟩:=h;exact⟨σ',H',I.unwish,q⟩
 |brk=>obtain⟨σ',H',I,q⟩:=h;exact⟨σ',H',I.unwish,q⟩
 |cont=>obtain⟨σ',H',I,q⟩:=h;exact⟨σ',H',I.unwish,q⟩
 |ret u=>obtain⟨v,σ',H',I,r,q⟩:=h;exact⟨v,σ',H',I.unwish,r,q⟩
theorem PSs.nox{st:List sf}{t:TS}(h:PSs X.nox st t):PSs X st t:=λpins s σ H D I hw=>
 af (h pins s σ H D (I.wish _) hw) (λ_ _ q=>q.unwish) λ_ _ z=>bg z
variable{te:TE}{c:qc}{tc:TT}
section
variable {st:sf}{rest:List sf}{t u:TS}
def O7:TS:=λD σ H=>D.nx σ H
def Eb0(t u:TS):TS:=λD σ H=>t {D with nx:=u D} σ H
theorem Jx:PSs X [] O7:=λ_ _ σ H _ I h=>uq ⟨σ,H,I,h⟩
theorem Co(h1:PS X st t)(h2:PSs X rest u):PSs X (st::rest) (Eb0 t u):=by
 intro pins s σ H D I h;refine wpAny_execs_cons (thn (h1 pins s σ H {D with nx:=u D} I h) λf s1 q=>?_);cases f with
 |next=>
  obtain⟨σ',H',I',q⟩:=q;exact h2 pins s1 σ' H' D I' q
 |ret v=>exact q
 |brk=>exact q
 |cont=>exact q
theorem Ar(h1:PS X st t):PSs X [st] t:=by
 intro pins s σ H D I h;refine wpAny_execs_cons (thn (h1 pins s σ H D I h) λf s1 q=>?_);cases f with
 |next=>exact uq q
 |ret v=>exact q
 |brk=>exact q
 |cont=>exact q
theorem Inv.quiet(I:Inv X pins σ H s):interactive X.env=false:=by simp[interactive,I.ok.kind]
def L7(te:TE):TS:=λD σ H=>te σ H λ_ H1=>D.nx σ H1
theorem Hx(he:PE X e te)(hs:ph e none pos.line X.env=pure false:=by rfl):PS X (.Expr e pos) (L7 te):=by
 intro pins s σ H D I h;exact wpAny_Expr_any (thn (he pins s σ H _ I h) λv s1 ⟨x,H1,I1,r1,q1⟩=>⟨σ,H1,I1,q1⟩) I.quiet hs
def Db0(te:TE):TS:=λD σ H=>te σ H D.rt
theorem Cp(he:PE X e te):PS X (.Return (some e) pos) (Db0 te):=by
 intro pins s σ H D I h;exact wpAny_Return_some (thn (he pins s σ H _ I h) λv s1 ⟨x,H1,I1,r1,q1⟩=>⟨x,σ,H1,I1,r1,q1⟩)
def Za0(c:TT)(t u:TS):TS:=λD σ H=>c σ H λb H1=>if b=true then t D σ H1 else u D σ H1
theorem RX{a b:List sf}(hc:PT X c tc)(ha:PSs X a t)(hb:PSs X b u):PS X (.If c a b pos) (Za0 tc t u):=by
 intro pins s σ H D I h;refine wpAny_If (thn (hc pins s σ H _ I h) λd s1 ⟨H1,I1,q1⟩=>?_);cases d with
 |true=>exact ha pins s1 σ H1 D I1 q1
 |false=>exact hb pins s1 σ H1 D I1 q1
def Z3:TS:=λ_ _ _=>False
theorem BO:PS X st Z3:=λ_ _ _ _ _ _ h=>h.elim
end
abbrev TG:=V->St->Hp->(St->Hp->Prop)->Prop
abbrev KQ:=List V->St->Hp->(St->Hp->Prop)->Prop
def PG(X:Cx)(target:qc)(t:TG):Prop:=
 ∀ (pins:List (ca×ki)) (s:Shared) (σ:St) (H:Hp) (v:V) (u:Fa) (Q:St->Hp->Prop),Inv X pins σ H s->RelV v u->t v σ H Q->
  wa (pb X.prog X.w) X.A (mn target X.env u) (λ_ s'=>∃ σ' H',Inv X pins σ' H' s'/\Q σ' H') X.xe s
def PGs(X:Cx)(ts:List qc)(t:KQ):Prop:=
 ∀ (pins:List (ca×ki)) (s:Shared) (σ:St) (H:Hp) (vs:List V) (us:List Fa) (Q:St->Hp->Prop),Inv X pins σ H s->Vals vs us->t vs σ H Q->
  wa (pb X.prog X.w) X.A (assignInOrder ((gg ts X.env).map (·.2)) us) (λ_ s'=>∃ σ' H',Inv X pins σ' H' s'/\Q σ' H') X.xe s
abbrev HY:=V->V->V->Hp->(Hp->Prop)->Prop
def G5(X:Cx)(t:HY):Prop:=
 ∀ (pins:List (ca×ki)) (s:Shared) (σ:St) (H:Hp) (o i v:V) (ov iv u:Fa) (Q:Hp->Prop),Inv X pins σ H s->RelV o ov->RelV i iv->RelV v u->t o i v H Q->
  wa (pb X.prog X.w) X.A (setItem ov iv u) (λ_ s'=>∃ H',Inv X pins σ H' s'/\Q H') X.xe s
variable{k n:Nat}{es:List qc}{tg:qc}{g:TG}{pos':vg}
def Az(i:Nat):TG:=λv σ H Q=>Q (σ.set i (some v)) H
theorem CV(hN:X.N.Nodup)(hi:X.N[i]? =some x)(hx:Loc X.env.scope x)(hf:X.fn x=true\/X.env.scope.names.lookup x=some .local:=by first|exact .inl rfl|exact .inr rfl|assumption):PG X (.Name x pos) (Az i):=by
 intro pins s σ H v u Q I r h;exact wpAny_assign_Name (Jo I hN hi hx r (λs' I'=>⟨_,H,I',h⟩) hf)
def T9:KQ:=λvs σ H Q=>vs= []/\Q σ H
def Z5(t:TG)(u:KQ):KQ:=λvs σ H Q=>∃ v r,vs=v::r/\t v σ H λσ' H'=>u r σ' H' Q
theorem DV:PGs X [] T9:=by
 intro pins s σ H vs us Q I r h;obtain⟨e,h⟩:=h;subst e;cases r;exact assignInOrder_nil ⟨σ,H,I,h⟩
theorem WN{t:TG}{u:KQ}(h1:PG X e t)(h2:PGs X es u)(hs:(gg (e::es) X.env).map (·.2)=mn e X.env::(gg es X.env).map (·.2):=by rfl):PGs X (e::es) (Z5 t u):=by
 intro pins s σ H vs us Q I r h;obtain⟨v,vr,e1,h⟩:=h;subst e1;cases r with
 |cons r rr=>
  rw[hs];refine assignInOrder_cons (thn (h1 pins s σ H _ _ _ I r h) λ_ s1 ⟨σ1,H1,I1,q1⟩=>?_);exact h2 pins s1 σ1 H1 _ _ Q I1 rr q1
def V9(K:td)(n:Nat)(t:KQ):TG:=λv σ H Q=>∃ a xs,v=.ref a/\SqT K H a xs/\xs.length=n/\t xs σ H Q
theorem O2{t:KQ}(hc:X.calm=true)(h:PGs X es t)(hn:(gg es X.env).length=n:=by rfl)(hst:(gg es X.env).findIdx? (·.1)=none:=by rfl):PG X (.Tuple es k pos) (V9 X.K n t):=by
 intro pins s σ H v u Q I r hw;obtain⟨a,xs,e1,hq,hl,hw⟩:=hw;subst e1;cases r;obtain⟨its,rv,ht,hz⟩:=I.tuple hq;refine assign_Tuple_tuple (I.ok.hd hc) ht (by simp[hn,<-hl,rv.length]) hst λh' hx=>?_;have I1:Inv X pins σ H {s with heap:=h'}:=I.kept (t':=s.toks) λb o e=>hx b o (Re (qd e)) e;exact h pins _ σ H xs _ Q I1 (by simpa using rv) hw
def U9(to ti:TE)(t:HY):TG:=λv σ H Q=>to σ H λo H1=>ti σ H1 λi H2=>t o i v H2 λH3=>Q σ H3
theorem N2{o i:qc}{to ti:TE}{t:HY}(ho:PE X o to)(hi:PE X i ti)(hs:G5 X t)(ha:∀ v,mn (.Subscript o i pos) X.env v=(do
   let ov <-yo [v] (eval o X.env);let iv <-yo [v,ov] (eval i X.env)
   standAt pos
   yo [v,ov,iv] (setItem ov iv v)
   release [v,ov,iv] []):=by intro _;rfl):PG X (.Subscript o i pos) (U9 to ti t):=by
 intro pins s σ H v u Q I r h;rw[ha];refine Da (ng (thn (ho pins s σ H _ I h) λov s1 ⟨x,H1,I1,r1,q1⟩=>?_));refine Da (ng (thn (hi pins s1 σ H1 _ I1 q1) λiv s2 ⟨y,H2,I2,r2,q2⟩=>?_));refine Da (wpAny_standAt (Da (ng (thn (hs pins s2 σ H2 x y v ov iv u _ I2 r1 r2 r q2) λ_ s3 ⟨H3,I3,q3⟩=>?_))));exact wpAny_release ⟨σ,H3,I3,q3⟩
def X3(te:TE)(g:TG):TS:=λD σ H=>te σ H λx H1=>g x σ H1 D.nx
theorem YN(he:PE X e te)(hg:PG X tg g)(hs:kq [tg] e pos.line X.env=pure false:=by rfl)(hw:lq [tg] e X.env=pure none:=by rfl)(h1:(gg [tg] X.env).map (·.2)= [mn tg X.env]:=by rfl):PS X (.Assign [tg] e pos) (X3 te g):=by
 intro pins s σ H D I h;refine wpAny_Assign_stores (thn (he pins s σ H _ I h) λv s1 ⟨x,H1,I1,r1,q1⟩=>?_) hs hw;rw[h1];exact thn (hg pins s1 σ H1 x v _ I1 r1 q1) λ_ s2 q=>q
theorem Ht(hN:X.N.Nodup)(hi:X.N[i]? =some x)(hx:Loc X.env.scope x)(he:PE X e te)(hs:ph e (some (.Name x pos')) pos.line X.env=pure false:=by rfl)(hf:X.fn x=true\/X.env.scope.names.lookup x=some .local:=by first|exact .inl rfl|exact .inr rfl|assumption):
  PS X (.Assign [.Name x pos'] e pos) (X3 te (Az i)):=by
 intro pins s σ H D I h;refine wpAny_Assign_Name (thn (he pins s σ H _ I h) λv s1 ⟨y,H1,I1,r1,q1⟩=>?_) hs;exact Jo I1 hN hi hx r1 (λs2 I2=>⟨_,H1,I2,q1⟩) hf
variable{body:List sf}
def A4(c:TT)(tb:TS):TS:=λD σ H=>∃ W:Nat->St->Hp->Prop,(∃ m,W m σ H)/\∀ m σ H,W m σ H->
 c σ H λb H1=>if b=true then ∃ N:St->Hp->Prop,(∀ σ' H',N σ' H'->∃ m',m'<m/\W m' σ' H')/\tb {D with nx:=N,ct:=N,bk:=D.nx} σ H1 else D.nx σ H1
theorem CO{tb:TS}(hp:sr (pb X.prog X.w) X.A X.env X.xe)(hc:PT X c tc)(hb:PSs X body tb):PS X (.While c body [] pos) (A4 tc tb):=by
 intro pins s σ H D I h;obtain⟨W,⟨m0,w0⟩,turn⟩:=h;refine wpAny_While (codeAny_whileLoop (λn s'=>∃ σ' H',Inv X pins σ' H' s'/\W n σ' H') ?_ m0 ⟨σ,H,I,w0⟩);rintro n s1 ⟨σ1,H1,I1,w1⟩;refine yj hp (thn (hc pins s1 σ1 H1 _ I1 (turn n σ1 H1 w1)) λb s2 ⟨H2,I2,q2⟩=>?_);cases b with
 |true=>
  obtain⟨N,hN,q2⟩:=q2;rw[if_pos rfl];refine yj hp (thn (hb pins s2 σ1 H2 _ I2 q2) λf s3 q3=>?_);cases f with
  |next=>
   obtain⟨σ3,H3,I3,n3⟩:=q3;obtain⟨m',hm,w3⟩:=hN σ3 H3 n3;exact⟨m',hm,σ3,H3,I3,w3⟩
  |cont=>
   obtain⟨σ3,H3,I3,n3⟩:=q3;obtain⟨m',hm,w3⟩:=hN σ3 H3 n3;exact⟨m',hm,σ3,H3,I3,w3⟩
  |brk=>exact q3
  |ret v=>exact q3
 |false=>
  rw[if_neg Db];exact uq ⟨σ1,H2,I2,q2⟩
structure It where
 go:Nat->Hp->Prop
 yld:Nat->Hp->V->Hp->Prop
 stop:Nat->Hp->Prop
def Pm(X:Cx)(pins:List (ca×ki))(H:Hp)(b:ca):Prop:=
 H b=none/\b≠X.env.locals/\b∉X.fs/\(b∈X.ex\/X.s₀.heap.objs.size<=b)/\(∀ x c,X.env.cells.lookup x=some c->c≠b)/\∀ p∈X.pn++pins,p.1≠b
theorem Inv.fpOk{b:ca}(I:Inv X pins σ H s)(hb:s.heap.objs.size<=b)(hn:H' b=none):Pm X pins H' b:=by
 refine⟨hn,xm (yd I.lt hb),I.nofs hb,.inr (uf I.sz hb),λx c e z=>?_,λp hp z=>?_⟩
 .obtain⟨v,q⟩:=I.cell x c e;exact absurd (yd q.lt (by rw[z];exact hb)) (oh _)
 .exact absurd (yd (qd (I.pin p hp).1) (by rw[z];exact hb)) (oh _)
structure Turn(P:ic)(w:vd)(K:td)(tg:qc)(J:It)(fp:List ca)(it:ca)(tn:Nat->ke->Prop):Prop where
 mem:it∈fp
 obj:∀ i h,tn i h->∀ b∈fp,∃ o,h.get? b=some o/\∀ v,o.data≠ .cell v
 keep:∀ i h h',tn i h->(∀ b∈fp,∀ o,h.get? b=some o->h'.get? b=some o)->tn i h'
 item:∀ (X:Cx),X.prog=P->X.w=w->X.K=K->X.calm=true->∀ (i:Nat) (pins:List (ca×ki)) (s:Shared) (σ:St) (H:Hp) (E:Fa->Shared->Prop),Inv X pins σ H s->(∀ b∈fp,Pm X pins H b)->tn i s.heap->J.go i H->
  wa (pb P w) X.A (pyNext (.ref it)) (λr s1=>∃ u,r=some u/\
   wa (pb P w) X.A (vq tg (.ref it) u) (λ_ s2=>∃ x H',Inv X pins σ H' s2/\RelV x u/\J.yld i H x H'/\tn (i+1) s2.heap/\∀ b∈fp,H' b=none) E s1) E s
 done:∀ (X:Cx),X.prog=P->X.w=w->X.K=K->X.calm=true->∀ (i:Nat) (pins:List (ca×ki)) (s:Shared) (σ:St) (H:Hp) (E:Fa->Shared->Prop),Inv X pins σ H s->(∀ b∈fp,Pm X pins H b)->tn i s.heap->J.stop i H->
  wa (pb P w) X.A (pyNext (.ref it)) (λr s1=>r=none/\Inv X pins σ H s1) E s
 self:∀ (A:je) (i:Nat) (s:Shared) (Q:Fa->Shared->Prop) (E:Fa->Shared->Prop),tn i s.heap->Q (.ref it) s->wa (pb P w) A (pyIter (.ref it)) Q E s
abbrev TI:=St->Hp->(It->Hp->Prop)->Prop
def PIE(X:Cx)(pins:List (ca×ki))(σ:St)(tg:qc)(R:It->Hp->Prop)(itv:Fa)(s2:Shared):Prop:=
 ∃ (it:ca) (fp:List ca) (tn:Nat->ke->Prop) (J:It) (H':Hp),itv=.ref it/\Inv X pins σ H' s2/\Turn X.prog X.w X.K tg J fp it tn/\tn 0 s2.heap/\(∀ b∈fp,Pm X pins H' b)/\R J H'
def PI(X:Cx)(tg iter:qc)(wi:TI):Prop:=
 ∀ (pins:List (ca×ki)) (s:Shared) (σ:St) (H:Hp) (R:It->Hp->Prop),Inv X pins σ H s->wi σ H R->
  wa (pb X.prog X.w) X.A (eval iter X.env) (λv s1=>wa (pb X.prog X.w) X.A (pyIter v) (PIE X pins σ tg R) X.xe s1) X.xe s
theorem HL{E : Fa -> Shared -> Prop}{n : String}{vs : Array Fa}{Q : Unit -> Shared -> Prop}(ho : s.heap.get? it = some o)(hc : o.cls = .type n)(hd : o.data = .fields vs)(hn : ["enumerate", "zip", "dict_itemiterator", "dict_reverseitemiterator", "odict_iterator", "itertools.zip_longest", "itertools.pairwise"].contains n = false)(hQ : Q () s) : wa M A (vq tg (.ref it) u) Q E s := by
  unfold vq
  cases tg <;> first
    | exact ia hQ
    | (cases u <;> first
        | exact ia hQ
        | (refine Da (wpAny_load ho ?_)
           rw[hc, hd];show wa M A (if(["enumerate", "zip", "dict_itemiterator", "dict_reverseitemiterator", "odict_iterator", "itertools.zip_longest", "itertools.pairwise"].contains n && vs[0]? == some (fg _)) = true then _ else _) Q E s;rw[if_neg (by intro h; rw[hn, Op]at h; cases h)]
           exact ia hQ))
def D9(K:td)(a:ca):It:=
 ⟨λi H=>∃ xs x,SqL K H a xs/\xs[i]? =some x,λi H x H'=>H'=H/\∀ xs,SqL K H a xs->xs[i]? =some x,λi H=>∃ xs,SqL K H a xs/\xs.length<=i⟩
def E9(K:td)(a:ca):It:=
 ⟨λi H=>∃ xs x,SqT K H a xs/\xs[i]? =some x,λi H x H'=>H'=H/\∀ xs,SqT K H a xs->xs[i]? =some x,λi H=>∃ xs,SqT K H a xs/\xs.length<=i⟩
def Itr(lo:Int)(n:Nat):It:=⟨λi _=>i<n,λi H x H'=>H'=H/\x=.int (lo+i),λi _=>n<=i⟩
theorem IJ(a it:ca):Turn P w K tg (D9 K a) [it] it (λi h=>h.IsListIter it a i) where
 mem:=by simp
 obj:=λi h st b hb=>by
  have e:b=it:=by simpa using hb
  subst e;obtain⟨o,e,c,d⟩:=st;exact⟨o,e,λv z=>by rw[d]at z;cases z⟩
 keep:=λi h h' st k=>st.at λo e=>k it (by simp) o e
 item:=by
  intro X hP hw hK hc i pins s σ H E I hf st hg;subst hP hw hK;obtain⟨xs,x,hq,hx⟩:=hg;obtain⟨its,rv,p,hz⟩:=I.list hq;obtain⟨u,hu,ru⟩:=rv.get hx;obtain⟨f0,f1,f2,f3,f4,f5⟩:=hf it (by simp);refine wpAny_pyNext_list_item st p.isList (x:=u) (by simpa using hu) λh' st' sb=>?_;have I1:Inv X pins σ H {s with heap:=h'}:=I.turned (t':=s.toks) (λb o hb e=>(sb.2 b hb).trans e) f0 f1 f3 f4 f5;obtain⟨o,e,c,d⟩:=id st';exact⟨u,rfl,HL (s:= {s with heap:=h'}) e c d (by decide) ⟨x,H,I1,ru,⟨rfl,λys hy=>by rw[I.list_inj hy hq];exact hx⟩,st',λb hb=>(hf b hb).1⟩⟩
 done:=by
  intro X hP hw hK hc i pins s σ H E I hf st hg;subst hP hw hK;obtain⟨xs,hq,hx⟩:=hg;obtain⟨its,rv,p,hz⟩:=I.list hq;obtain⟨f0,f1,f2,f3,f4,f5⟩:=hf it (by simp);have hl:=rv.length;exact wpAny_pyNext_list_end (I.ok.hd hc) st p.isList (by simp;omega) λh' eb=>⟨rfl,I.turned (t':=s.toks) (λb o hb e=>eb b o hb e) f0 f1 f3 f4 f5⟩
 self:=λ_ _ _ _ _ st h=>wpAny_pyIter_listiter st h
theorem AE(a it:ca):Turn P w K tg (E9 K a) [it] it (λi h=>h.IsTupleIter it a i) where
 mem:=by simp
 obj:=λi h st b hb=>by
  have e:b=it:=by simpa using hb
  subst e;obtain⟨o,e,c,d⟩:=st;exact⟨o,e,λv z=>by rw[d]at z;cases z⟩
 keep:=λi h h' st k=>st.at λo e=>k it (by simp) o e
 item:=by
  intro X hP hw hK hc i pins s σ H E I hf st hg;subst hP hw hK;obtain⟨xs,x,hq,hx⟩:=hg;obtain⟨its,rv,p,hz⟩:=I.tuple hq;obtain⟨u,hu,ru⟩:=rv.get hx;obtain⟨f0,f1,f2,f3,f4,f5⟩:=hf it (by simp);refine wpAny_pyNext_tuple_item st (show s.heap.IsTuple a its.toArray from p) (x:=u) (by simpa using hu) λh' st' sb=>?_;have I1:Inv X pins σ H {s with heap:=h'}:=I.turned (t':=s.toks) (λb o hb e=>(sb.2 b hb).trans e) f0 f1 f3 f4 f5;obtain⟨o,e,c,d⟩:=id st';exact⟨u,rfl,HL (s:= {s with heap:=h'}) e c d (by decide) ⟨x,H,I1,ru,⟨rfl,λys hy=>by rw[I.tuple_inj hy hq];exact hx⟩,st',λb hb=>(hf b hb).1⟩⟩
 done:=by
  intro X hP hw hK hc i pins s σ H E I hf st hg;subst hP hw hK;obtain⟨xs,hq,hx⟩:=hg;obtain⟨its,rv,p,hz⟩:=I.tuple hq;obtain⟨f0,f1,f2,f3,f4,f5⟩:=hf it (by simp);have hl:=rv.length;exact wpAny_pyNext_tuple_end (I.ok.hd hc) st (show s.heap.IsTuple a its.toArray from p) (by simp;omega) λh' eb=>⟨rfl,I.turned (t':=s.toks) (λb o hb e=>eb b o hb e) f0 f1 f3 f4 f5⟩
 self:=λ_ _ _ _ _ st h=>wpAny_pyIter_tupleiter st h
theorem ZD(it:ca)(lo:Int)(n:Nat):Turn P w K tg (Itr lo n) [it] it (λi h=>IsRangeIter h it (lo+(i:Nat)*1) ((n:Int)-(i:Nat)) 1) where
 mem:=by simp
 obj:=λi h st b hb=>by
  have e:b=it:=by simpa using hb
  subst e
  exact⟨_,st,λv z=>by
   have z':Data.fields _=Data.cell v:=z
   cases z'⟩
 keep:=λi h h' st k=>k it (by simp) _ st
 item:=by
  intro X hP hw hK hc i pins s σ H E I hf st hg;subst hP hw hK;obtain⟨f0,f1,f2,f3,f4,f5⟩:=hf it (by simp);have W:=Walks.range (prog:=X.prog) (w:=X.w) (I.ok.hd hc) it lo 1 n;refine W.item i s _ _ hg st λv h' tk hv st' kk=>?_;obtain⟨t,rfl⟩:=hv;have I1:Inv X pins σ H {s with heap:=h',toks:=tk}:=I.turned (λb o hb e=>kk b o (by simpa using hb) e) f0 f1 f3 f4 f5;refine⟨_,rfl,HL (s:= {s with heap:=h',toks:=tk}) (n:="range_iterator") st' rfl rfl (by decide) ⟨.int (lo+i),H,I1,⟨t,?_⟩,⟨rfl,rfl⟩,st',λb hb=>(hf b hb).1⟩⟩;rw[Int.mul_one]
 done:=by
  intro X hP hw hK hc i pins s σ H E I hf st hg;subst hP hw hK;obtain⟨f0,f1,f2,f3,f4,f5⟩:=hf it (by simp);exact wpAny_pyNext_range_end (I.ok.hd hc) st (by have:n<=i:=hg;omega) λh' eb=>⟨rfl,I.turned (t':=s.toks) (λb o hb e=>eb b o hb e) f0 f1 f3 f4 f5⟩
 self:=λ_ _ _ _ _ st h=>wpAny_pyIter_rangeiter st h
variable{fp:List ca}
theorem KA{R:It->Hp->Prop}{lo hi:Int}{t u v:Tok}{tk:Nat}(I:Inv X pins σ H s)(h1: -(2^62)<=lo)(h2:lo<2^62)(h3: -(2^62)<=hi)(h4:hi<2^62)(q:R (Itr lo (hi-lo).toNat) H):wa (pb X.prog X.w) X.A (pyIter (.ref s.heap.objs.size)) (PIE X pins σ tg R) E {s with heap:=s.heap.push {cls:=.type "range",data:=.fields #[.int lo t,.int hi u,.int 1 v]},toks:=tk}:=by
 refine wpAny_pyIter_range (IsRange.new ..) (small_one h1 h2 h3 h4) ?_;have I1:Inv X pins σ H {s with heap:=s.heap.push {cls:=.type "range",data:=.fields #[.int lo t,.int hi u,.int 1 v]},toks:=tk}:=I.kept λb o e=>ja _ e
 refine⟨(s.heap.push {cls:=.type "range",data:=.fields #[.int lo t,.int hi u,.int 1 v]}).objs.size,[(s.heap.push {cls:=.type "range",data:=.fields #[.int lo t,.int hi u,.int 1 v]}).objs.size],_,_,H,rfl,
  I1.kept (t':=tk) λb o e=>ja _ e,ZD _ lo (hi-lo).toNat,?_,λb hb=>?_,q⟩
 .have e1:lo+((0:Nat):Int)*1=lo:=by simp
  have e2:(((hi-lo).toNat:Nat):Int)-((0:Nat):Int)=Builtin.Range.rangeSize lo hi 1:=by rw[rangeSize_one];split<;>omega
  show IsRangeIter _ _ (lo+((0:Nat):Int)*1) ((((hi-lo).toNat:Nat):Int)-((0:Nat):Int)) 1;rw[e1,e2];exact yc _ rfl
 .have e:b=(s.heap.push {cls:=.type "range",data:=.fields #[.int lo t,.int hi u,.int 1 v]}).objs.size:=by simpa using hb
  subst e;exact I1.fpOk (jd _) (I1.hok.fresh (jd _))
def D6(ta:TA):TI:=λσ H R=>ta σ H λvs H1=>∃ j:Int,vs= [.int j]/\ -(2^62)<=j/\j<2^62/\R (Itr 0 j.toNat) H1
def E6(ta:TA):TI:=λσ H R=>ta σ H λvs H1=>∃ i j:Int,vs= [.int i,.int j]/\(-(2^62)<=i/\i<2^62/\ -(2^62)<=j/\j<2^62)/\R (Itr i (j-i).toNat) H1
theorem QI{ta:TA}{p:vg}(hg:Gl X "range")(hm:X.mg "range"=none)(ha:PA X [a] ta)(hs:aa [a] X.env= [(false,eval a X.env)]:=by rfl):PI X tg (.Call (.Name "range" p) [a] [] pos) (D6 ta):=by
 intro pins s σ H R I h;refine Call_ (Dk I hg hm boot_range (cg (thn (ha pos pins s σ H _ I h) λus s1 ⟨vs,H1,I1,r1,q1⟩=>?_) hs rfl));obtain⟨j,e,q1,q2,q⟩:=q1;subst e;cases r1 with
 |cons r rr=>
  cases rr;obtain⟨t,rfl⟩:=r;exact call_range_1 (KA I1 (by omega) (by omega) q1 q2 (by simpa using q))
theorem UI{ta:TA}{p:vg}(hg:Gl X "range")(hm:X.mg "range"=none)(ha:PA X [a,b] ta)(hs:aa [a,b] X.env= [(false,eval a X.env),(false,eval b X.env)]:=by rfl)(hs2:aa [b] X.env= [(false,eval b X.env)]:=by rfl):
  PI X tg (.Call (.Name "range" p) [a,b] [] pos) (E6 ta):=by
 intro pins s σ H R I h;refine Call_ (Dk I hg hm boot_range (cg (thn (ha pos pins s σ H _ I h) λus s1 ⟨vs,H1,I1,r1,q1⟩=>?_) (by rw[hs,hs2]) (by rw[hs2];rfl)));obtain⟨i,j,e,⟨q1,q2,q3,q4⟩,q⟩:=q1;subst e;cases r1 with
 |cons r rr=>
  cases rr with
  |cons r' rr=>
   cases rr;obtain⟨t,rfl⟩:=r;obtain⟨t',rfl⟩:=r';exact call_range_2 (KA I1 q1 q2 q3 q4 q)
def Ya0(wi:TI)(g:TG)(tb:TS):TS:=λD σ H=>wi σ H λJ H1=>∃ W:Nat->Nat->St->Hp->Prop,(∃ m,W 0 m σ H1)/\∀ i m σ H,W i m σ H->
 (J.stop i H/\D.nx σ H)\/(J.go i H/\∃ N:St->Hp->Prop,(∀ σ' H',N σ' H'->∃ m',m'<m/\W (i+1) m' σ' H')/\∀ x H',J.yld i H x H'->g x σ H' λσ2 H2=>tb {D with nx:=N,ct:=N,bk:=D.nx} σ2 H2)
def Ft(fp:List ca)(h:ke):List (ca×ki):=fp.filterMap λb=>(h.get? b).map λo=>(b,o)
theorem Gk{b:ca}(hb:b∈fp)(e:h.get? b=some o):(b,o)∈Ft fp h:=List.mem_filterMap.mpr ⟨b,hb,by rw[e];rfl⟩
theorem KI{p:ca×ki}(hp:p∈Ft fp h):p.1∈fp/\h.get? p.1=some p.2:=by
 obtain⟨b,hb,e⟩:=List.mem_filterMap.mp hp;cases q:h.get? b with
 |none=>rw[q]at e;cases e
 |some o=>
  rw[q]at e
  have e':(b,o)=p:=yb e;subst e';exact⟨hb,q⟩
theorem Inv.pinned(I:Inv X pins σ H s)(hf:∀ b∈fp,Pm X pins H b)(ho:∀ b∈fp,∃ o,s.heap.get? b=some o/\∀ v,o.data≠ .cell v):Inv X (pins++Ft fp s.heap) σ H s:=
 I.pins_of λp hp=>(ag.mp hp).elim (λz=>I.pin p (ue _ z)) λz=>by
  obtain⟨hb,e⟩:=KI z;obtain⟨f0,f1,f2,_⟩:=hf p.1 hb;obtain⟨o,e',d⟩:=ho p.1 hb;rw[e]at e';cases e'
  exact⟨e,f0,f1,f2,d⟩
theorem Inv.unpinned{pl:List (ca×ki)}(I:Inv X (pins++pl) σ H s):Inv X pins σ H s:=I.pins_of λp hp=>I.pin p (ue _ (oq _ hp))
theorem AO{iter:qc}{wi:TI}{tb:TS}(hp:sr (pb X.prog X.w) X.A X.env X.xe)(hc:X.calm=true)(hi:PI X tg iter wi)(hg:PG X tg g)(hb:PSs X body tb)(hs:∀ x,dg iter X.env x=pure x:=by intro _;rfl):PS X (.For tg iter body [] pos) (Ya0 wi g tb):=by
 intro pins s σ H D I h;refine wpAny_For (thn (hi pins s σ H _ I h) λv s1 h1=>thn h1 λitv s2 h2=>?_) hs;obtain⟨it,fp,tn,J,H2,e,I2,T,st2,f2,W,⟨m0,w0⟩,turn⟩:=h2;subst e;have stat:∀ {H':Hp},(∀ b∈fp,H' b=none)->∀ b∈fp,Pm X pins H' b:=λhn b hb=>⟨hn b hb,(f2 b hb).2⟩;refine codeAny_forLoop_any (λn s'=>∃ i σ' H',Inv X pins σ' H' s'/\tn i s'.heap/\(∀ b∈fp,H' b=none)/\W i n σ' H') ?_ m0 ⟨0,σ,H2,I2,st2,λb hb=>(f2 b hb).1,w0⟩;rintro n s3 ⟨i,σ3,H3,I3,st3,fr3,w3⟩;rcases turn i n σ3 H3 w3 with⟨stop,qn⟩|⟨go,N,hN,step⟩
 .refine yj hp (thn (T.done X rfl rfl rfl hc i pins s3 σ3 H3 X.xe I3 (stat fr3) st3 stop) λr s4 ⟨hr,I4⟩=>?_);subst hr;exact uq ⟨σ3,H3,I4,qn⟩
 .refine yj hp (thn (T.item X rfl rfl rfl hc i pins s3 σ3 H3 X.xe I3 (stat fr3) st3 go) λr s4 ⟨u,hr,h4⟩=>?_);subst hr;refine yj hp (thn h4 λ_ s5 ⟨x,H5,I5,r5,y5,st5,fr5⟩=>?_);have I5':=I5.pinned (stat fr5) (T.obj _ _ st5);refine yj hp (thn (hg _ s5 σ3 H5 x u _ I5' r5 (step x H5 y5)) λ_ s6 ⟨σ6,H6,I6,q6⟩=>?_);refine yj hp (thn (hb _ s6 σ6 H6 _ I6 q6) λf s7 q7=>?_)
  have again:∀ {σ7:St} {H7:Hp},Inv X (pins++Ft fp s5.heap) σ7 H7 s7->N σ7 H7->∃ m,m<n/\∃ i σ' H',Inv X pins σ' H' s7/\tn i s7.heap/\(∀ b∈fp,H' b=none)/\W i m σ' H':=λ{σ7 H7} I7 n7=>by
   obtain⟨m',hm,w7⟩:=hN σ7 H7 n7;refine⟨m',hm,i+1,σ7,H7,I7.unpinned,T.keep _ _ _ st5 λb hb o e=>(I7.pin (b,o) (ue _ (ue _ (Gk hb e)))).1,λb hb=>?_,w7⟩;obtain⟨o,e,d⟩:=T.obj _ _ st5 b hb;exact(I7.pin (b,o) (ue _ (ue _ (Gk hb e)))).2.1
  cases f with
  |next=>obtain⟨σ7,H7,I7,n7⟩:=q7;exact again I7 n7
  |cont=>obtain⟨σ7,H7,I7,n7⟩:=q7;exact again I7 n7
  |brk=>obtain⟨σ7,H7,I7,q7⟩:=q7;exact⟨σ7,H7,I7.unpinned,q7⟩
  |ret v=>obtain⟨x7,σ7,H7,I7,r7,q7⟩:=q7;exact⟨x7,σ7,H7,I7.unpinned,r7,q7⟩
abbrev R2:=V->V->Hp->VK->Prop
def OpR(X:Cx)(f:Fa->Fa->Sem Fa)(r:R2):Prop:=
 ∀ (pins:List (ca×ki)) (s:Shared) (σ:St) (H:Hp) (x y:V) (v u:Fa) (Q:VK),Inv X pins σ H s->RelV x v->RelV y u->r x y H Q->
  wa (pb X.prog X.w) X.A (f v u) (EP X pins σ Q) X.xe s
def J9(X:Cx)(f:Fa->Sem Fa)(r:V->Hp->VK->Prop):Prop:=
 ∀ (pins:List (ca×ki)) (s:Shared) (σ:St) (H:Hp) (x:V) (v:Fa) (Q:VK),Inv X pins σ H s->RelV x v->r x H Q->
  wa (pb X.prog X.w) X.A (f v) (EP X pins σ Q) X.xe s
def Di(X:Cx)(f:Fa)(r:List V->Hp->VK->Prop):Prop:=
 ∀ (pins:List (ca×ki)) (s:Shared) (σ:St) (H:Hp) (xs:List V) (us:List Fa) (Q:VK),Inv X pins σ H s->Vals xs us->r xs H Q->
  wa (pb X.prog X.w) X.A (call f us) (EP X pins σ Q) X.xe s
def Q7(r:R2)(ta tb:TE):TE:=λσ H Q=>ta σ H λx H1=>tb σ H1 λy H2=>r x y H2 Q
def tUn(r:V->Hp->VK->Prop)(ta:TE):TE:=λσ H Q=>ta σ H λx H1=>r x H1 Q
def rI(C:Int->Int->Prop)(g:Int->Int->V):R2:=λx y H Q=>∃ i j,x=.int i/\y=.int j/\C i j/\Q (g i j) H
def TX(g:Int->Int->V):R2:=λx y H Q=>∃ i j,x=.int i/\y=.int j/\Q (g i j) H
def rU(g:Int->V):V->Hp->VK->Prop:=λx H Q=>∃ i,x=.int i/\Q (g i) H
variable{f:Fa->Fa->Sem Fa}{tc:TE}{g:Int->Int->Int}{r:R2}
theorem TQ(ha:PE X a ta)(hb:PE X b tb){R:V->V->Hp->Prop}(I:Inv X pins σ H s)(h:ta σ H λx H1=>tb σ H1 λy H2=>R x y H2)(hf:∀ v u s2 x y H2,Inv X pins σ H2 s2->RelV x v->RelV y u->R x y H2->wa (pb X.prog X.w) X.A (f v u) Q X.xe s2):
  wa (pb X.prog X.w) X.A (eval a X.env) (λv s₁=>wa (pb X.prog X.w) X.A (eval b X.env) (λu s₂=>wa (pb X.prog X.w) X.A (f v u) Q X.xe s₂) X.xe s₁) X.xe s:=by
 refine thn (ha pins s σ H _ I h) λv s1 ⟨x,H1,I1,r1,q1⟩=>?_;refine thn (hb pins s1 σ H1 _ I1 q1) λu s2 ⟨y,H2,I2,r2,q2⟩=>?_;exact hf v u s2 x y H2 I2 r1 r2 q2
theorem QX{op:Operator}(ho:OpR X (zj op) r)(ha:PE X a ta)(hb:PE X b tb):PE X (.BinOp a op b pos) (Q7 r ta tb):=by
 intro pins s σ H Q I h;exact wpAny_BinOp (TQ ha hb I h λv u s2 x y H2 I2 rx ry q=>ho pins s2 σ H2 x y v u Q I2 rx ry q)
theorem T6{op:UnaryOp}{r:V->Hp->VK->Prop}(ho:J9 X (unaryOp op) r)(ha:PE X a ta):PE X (.UnaryOp op a pos) (tUn r ta):=by
 intro pins s σ H Q I h;exact UnaryOp_ (thn (ha pins s σ H _ I h) λv s1 ⟨x,H1,I1,r1,q1⟩=>ho pins s1 σ H1 x v Q I1 r1 q1)
theorem Q8{C:Int->Int->Prop}(rule:∀ (i j:Int) (t u:Tok) (s:Shared) (Q:Fa->Shared->Prop) (E:Fa->Shared->Prop),C i j->Q (.int (g i j) s.toks) {s with toks:=s.toks+1}->wa (pb X.prog X.w) X.A (f (.int i t) (.int j u)) Q E s):
  OpR X f (rI C λi j=>.int (g i j)):=by
 intro pins s σ H x y v u Q I rx ry h;obtain⟨i,j,rfl,rfl,hc,q⟩:=h;obtain⟨t,rfl⟩:=rx;obtain⟨t',rfl⟩:=ry;exact rule i j t t' s _ _ hc ⟨.int (g i j),H,I.tok _,⟨_,rfl⟩,q⟩
theorem N6(rule:∀ (i j:Int) (t u:Tok) (s:Shared) (Q:Fa->Shared->Prop) (E:Fa->Shared->Prop),Q (.int (g i j) s.toks) {s with toks:=s.toks+1}->wa (pb X.prog X.w) X.A (f (.int i t) (.int j u)) Q E s):
  OpR X f (TX λi j=>.int (g i j)):=by
 intro pins s σ H x y v u Q I rx ry h;obtain⟨i,j,rfl,rfl,q⟩:=h;obtain⟨t,rfl⟩:=rx;obtain⟨t',rfl⟩:=ry;exact rule i j t t' s _ _ ⟨.int (g i j),H,I.tok _,⟨_,rfl⟩,q⟩
theorem LU{g:Int->Int->Bool}(rule:∀ (i j:Int) (t u:Tok) (s:Shared) (Q:Fa->Shared->Prop) (E:Fa->Shared->Prop),Q (.bool (g i j)) s->wa (pb X.prog X.w) X.A (f (.int i t) (.int j u)) Q E s):
  OpR X f (TX λi j=>.bl (g i j)):=by
 intro pins s σ H x y v u Q I rx ry h;obtain⟨i,j,rfl,rfl,q⟩:=h;obtain⟨t,rfl⟩:=rx;obtain⟨t',rfl⟩:=ry;exact rule i j t t' s _ _ ⟨.bl (g i j),H,I,rfl,q⟩
def X8(i j:Int):Prop:=0<j/\j<1073741824
def Y8(i j:Int):Prop:=0<=j/\j<=1000000/\i.natAbs<2^64
def CMul(i j:Int):Prop:=(-(2^64)<i/\i<2^64)\/(-(2^64)<j/\j<2^64)
theorem CMul.ok{i j:Int}(h:CMul i j):IntMulOk i j:=by
 rcases h with⟨h1,h2⟩|⟨h1,h2⟩
 .exact .of_left (intBits_le_64 h1 h2)
 .exact .of_right (intBits_le_64 h1 h2)
theorem O1:OpR X (zj .Add) (TX λi j=>.int (i+j)):=N6 λ_ _ _ _ _ _ _ q=>add_int q
theorem Z1:OpR X (zj .Sub) (TX λi j=>.int (i-j)):=N6 λ_ _ _ _ _ _ _ q=>sub_int q
theorem U1:OpR X (zj .Mult) (rI CMul λi j=>.int (i*j)):=Q8 λ_ _ _ _ _ _ _ hc q=>mul_int q hc.ok
theorem OU:OpR X (zj .FloorDiv) (rI X8 λi j=>.int (i / j)):=Q8 λi j _ _ _ _ _ hc q=>by
 have h1:(0:Int)<j:=hc.1;have h2:j<1073741824:=hc.2;exact floordiv_int (by omega) (by rw[Int.fdiv_eq_ediv_of_nonneg i (by omega)];exact q) (.inl (PyProof.noPylong_small (by omega)))
theorem T1:OpR X (zj .Mod) (rI (λ_ j=>0<j) λi j=>.int (i%j)):=Q8 λi j _ _ _ _ _ hc q=>by
 have h1:(0:Int)<j:=hc;exact mod_int' (by omega) (by rw[Int.fmod_eq_emod_of_nonneg i (by omega)];exact q)
theorem Y1:OpR X (zj .Pow) (rI Y8 λi j=>.int (i^j.toNat)):=Q8 λ_ _ _ _ _ _ _ hc q=>pow_int_small hc.1 hc.2.1 hc.2.2 q
theorem unI{f:Fa->Sem Fa}{g:Int->Int}(rule:∀ (i:Int) (t:Tok) (s:Shared) (Q:Fa->Shared->Prop) (E:Fa->Shared->Prop),Q (.int (g i) s.toks) {s with toks:=s.toks+1}->wa (pb X.prog X.w) X.A (f (.int i t)) Q E s):
  J9 X f (rU λi=>.int (g i)):=by
 intro pins s σ H x v Q I rx h;obtain⟨i,rfl,q⟩:=h;obtain⟨t,rfl⟩:=rx;exact rule i t s _ _ ⟨.int (g i),H,I.tok _,⟨_,rfl⟩,q⟩
theorem L4:J9 X (unaryOp .USub) (rU λi=>.int (-i)):=unI λ_ _ _ _ _ q=>neg_int q
theorem DL{Q:VK}{k k':Bool}(I:Inv X pins σ H s)(q:Q (.bl k) H)(e:k=k'):EP X pins σ Q (.bool k') s:=by
 subst e;exact⟨.bl k,H,I,rfl,q⟩
theorem R6:OpR X (zh .Lt) (TX λi j=>.bl (decide (i<j))):=LU λ_ _ _ _ _ _ _ q=>lt_int q
theorem Q6:OpR X (zh .LtE) (TX λi j=>.bl (decide (i<=j))):=LU λ_ _ _ _ _ _ _ q=>le_int q
theorem P6:OpR X (zh .Gt) (TX λi j=>.bl (decide (j<i))):=LU λ_ _ _ _ _ _ _ q=>gt_int q
theorem O6:OpR X (zh .GtE) (TX λi j=>.bl (decide (j<=i))):=LU λ_ _ _ _ _ _ _ q=>ge_int q
theorem OI:OpR X (zh .In) (λx y H Q=>∃ i j,x=.str i/\y=.str j/\Q (.bl (!(yi j i 0 j.length 1).isEmpty)) H):=by
 intro pins s σ H x y v u Q I rx ry h;obtain⟨i,j,rfl,rfl,q⟩:=h;obtain⟨t,rfl⟩:=rx;obtain⟨t',rfl⟩:=ry;exact in_str (DL I q rfl)
theorem Bx:OpR X (zh .NotIn) (λx y H Q=>∃ i j,x=.str i/\y=.str j/\Q (.bl (!(!(yi j i 0 j.length 1).isEmpty))) H):=by
 intro pins s σ H x y v u Q I rx ry h;obtain⟨i,j,rfl,rfl,q⟩:=h;obtain⟨t,rfl⟩:=rx;obtain⟨t',rfl⟩:=ry;exact notIn_str (DL I q rfl)
theorem OpR.or{r':R2}(h:OpR X f r)(h':OpR X f r'):OpR X f (λx y H Q=>r x y H Q\/r' x y H Q):=by
 intro pins s σ H x y v u Q I rx ry q;rcases q with q|q
 .exact h pins s σ H x y v u Q I rx ry q
 .exact h' pins s σ H x y v u Q I rx ry q
theorem KN(b:qc)(h:op≠ .In:=by decide)(h2:op≠ .NotIn:=by decide):bh op b=false:=by
 have e1:(op==CmpOp.In)=false:=by cases op<;>first|rfl|exact absurd rfl h
 have e2:(op==CmpOp.NotIn)=false:=by cases op<;>first|rfl|exact absurd rfl h2
 cases b<;>simp[bh,e1,e2]
theorem VU(ho:OpR X (zh op) r)(ha:PE X a ta)(hb:PE X b tb)(hm:bh op b=false):PE X (.Compare a [op] [b] pos) (Q7 r ta tb):=by
 intro pins s σ H Q I h;exact wpAny_Compare1 (TQ ha hb I h λv u s2 x y H2 I2 rx ry q=>ho pins s2 σ H2 x y v u Q I2 rx ry q) hm
def T7(t:TE):TT:=λσ H Q=>t σ H λx H'=>∃ k,x=.bl k/\Q k H'
theorem Eo(ho:OpR X (zh op) r)(ha:PE X a ta)(hb:PE X b tb)(hm:bh op b=false):PT X (.Compare a [op] [b] pos) (T7 (Q7 r ta tb)):=by
 intro pins s σ H Q I h
 refine wpAny_isTrue_Compare1 (thn (ha pins s σ H _ I h) λv s1 ⟨x,H1,I1,r1,q1⟩=>thn (hb pins s1 σ H1 _ I1 q1) λu s2 ⟨y,H2,I2,r2,q2⟩=>
  thn (ho pins s2 σ H2 x y v u _ I2 r1 r2 q2) λc s3 ⟨z,H3,I3,r3,k,e,q3⟩=>?_) hm
 subst e;cases r3;exact yt ⟨H3,I3,q3⟩
theorem Qw:(sizeLine:Nat)<2^63:=by rw[se];decide
theorem CD:OpR X (zj .Add) (λx y H Q=>∃ i j,x=.str i/\y=.str j/\i.length+j.length<=sizeLine/\Q (.str (i++j)) H):=by
 intro pins s σ H x y v u Q I rx ry h;obtain⟨i,j,rfl,rfl,hz,q⟩:=h;obtain⟨t,rfl⟩:=rx;obtain⟨t',rfl⟩:=ry;exact add_str (λt' tk=>⟨.str (i++j),H,I.tok _,⟨_,rfl⟩,q⟩) hz
theorem vals1{x:V}(r:Vals [x] us):∃ u,us= [u]/\RelV x u:=by
 cases r with
 |cons r1 r2=>cases r2;exact⟨_,rfl,r1⟩
theorem vals2{x:V}(r:Vals [x,y] us):∃ u w',us= [u,w']/\RelV x u/\RelV y w':=by
 cases r with
 |cons r1 r2=>
  cases r2 with
  |cons r3 r4=>cases r4;exact⟨_,_,rfl,r1,r3⟩
theorem YJ:Di X (.builtin "abs") (λxs H Q=>∃ i,xs= [.int i]/\Q (.int (if i<0 then -i else i)) H):=by
 intro pins s σ H xs us Q I r h;obtain⟨i,rfl,q⟩:=h;obtain⟨u,rfl,t,rfl⟩:=vals1 r;exact call_abs_int λu tk=>⟨.int (if i<0 then -i else i),H,I.tok _,⟨_,rfl⟩,q⟩
theorem YG(hc:X.calm=true):Di X (.builtin "max") (λxs H Q=>∃ i j,xs= [.int i,.int j]/\Q (.int (if j>i then j else i)) H):=by
 intro pins s σ H xs us Q I r h;obtain⟨i,j,rfl,q⟩:=h;obtain⟨u,w',rfl,⟨t,rfl⟩,⟨t',rfl⟩⟩:=vals2 r;refine max_two_ints (I.ok.hd hc) λh' tk k=>⟨_,H,I.kept k,?_,q⟩;by_cases hj:j>i
 .rw[if_pos hj,if_pos hj];exact⟨_,rfl⟩
 .rw[if_neg hj,if_neg hj];exact⟨_,rfl⟩
theorem AH(hc:X.calm=true):Di X (.builtin "min") (λxs H Q=>∃ i j,xs= [.int i,.int j]/\Q (.int (if j<i then j else i)) H):=by
 intro pins s σ H xs us Q I r h;obtain⟨i,j,rfl,q⟩:=h;obtain⟨u,w',rfl,⟨t,rfl⟩,⟨t',rfl⟩⟩:=vals2 r;refine min_two_ints (I.ok.hd hc) λh' tk k=>⟨_,H,I.kept k,?_,q⟩;by_cases hj:j<i
 .rw[if_pos hj,if_pos hj];exact⟨_,rfl⟩
 .rw[if_neg hj,if_neg hj];exact⟨_,rfl⟩
def F9(K:td)(x:V)(H:Hp)(n:Nat):Prop:=
 match x with
 | .str y=>y.length<=sizeLine/\n=y.length
 | .byt y=>y.size<=sizeLine/\n=y.size
 | .ref p=>(∃ xs,SqL K H p xs/\n=xs.length)\/∃ xs,SqT K H p xs/\n=xs.length
 |_=>False
theorem AK:Di X (.builtin "len") (λxs H Q=>∃ x n,xs= [x]/\F9 X.K x H n/\Q (.int n) H):=by
 intro pins s σ H xs us Q I r h;obtain⟨x,n,rfl,e,q⟩:=h;obtain⟨u,rfl,rx⟩:=vals1 r;have hl:=Qw;have hs:sizeLine=16777216:=se;cases x with
 |str y=>
  obtain⟨t,rfl⟩:=rx;obtain⟨hy,e'⟩:y.length<=sizeLine/\n=y.length:=e;subst e';exact len_str (by omega) ⟨.int _,H,I.tok _,⟨_,rfl⟩,q⟩
 |byt y=>
  obtain⟨t,rfl⟩:=rx;obtain⟨hy,e'⟩:y.size<=sizeLine/\n=y.size:=e;subst e';exact PySem.W.len_bytes (by omega) ⟨.int _,H,I.tok _,⟨_,rfl⟩,q⟩
 |ref p=>
  cases rx;have e':(∃ xs,SqL X.K H p xs/\n=xs.length)\/∃ xs,SqT X.K H p xs/\n=xs.length:=e;rcases e' with⟨xs,hx,e'⟩|⟨xs,hx,e'⟩
  .subst e';obtain⟨its,r',pl,hz⟩:=I.list hx;have hlen:=r'.length;exact Calls.call_len_list pl.isList (by simp only[jc];omega) ⟨.int xs.length,H,I.tok _,⟨_,by simp only[jc];rw[hlen]⟩,q⟩
  .subst e';obtain⟨its,r',pl,hz⟩:=I.tuple hx;have hlen:=r'.length;exact len_tuple pl (by simp only[jc];omega) ⟨.int xs.length,H,I.tok _,⟨_,by simp only[jc];rw[hlen]⟩,q⟩
 |_=>exact(show False from e).elim
structure ObjM(h:ke)(x dx C:ca)(mA:xa->Option Fa):Prop where
 obj:h.get? x=some (sv C dx)
 ns:h.Ns1 dx mA
 ne:dx≠x
variable{dx:ca}{mA:xa->Option Fa}
theorem BI(n:h.Ns1 dx mA):∃ od,h.get? dx=some od/\∀ name,lookIn name od=some (mA name):=by
 obtain⟨o,es,ep,ho,hd,hk,_,hm⟩:=n;refine⟨o,ho,λname=>?_⟩;have e:=hm name;unfold nsFind findBy at e;rw[<-Array.find?_toList]at e
 unfold lookIn;rw[hd];dsimp only;split
 .rename_i y q;rw[q]at e
  exact congrArg some e
 .rename_i q;rw[q]at e
  have a:es.toList.any (·.refKey)=false:=by
   rw[List.any_eq_false];intro y hy;obtain⟨z,t,hkey⟩:=hk y (Array.mem_toList_iff.mp hy);simp[DictEntry.refKey,hkey]
  have a':¬ es.toList.any (·.refKey)=true:=by rw[a];exact Db
  rw[if_neg a'];exact congrArg some e
theorem ObjM.look{x C:ca}(I:ObjM h x dx C mA):∃ od,PySem.W.InstAt h x (sv C dx) C (some od)/\∀ name,lookIn name od=some (mA name):=
 let ⟨od,ho,hl⟩:=BI I.ns
 ⟨od,⟨I.obj,rfl,rfl,ho⟩,hl⟩
variable{name:xa}{kw:List (xa×Fa)}
section
variable {x C f:ca}
theorem OS{expr:Bool}(X:K.In s.heap)(I:ObjM s.heap x dx C mA)(hg:plainGet K C name=true)(hh:wu K C=true)(ha:ik K (.ref C) name=some none)(hv:mA name=some v)(hv':PySem.W.handedIn v=true)(h:Q v {s with toks:=s.toks+1}):
  wa (pb prog w) A (getAttr (.ref x) name expr) Q E s:=by
 obtain⟨od,J,hl⟩:=I.look;exact PySem.W.get_value X J (PySem.W.plainGet_of hg).1 (PySem.W.findObj_own hh ha rfl (by rw[hl,hv])) hv' h
theorem ZV{ns:List xa}{Q:Unit->Shared->Prop}(X:K.In s.heap)(I:ObjM s.heap x dx C mA)(hs:ik K (.ref C) "__setattr__"=some (some (.builtin "object.__setattr__")))(hp:plainOver K C=true)(ht:takerIn K C name=some none)(hh:wu K C=true)(hw:PySem.Within mA ns)(hsz:ns.length<=sizeLine)(h:∀ h',ObjM h' x dx C (λy=>if y=name then some v else mA y)->dm dx s.heap h'->Q () {s with heap:=h',toks:=s.toks+2}):
  wa (pb prog w) A (setAttr (.ref x) name v) Q E s:=by
 obtain⟨od,J,hl⟩:=I.look;refine PySem.W.set_plain X J hs (PySem.W.osa_open (s:= {s with toks:=s.toks+1}) (r:=none) X J hp ht λb=>?_);obtain⟨cd,hc,hd'⟩:=PySem.W.any_some hh;have hx:s.heap.get? x=some ⟨.ref C,some dx,.plain,#[]⟩:=I.obj;refine Da (ia (Da (Da (wpAny_loadPart hx (Da (Looks.here (s:= {s with toks:=s.toks+1}) (PySem.W.looks_clsIn X hc) ?_))))));rw[hd'];refine ia (a:=some dx) (Da (ia (Da ?_)));refine wpAny_nsSet1 (s:= {s with toks:=s.toks+1}) I.ns λh' hn2 hs2=>?_;obtain⟨oD,esD,epD,hoD,hdD,hcD⟩:=hn2.count (PySem.Within.cons name v hw);refine Da (wpAny_lookBehind hoD (by rw[hdD];exact pastItsLine_dict (uf hcD (by rw[ba];omega))) ?_);exact ia (h _ ⟨(hs2.2 _ (qk I.ne)).trans I.obj,hn2,I.ne⟩ hs2)
theorem WM{R:uv->Shared->Prop}{vs:List Fa}(X:K.In s.heap)(hm:makesIn K C=true)(hi:ik K (.ref C) "__init__"=some (some (.ref f)))(hf:PySem.W.typeIn K (.ref f)=some (.type "function"))(h:im (pb prog w) (A.under (.builtin "type.__call__" ⟨.ref C::vs,kw⟩)) (.call (.ref f) ⟨.ref (s.heap.objs.size+1)::vs,kw⟩) (PySem.W.InitBack (s.heap.objs.size+1) R)
   {s with heap:=(s.heap.push Go).push (sv C s.heap.objs.size)}):
  im (pb prog w) A (.call (.ref C) ⟨vs,kw⟩) R s:=by
 obtain⟨hh,g,d,t,os⟩:=s;exact PySem.W.make_core (PySem.W.makes_of X hm) (PySem.W.looks_findIn X hi) (λself=>PySem.W.bind_fn X self hf) (.inl rfl) h
end
def Bl(f:xa)(v:V):List (xa×V)->List (xa×V)
 | []=> [(f,v)]
 |(g,x)::r=>if g=f then(g,v)::r else(g,x)::Bl f v r
theorem Dq(f g:xa)(v:V):∀ fs:List (xa×V),(Bl f v fs).lookup g=if g=f then some v else fs.lookup g
 | []=>by
  show No g [(f,v)]=_;by_cases h:g=f
  .have hb:(g==f)=true:=beq_iff_eq.mpr h;simp only[No,hb,if_pos h]
  .have hb:(g==f)=false:=beq_eq_false_iff_ne.mpr h;simp only[No,hb,if_neg h]
 |(k,x)::r=>by
  have ih:=Dq f g v r;rw[show Bl f v ((k,x)::r)=(if k=f then(k,v)::r else(k,x)::Bl f v r) from rfl];by_cases hk:k=f
  .rw[if_pos hk];by_cases h:g=k
   .have hb:(g==k)=true:=beq_iff_eq.mpr h;simp only[No,hb,if_pos (h.trans hk)]
   .have hb:(g==k)=false:=beq_eq_false_iff_ne.mpr h;simp only[No,hb,if_neg (λe:g=f=>h (e.trans hk.symm))]
  .rw[if_neg hk];by_cases h:g=k
   .have hb:(g==k)=true:=beq_iff_eq.mpr h;simp only[No,hb,if_neg (λe:g=f=>hk (h.symm.trans e))]
   .have hb:(g==k)=false:=beq_eq_false_iff_ne.mpr h;simp only[No,hb];exact ih
theorem Xo(f:xa)(v:V):∀ fs:List (xa×V),f∈(Bl f v fs).map (·.1)/\∀ g,g∈fs.map (·.1)->g∈(Bl f v fs).map (·.1)
 | []=>⟨by simp[Bl],λg h=>by simp at h⟩
 |(k,x)::r=>by
  obtain⟨i1,i2⟩:=Xo f v r;rw[show Bl f v ((k,x)::r)=(if k=f then(k,v)::r else(k,x)::Bl f v r) from rfl];by_cases hk:k=f
  .rw[if_pos hk];subst hk;exact⟨by simp,λg h=>by simpa using h⟩
  .rw[if_neg hk];refine⟨?_,λg h=>?_⟩
   .rw[ac];exact ua _ i1
   .rw[ac]at h ⊢
    rcases zc.mp h with e|e
    .exact zc.mpr (.inl e)
    .exact ua _ (i2 g e)
theorem Cq(f:xa)(v:V):∀ fs:List (xa×V),(Bl f v fs).length<=fs.length+1
 | []=>by simp[Bl]
 |(k,x)::r=>by
  have ih:=Cq f v r;rw[show Bl f v ((k,x)::r)=(if k=f then(k,v)::r else(k,x)::Bl f v r) from rfl];by_cases hk:k=f
  .rw[if_pos hk,ba,ba];omega
  .rw[if_neg hk,ba,ba];omega
variable{v:V}
theorem RelO.some_of{o:Option Fa}(r:RelO (some v) o):∃ u,o=some u/\RelV v u:=by
 cases o with
 |none=>exact(show False from r).elim
 |some u=>exact⟨u,rfl,r⟩
theorem MH(r:RelV v u):PySem.W.handedIn u=true:=by
 cases v with
 |non=>cases (show u=Value.none from r);rfl
 |bl b=>cases (show u=Value.bool b from r);rfl
 |int i=>obtain⟨t,e⟩:=(show ∃ t,u=Value.int i t from r);cases e;rfl
 |str x=>obtain⟨t,e⟩:=(show ∃ t,u=Value.str x t from r);cases e;rfl
 |byt b=>obtain⟨t,e⟩:=(show ∃ t,u=Value.bytes b t from r);cases e;rfl
 |flt b=>obtain⟨t,e⟩:=(show ∃ t,u=Value.float b t from r);cases e;rfl
 |ref a=>cases (show u=Value.ref a from r);rfl
 |ty n=>cases (show u=Value.type n from r);rfl
variable{a:ca}
section
variable {C:ca}{fs fs':List (xa×V)}
theorem EF(hok:HOk P w H h)(e:H a=some (.ins C dx fs)):∃ mA,ObjM h a dx C mA/\(∀ f,RelO (fs.lookup f) (mA f))/\PySem.Within mA (fs.map (·.1))/\fs.length<=1000/\H dx=some (.own a):=by
 obtain⟨d,z,ne,ob,mA,n,r,q⟩:=(show ObjOk P w H h a (.ins C dx fs) from hok a _ e)
 exact⟨mA,⟨ob,n,ne⟩,r,q,z,d⟩
end
structure Cls(K:td)(C:ca):Prop where
 pg:plainGet K C Str.empty=true
 hd:wu K C=true
 po:plainOver K C=true
 sa:ik K (.ref C) "__setattr__"=some (some (.builtin "object.__setattr__"))
theorem Cls.get{C:ca}(c:Cls K C)(f:xa):plainGet K C f=true:=c.pg
def NoAttr(K:td)(C:ca)(f:xa):Prop:=ik K (.ref C) f=some none
variable{f:xa}
theorem NoAttr.taker{C:ca}(n:NoAttr K C f):takerIn K C f=some none:=by
 unfold takerIn;rw[show ik K (.ref C) f=some none from n];rfl
structure Con(K:td)(C:ca)(f:xa)(v:V)(u:Fa):Prop where
 at_:ik K (.ref C) f=some (some u)
 rel:RelV v u
 get:specialIn K u "__get__"=some none
 cp:PySem.W.copiedNames.contains f=false
structure Meth(K:td)(C:ca)(m:xa)(f:ca):Prop where
 at_:ik K (.ref C) m=some (some (.ref f))
 fn:isFn K (.ref f)=true
 kp:mf K (.ref f)=true
variable{b:Bool}
section
variable {C:ca}{fs:List (xa×V)}
theorem EC(I:Inv X pins σ H s)(e:H a=some (.ins C dx fs))(c:Cls X.K C)(n:NoAttr X.K C f)(l:fs.lookup f=some v)(h:∀ u s',Inv X pins σ H s'->RelV v u->Q u s'):wa (pb X.prog X.w) A (getAttr (.ref a) f b) Q E s:=by
 obtain⟨mA,O,r,_,_,_⟩:=EF I.hok e;obtain⟨u,hu,ru⟩:=RelO.some_of (v:=v) (o:=mA f) (by rw[<-l];exact r f);exact OS I.kIn O (c.get f) c.hd n hu (MH ru) (h u _ (I.tok _) ru)
theorem UD{Q:Unit->Shared->Prop}(I:Inv X pins σ H s)(e:H a=some (.ins C dx fs))(c:Cls X.K C)(n:NoAttr X.K C f)(hl:fs.length<1000)(ry:RelV y u)(h:∀ s',Inv X pins σ (Pb H a (.ins C dx (Bl f y fs))) s'->Q () s'):wa (pb X.prog X.w) A (setAttr (.ref a) f u) Q E s:=by
 obtain⟨mA,O,r,wi,_,ho⟩:=EF I.hok e;have hz:(fs.map (·.1)).length<=sizeLine:=by rw[la,se];omega
 refine ZV I.kIn O c.sa c.po n.taker c.hd wi hz λh' O' sb=>h _ ?_;have hd:∃ o,h'.get? dx=some o:=let ⟨o,_,_,e',_⟩:=O'.ns;⟨o,e'⟩
 refine I.write (x:=a) (e:=dx) (by rw[e];exact True.intro) (.inr ho) (λb q hb z=>(sb.2 b hb).trans z) hd ?_;refine⟨by rw[Ha O.ne];exact ho,?_,O.ne,O'.obj,_,O'.ns,λg=>?_,λg hg=>?_⟩
 .have:=Cq f y fs;omega
 .show RelO ((Bl f y fs).lookup g) (if g=f then some u else mA g);rw[Dq];by_cases q:g=f
  .rw[if_pos q,if_pos q];exact ry
  .rw[if_neg q,if_neg q];exact r g
 .by_cases q:g=f
  .rw[q];exact(Xo f y fs).1
  .refine(Xo f y fs).2 g (wi g λz=>hg ?_);show(if g=f then some u else mA g)=none;rw[if_neg q];exact z
theorem Inv.made(I:Inv X pins σ H s):Inv X pins σ (Pb (Pb H s.heap.objs.size (.own (s.heap.objs.size+1))) (s.heap.objs.size+1) (.ins C s.heap.objs.size []))
  {s with heap:=(s.heap.push Go).push (sv C s.heap.objs.size)}:=by
 have e1:(s.heap.push Go).get? s.heap.objs.size=some Go:=yc s.heap rfl
 have e2:((s.heap.push Go).push (sv C s.heap.objs.size)).get? (s.heap.objs.size+1)=some (sv C s.heap.objs.size):=by
  have:=yc (s.heap.push Go) (o:=sv C s.heap.objs.size) rfl
  rwa [sk]at this
 have e3:(s.heap.push Go).Ns s.heap.objs.size (λ_=>none):=⟨Go,#[],_,e1,rfl,(λe he=>absurd he (by simp)),λ_=>rfl⟩
 have I1:=I.laid (a:=s.heap.objs.size) (o:=.own (s.heap.objs.size+1)) (h':=s.heap.push Go) (t':=s.toks) (λb u q=>ja _ q) (jd _) ⟨_,e1⟩;refine I1.laid (a:=s.heap.objs.size+1) (o:=.ins C s.heap.objs.size []) (t':=s.toks) (λb u q=>ja _ q) (vv (sk _ _)) ?_;have ne:s.heap.objs.size≠s.heap.objs.size+1:=Re (Tk _);refine⟨by rw[Ha ne,Ta],vh _,ne,e2,λ_=>none,(Heap.Ns1.of_empty e3).at λo q=>ja _ q,λ_=>True.intro,λy hy=>absurd rfl hy⟩
theorem QQ{env:tu}{f:xa}{s:Shared}(hb:ye e f env (eval e env)=eval e env)(h:wa (pb prog w) A (eval e env) (λo s₁=>wa (pb prog w) A (getAttr o f true) Q E s₁) E s):wa (pb prog w) A (eval (.Attribute e f pos) env) Q E s:=
 Attribute_any_ h (by rw[arm_eval_Attribute,hb])
end
def Xa0(K:td)(ta:TE)(f:xa):TE:=λσ H Q=>ta σ H λx H1=>∃ a C dx fs v,x=.ref a/\H1 a=some (.ins C dx fs)/\Cls K C/\NoAttr K C f/\fs.lookup f=some v/\Q v H1
def Ka0(K:td)(ta tv:TE)(f:xa):TS:=λD σ H=>tv σ H λy H1=>ta σ H1 λx H2=>∃ a C dx fs,x=.ref a/\H2 a=some (.ins C dx fs)/\Cls K C/\NoAttr K C f/\fs.length<1000/\
 D.nx σ (Pb H2 a (.ins C dx (Bl f y fs)))
variable{o:qc}
section
variable {value:qc}{tpos:vg}{tv:TE}
theorem E2(he:PE X e ta)(hb:ye e f X.env (eval e X.env)=eval e X.env):PE X (.Attribute e f pos) (Xa0 X.K ta f):=by
 intro pins s σ H Q I h;refine QQ hb (thn (he pins s σ H _ I h) λu s1 ⟨x,H1,I1,rx,a,C,dx,fs,v,ex,ea,c,n,l,q⟩=>?_);subst ex;obtain rfl:u=Value.ref a:=rx;exact EC I1 ea c n l λu' s2 I2 ru=>⟨v,H1,I2,ru,q⟩
theorem U2(ha:PE X o ta)(hv:PE X value tv)(hs:ph value (some (.Attribute o f pos')) pos.line X.env=pure false):PS X (.Assign [.Attribute o f pos'] value pos) (Ka0 X.K ta tv f):=by
 intro pins s σ H D I h;refine plainObj_wpAny_Assign_Attribute (thn (hv pins s σ H _ I h) λu s1 ⟨y,H1,I1,ry,q⟩=>thn (ha pins s1 σ H1 _ I1 q) λov s2 ⟨x,H2,I2,rx,a,C,dx,fs,ex,ea,c,n,l,q2⟩=>?_) hs;subst ex;obtain rfl:ov=Value.ref a:=rx;exact UD I2 ea c n l ry λs3 I3=>⟨σ,_,I3,q2⟩
end
section
variable {c:Fa}
inductive TyOf(K:td)(H:Hp):V->Fa->Prop where
 |non:TyOf K H .non (.type "NoneType")
 |bl (x:Bool):TyOf K H (.bl x) (.type "bool")
 |int (i:Int):TyOf K H (.int i) (.type "int")
 |str (x:xa):TyOf K H (.str x) (.type "str")
 |flt (x:UInt64):TyOf K H (.flt x) (.type "float")
 |lst {a:ca} {xs:List V} (e:H a=some (.lst xs)):TyOf K H (.ref a) (.type "list")
 |frz {a:ca} {o:ki} {xs:List V} (e:H a=some (.frz o (.lst xs))):TyOf K H (.ref a) (.type "list")
 |tup {a:ca} {xs:List V} (e:H a=some (.tup xs)):TyOf K H (.ref a) (.type "tuple")
 |dK {a:ca} {kvs:List (Hb×V)} (e:H a=some (.dK kvs)):TyOf K H (.ref a) (.type "dict")
 |dT {a:ca} {kvs:List (List Hb×V)} (e:H a=some (.dT kvs)):TyOf K H (.ref a) (.type "dict")
 |ins {a C dx:ca} {fs:List (xa×V)} (e:H a=some (.ins C dx fs)) (cl:Cls K C) (ha:ik K (.ref C) "__class__"=some (some (.builtin "object.__class__")))
   (hn:specialIn K (.builtin "object.__class__") "__get__"=some (some (.builtin "getset_descriptor.__get__"))) (htk:PySem.W.takesIn K (.builtin "object.__class__")=some true)
   (hm:mroIn K C (.type "object")=some true):TyOf K H (.ref a) (.ref C)
end
structure Room(k:Nat)(A:je):Prop where
 hd:A.handled=none
 dp:A.depth+3*k+5<recursionLimit
 un:A.units+16*k+200<zr
 gd:A.guards=some []
theorem Room.mono(r:Room k A)(h:j<=k):Room j A:=⟨r.hd,by have:=r.dp;omega,by have:=r.un;omega,r.gd⟩
theorem Room.deeper(r:Room (k+1) A)(env:tu):Room k (A.deeper env):=
 ⟨r.hd,by have:=r.dp;show A.depth+1+3*k+5<_;omega,by have:=r.un;show A.units+3+16*k+200<_;omega,r.gd⟩
theorem OC{C:ca}:(A.under (.builtin "type.__call__" ⟨.ref C::us,kw⟩)).depth=A.depth+1:=by
 first|rfl|simp[wv,Code.weight,Code.isCreation,Code.isGuard,Code.isCaller,Code.frames,Code.isFrame,guardIds]
theorem QC{C:ca}:(A.under (.builtin "type.__call__" ⟨.ref C::us,kw⟩)).units=A.units+1:=by
 first|rfl|simp[wv,Code.cUnits,Code.frames,Code.isFrame]
theorem Room.make(r:Room (k+1) A)(C:ca)(us:List Fa)(kw:List (xa×Fa)):Room k (A.under (.builtin "type.__call__" ⟨.ref C::us,kw⟩)):=
 ⟨r.hd,by have:=r.dp;rw[OC];omega,by have:=r.un;rw[QC];omega,by first|exact r.gd|(simpa [wv,Code.guards,pushGuards] using r.gd)⟩
theorem Room.depth(r:Room k A):A.depth<recursionLimit:=by have:=r.dp;omega
theorem Room.units(r:Room k A):A.units+64<zr:=by have:=r.un;omega
def tNil:TA:=λ_ H Q=>Q [] H
def J7(ta:TE)(tr:TA):TA:=λσ H Q=>ta σ H λx H1=>tr σ H1 λxs H2=>Q (x::xs) H2
section
variable {t:TA}
theorem Hk:PA X [] tNil:=λ_ _ _ _ H Q I h=>bp ⟨[],H,I,.nil,h⟩
theorem Xe(ha:PE X e te)(hr:PA X es t)(hs:aa (e::es) X.env=(false,eval e X.env)::aa es X.env:=by rfl):PA X (e::es) (J7 te t):=by
 intro pos pins s σ H Q I h;rw[hs];show wa _ _ (spliced ((false,eval e X.env)::zd pos (aa es X.env))) _ _ s;refine vn (thn (ha pins s σ H _ I h) λu s1 ⟨x,H1,I1,r1,q1⟩=>?_);exact thn (hr pos pins s1 σ H1 _ I1 q1) λus s2 ⟨xs,H2,I2,r2,q2⟩=>⟨x::xs,H2,I2,.cons r1 r2,q2⟩
def Fb0(t:TA):TE:=λσ H Q=>t σ H λxs H1=>xs.length<=sizeLine/\∀ p,H1 p=none->Q (.ref p) (Pb H1 p (.tup xs))
def Bb0(t:TA):TE:=λσ H Q=>t σ H λxs H1=>xs.length<=sizeLine/\∀ p,H1 p=none->Q (.ref p) (Pb H1 p (.lst xs))
theorem VN{x1}(h:PA X es t):PE X (.Tuple es x1 pos) (Fb0 t):=by
 intro pins s σ H Q I hq;refine wpAny_Tuple_spliced (thn (h pos pins s σ H _ I hq) λus s1 ⟨xs,H1,I1,r,z,q⟩=>⟨by rw[<-r.length];exact z,?_⟩);have hf:H1 s1.heap.objs.size=none:=I1.hok.fresh (jd _);refine⟨.ref s1.heap.objs.size,Pb H1 s1.heap.objs.size (.tup xs),I1.laid (t':=s1.toks) (λb u e=>ja _ e) (jd _) ?_,rfl,q _ hf⟩;exact⟨z,us,r,⟨_,yc _ rfl,rfl,_,rfl⟩⟩
theorem G2(h:PA X es t):PE X (.List es pos) (Bb0 t):=by
 intro pins s σ H Q I hq;refine wpAny_List_spliced (thn (h pos pins s σ H _ I hq) λus s1 ⟨xs,H1,I1,r,z,q⟩=>⟨by rw[<-r.length];exact z,?_⟩);have hf:H1 s1.heap.objs.size=none:=I1.hok.fresh (jd _);refine⟨.ref s1.heap.objs.size,Pb H1 s1.heap.objs.size (.lst xs),I1.laid (t':=s1.toks) (λb u e=>ja _ e) (jd _) ?_,rfl,q _ hf⟩;exact⟨z,us,0,r,yc _ rfl⟩
end
abbrev Sp:=List V->Hp->VK->XK->Prop
abbrev EB:=List tu->Hp->Shared->XK->Fa->Shared->Prop
structure Env0(P:ic)(w:vd)(K:td)(mg:xa->Option Fa)(base:ke)(A:je)(outer:List tu)(s:Shared)(H:Hp):Prop where
 frames:A.frames=some outer
 mod:Mod K mg base
 bs:∀ b o,base.get? b=some o->s.heap.get? b=some o/\H b=none
 bsz:base.objs.size<=s.heap.objs.size
 funs:s.heap.FunFrames base outer
 frf:∀ b∈Zp outer,H b=none
 hok:HOk P w H s.heap
 bare:am s.gens
def CE(outer:List tu)(P:ic)(w:vd)(H:Hp)(s:Shared)(Q:VK)(u:Fa)(s':Shared):Prop:=
 ∃ v H',s'.os=s.os/\am s'.gens/\Un (Zp outer) [] H H' s.heap s'.heap/\HOk P w H' s'.heap/\RelV v u/\Q v H'
def CR(CX:EB)(outer:List tu)(P:ic)(w:vd)(H:Hp)(s:Shared)(Q:VK)(E:XK)(r:uv)(s':Shared):Prop:=
 match r with
 | .ok (.ret u)=>CE outer P w H s Q u s'
 | .ok _=>False
 | .error e=>CX outer H s E e s'
structure FnOk(P:ic)(w:vd)(K:td)(mg:xa->Option Fa)(base:ke)(CX:EB)(k:Nat)(f:ca)(fd:wf)(ps:List xa)(sp:Sp):Prop where
 len:∀ vs H Q E,sp vs H Q E->vs.length=ps.length
 run:∀ (A:je) (outer:List tu) (s:Shared) (H:Hp) (args:Args) (us:List Fa) (vs:List V) (Q:VK) (E:XK),Room k A->Env0 P w K mg base A outer s H->xv s fd args (ps.zip us)->Vals vs us->sp vs H Q E->
  im (pb P w) A (.call (.ref f) args) (CR CX outer P w H s Q E) s
variable{f:ca}{mg:xa->Option Fa}{base:ke}{CX:EB}{fd:wf}{ps:List xa}{sp:Sp}
theorem FnOk.mono(F:FnOk P w K mg base CX j f fd ps sp)(h:j<=k):
  FnOk P w K mg base CX k f fd ps sp:=⟨F.len,λA outer s H args us vs Q E hr=>F.run A outer s H args us vs Q E (hr.mono h)⟩
theorem FnOk.imp{sp':Sp}(F:FnOk P w K mg base CX k f fd ps sp)(h:∀ vs H Q E,sp' vs H Q E->sp vs H Q E):FnOk P w K mg base CX k f fd ps sp':=
 ⟨λvs H Q E q=>F.len vs H Q E (h _ _ _ _ q),λA outer s H args us vs Q E hr he hb hv hs=>F.run A outer s H args us vs Q E hr he hb hv (h _ _ _ _ hs)⟩
variable{outer:List tu}
theorem Env0.make(e:Env0 P w K mg base A outer s H)(C:ca)(us:List Fa)(kw:List (xa×Fa)):
  Env0 P w K mg base (A.under (.builtin "type.__call__" ⟨.ref C::us,kw⟩)) outer s H:=⟨by first|exact e.frames|(simpa [wv,Code.envs,Code.isFrame,pushEnvs] using e.frames),e.mod,e.bs,e.bsz,e.funs,e.frf,e.hok,e.bare⟩
variable{Q:VK}
theorem Inv.env0(I:Inv X pins σ H s):Env0 X.prog X.w X.K X.mg X.base X.A X.stack s H:=
 ⟨I.ok.frames,I.ok.mod,I.bs,uf I.ok.bsz I.sz,I.stack,I.stkFree,I.hok,I.bare⟩
theorem Inv.after(I:Inv X pins σ H s)(h:CE X.stack X.prog X.w H s Q u s'):EP X pins σ Q u s':=by
 obtain⟨v,H',os,bare,un,hok,r,q⟩:=h;obtain⟨hh,g,d,t,os'⟩:=s';obtain rfl:os'=s.os:=os;exact⟨v,H',I.call (h':=hh) (g':=g) (d':=d) (t':=t) (ch:= []) un hok bare (λb z=>absurd z (by simp)),r,q⟩
def G7(sp:Sp)(dvs:List V)(E:XK)(t:TA):TE:=λσ H Q=>t σ H λvs H1=>sp (vs++dvs) H1 Q E
def N7(C:ca)(sp:Sp)(dvs:List V)(E:XK)(t:TA):TE:=λσ H Q=>t σ H λvs H1=>∀ x dx,H1 x=none->H1 dx=none->dx≠x->
 sp (.ref x::(vs++dvs)) (Pb (Pb H1 dx (.own x)) x (.ins C dx [])) (λv H2=>v=.non/\Q (.ref x) H2) E
def Binds(K:td)(fd:wf)(ps:List xa)(ds:List Fa):Prop:=
 ∀ (s:Shared) (us:List Fa),K.In s.heap->(us++ds).length=ps.length->xv s fd ⟨us,[]⟩ (ps.zip (us++ds))
theorem Binds.all(h:∀ us:List Fa,us.length=ps.length->bindArgs fd ⟨us,[]⟩=pure (ps.zip us)):Binds K fd ps []:=λs us _ hl=>by
 rw[bj]at hl ⊢
 exact .of_eq (h us hl)
def Hr(CX:EB)(X:Cx)(E:XK):Prop:=∀ (pins:List (ca×ki)) (σ:St) (H:Hp) (s:Shared) (e:Fa) (s':Shared),Inv X pins σ H s->CX X.stack H s E e s'->X.xe e s'
variable{E:XK}{vs:List V}{m:xa}{apos:vg}
section
variable {C:ca}{dvs:List V}{ds:List Fa}{p:vg}{t:TA}
theorem F3(F:FnOk X.prog X.w X.K X.mg X.base CX k f fd ps sp)(hr:Room k X.A)(hb:Binds X.K fd ps ds)(hd:Vals dvs ds)(hx:Hr CX X E)(I:Inv X pins σ H s)(r:Vals vs us)(h:sp (vs++dvs) H Q E):wa (pb X.prog X.w) X.A (call (.ref f) us) (EP X pins σ Q) X.xe s:=by
 have r2:Vals (vs++dvs) (us++ds):=r.append hd;have hl:(us++ds).length=ps.length:=by rw[<-r2.length];exact F.len _ _ _ _ h
 refine wpAny_call (gl (F.run X.A X.stack s H ⟨us,[]⟩ (us++ds) (vs++dvs) Q E hr I.env0 (hb s us I.kIn hl) r2 h) λr s' hq=>?_);cases r with
 |error e=>exact hx pins σ H s e s' I hq
 |ok fl=>
  cases fl with
  |ret u=>exact I.after hq
  |next=>exact bg hq
  |brk=>exact bg hq
  |cont=>exact bg hq
theorem Zq(F:FnOk X.prog X.w X.K X.mg X.base CX k f fd ps sp)(hr:Room k X.A)(hg:Gl X x)(hm:X.mg x=some (.ref f))(hk:mf X.K (.ref f)=true)(hb:Binds X.K fd ps ds)(hd:Vals dvs ds)(hx:Hr CX X E)(ha:PA X (e::es) t)(hdb:(x==("__debug__":xa))=false:=by decide)(he:aa (e::es) X.env=(false,eval e X.env)::aa es X.env:=by rfl)(hpl:(zd pos (aa es X.env)).any (·.1)=false:=by rfl):
  PE X (.Call (.Name x p) (e::es) [] pos) (G7 sp dvs E t):=by
 intro pins s σ H Q I h;refine lh (Uq I hg hm ?_ hdb);refine callWith_K (h₀:=X.base) I.ok.mod.kin hk (thn (ha pos pins s σ H _ I h) λus s1 ⟨vs,H1,I1,r,q⟩=>⟨I1.kIn,?_⟩) he hpl;exact F3 F hr hb hd hx I1 r q
structure Mk(K:td)(C f:ca):Prop where
 makes:makesIn K C=true
 init:ik K (.ref C) "__init__"=some (some (.ref f))
 fn:isFn K (.ref f)=true
 kp:mf K (.ref C)=true
theorem JO(M:Mk X.K C f)(F:FnOk X.prog X.w X.K X.mg X.base CX k f fd ps sp)(hr:Room (k+1) X.A)(hb:Binds X.K fd ps ds)(hd:Vals dvs ds)(hx:Hr CX X E)(I:Inv X pins σ H s)(r:Vals vs us)(h:∀ x dx,H x=none->H dx=none->dx≠x->sp (.ref x::(vs++dvs)) (Pb (Pb H dx (.own x)) x (.ins C dx [])) (λv H2=>v=.non/\Q (.ref x) H2) E):
  wa (pb X.prog X.w) X.A (call (.ref C) us) (EP X pins σ Q) X.xe s:=by
 have hq:=h (s.heap.objs.size+1) s.heap.objs.size (I.hok.fresh (gp _)) (I.hok.fresh (jd _)) (Re (Tk _));have I2:=Inv.made (C:=C) I;have r2:Vals (V.ref (s.heap.objs.size+1)::(vs++dvs)) (Value.ref (s.heap.objs.size+1)::(us++ds)):=.cons rfl (r.append hd)
 have hl:(Value.ref (s.heap.objs.size+1)::us++ds).length=ps.length:=by
  have e:=r2.length;rw[F.len _ _ _ _ hq]at e
  exact e.symm
 refine wpAny_call (WM (f:=f) I.kIn M.makes M.init (beq_iff_eq.mp M.fn) (gl (F.run _ X.stack _ _ ⟨Value.ref (s.heap.objs.size+1)::us,[]⟩ (Value.ref (s.heap.objs.size+1)::(us++ds)) _ _ E (hr.make C us [])
  (I2.env0.make C us []) (hb _ (Value.ref (s.heap.objs.size+1)::us) I2.kIn hl) r2 hq) λr s' hq'=>?_))
 cases r with
 |error e=>exact hx pins σ _ _ e s' I2 hq'
 |ok fl=>
  cases fl with
  |ret u=>
   obtain⟨v,H',I3,rv,ev,q3⟩:=I2.after hq';subst ev;exact⟨rv,⟨V.ref (s.heap.objs.size+1),H',I3,rfl,q3⟩⟩
  |next=>exact bg hq'
  |brk=>exact bg hq'
  |cont=>exact bg hq'
theorem AV(M:Mk X.K C f)(F:FnOk X.prog X.w X.K X.mg X.base CX k f fd ps sp)(hr:Room (k+1) X.A)(hg:Gl X x)(hm:X.mg x=some (.ref C))(hb:Binds X.K fd ps ds)(hd:Vals dvs ds)(hx:Hr CX X E)(ha:PA X (e::es) t)(hdb:(x==("__debug__":xa))=false:=by decide)(he:aa (e::es) X.env=(false,eval e X.env)::aa es X.env:=by rfl)(hpl:(zd pos (aa es X.env)).any (·.1)=false:=by rfl):
  PE X (.Call (.Name x p) (e::es) [] pos) (N7 C sp dvs E t):=by
 intro pins s σ H Q I h;refine lh (Uq I hg hm ?_ hdb);refine callWith_K (h₀:=X.base) I.ok.mod.kin M.kp (thn (ha pos pins s σ H _ I h) λus s1 ⟨vs,H1,I1,r,q⟩=>⟨I1.kIn,?_⟩) he hpl;exact JO M F hr hb hd hx I1 r q
end
section
variable {C:ca}{ks:List xa}{p kpos:vg}{kws:List rk}{t tk:TA}{nm:Option xa}
structure KBinds(K:td)(fd:wf)(ps ks:List xa)(g:List Fa->List Fa->List Fa)(gV:List V->List V->List V):Prop where
 to:∀ (s:Shared) (us ws:List Fa),K.In s.heap->(g us ws).length=ps.length->xv s fd ⟨us,ks.zip ws⟩ (ps.zip (g us ws))
 rel:∀ {vs:List V} {us:List Fa} {zs:List V} {ws:List Fa},Vals vs us->Vals zs ws->Vals (gV vs zs) (g us ws)
variable {g:List Fa->List Fa->List Fa}{gV:List V->List V->List V}
end
structure FnScope(N P:List xa)(sc:xr):Prop where
 kind:sc.kind=.function
 co:sc.isCoroutine=false
 gen:sc.isGenerator=false
 nd:N.Nodup
 pre:N.take P.length=P
 par:∀ x∈P,sc.names.lookup x=some .local\/sc.names.lookup x=some .cell
 nofree:∀ y∈sc.names,y.2≠ .free
theorem Uu{kindOf:xa->Option mi}{x:xa}:∀ {binds:List (xa×Fa)} {m:xa->Option Fa},(∀ v,(x,v)∉binds)->bindL kindOf binds m x=m x
 | [],_,_=>rfl
 |(n,v)::r,m,h=>by
  unfold bindL;rw[Uu λw hw=>h w (ua _ hw)];split
  .have:x≠n:=by rintro rfl;exact h v ib
   simp[this]
  .rfl
theorem Su{kindOf:xa->Option mi}{x:xa}:∀ {binds:List (xa×Fa)} {m:xa->Option Fa},(∀ v,(x,v)∉binds)->bindC kindOf binds m x=m x
 | [],_,_=>rfl
 |(n,v)::r,m,h=>by
  unfold bindC;rw[Su λw hw=>h w (ua _ hw)];split
  .rfl
  .have:x≠n:=by rintro rfl;exact h v ib
   simp[this]
theorem Tu{kindOf:xa->Option mi}{x:xa}{v:Fa}:∀ {P:List xa} {vs:List Fa} {i:Nat} {m:xa->Option Fa},P.Nodup->P[i]? =some x->vs[i]? =some v->kindOf x=some .local->
  bindL kindOf (P.zip vs) m x=some v
 | [],_,_,_,_,h,_,_=>by simp at h
 |_::_,[],_,_,_,_,h,_=>by simp at h
 |p::P,w::vs,0,m,nd,h1,h2,hk=>by
  simp at h1 h2;subst h1;subst h2;show bindL kindOf ((p,w)::P.zip vs) m p=_;unfold bindL;rw[Uu λv hv=>(mm.mp nd).1 (iw hv).1,if_pos hk];simp
 |p::P,w::vs,i+1,m,nd,h1,h2,hk=>by
  show bindL kindOf ((p,w)::P.zip vs) m x=_;unfold bindL;exact Tu (i:=i) (mm.mp nd).2 (by simpa using h1) (by simpa using h2) hk
theorem Ru{kindOf:xa->Option mi}{x:xa}{v:Fa}:∀ {P:List xa} {vs:List Fa} {i:Nat} {m:xa->Option Fa},P.Nodup->P[i]? =some x->vs[i]? =some v->kindOf x≠some .local->
  bindC kindOf (P.zip vs) m x=some v
 | [],_,_,_,_,h,_,_=>by simp at h
 |_::_,[],_,_,_,_,h,_=>by simp at h
 |p::P,w::vs,0,m,nd,h1,h2,hk=>by
  simp at h1 h2;subst h1;subst h2;show bindC kindOf ((p,w)::P.zip vs) m p=_;unfold bindC;rw[Su λv hv=>(mm.mp nd).1 (iw hv).1,if_neg hk];simp
 |p::P,w::vs,i+1,m,nd,h1,h2,hk=>by
  show bindC kindOf ((p,w)::P.zip vs) m x=_;unfold bindC;exact Ru (i:=i) (mm.mp nd).2 (by simpa using h1) (by simpa using h2) hk
def start(N:List xa)(vs:List V):St:=vs.map some++kc (N.length-vs.length) none
def Qo(CX:EB)(P:ic)(w:vd)(K:td)(mg:xa->Option Fa)(base:ke)(N:List xa)(qual:xa)(scope:xr)(f:ca)(cd:Fa)(A:je)(outer:List tu)(s:Shared)(H:Hp)(E:XK):Cx where
 prog:=P
 w:=w
 K:=K
 mg:=mg
 base:=base
 A:=A.deeper (wn qual scope s.heap.objs.size f cd)
 N:=N
 s₀:=s
 H₀:=H
 env:=wn qual scope s.heap.objs.size f cd
 outer:=outer
 stack:=wn qual scope s.heap.objs.size f cd::outer
 ex:= []
 calm:=true
 fn:=λ_=>true
 pn:= []
 xe:=λe s'=>wa (pb P w) (A.deeper (wn qual scope s.heap.objs.size f cd)) (leaving (wn qual scope s.heap.objs.size f cd) e) (λ_ s''=>CX outer H s E e s'') (λe' s''=>CX outer H s E e' s'') s'
theorem Ly{sc:xr}(h:sc.names.lookup x=some .cell):∃ c,(oj n sc.names []).lookup x=some c:=by
 have q:=ip sc.names n [] (.inl h);exact ym.mp q
variable{qual:xa}{scope:xr}
theorem PH{N:List xa}{cd:Fa}{s1:Shared}(S:FnScope N ps scope)(hd:A.handled=none)(e0:Env0 P w K mg base A outer s H)(hl:vs.length=ps.length)(r:Vals vs us)(x:InCallC s s.heap.objs.size (bindL (wn qual scope s.heap.objs.size f cd).kindOf (ps.zip us) λ_=>none) (oj (s.heap.objs.size+1) scope.names []) (bindC (wn qual scope s.heap.objs.size f cd).kindOf (ps.zip us) λ_=>none) s1):
  Inv (Qo CX P w K mg base N qual scope f cd A outer s H E) [] (start N vs) H s1:=by
 have hpl:ps.length<=N.length:=by have:=congrArg List.length S.pre;rw[ao]at this;omega
 obtain⟨h1,tk,rfl,hk⟩:=x.done;have noA:∀ b:ca,b∉(Qo CX P w K mg base N qual scope f cd A outer s H E).ex:=λb z=>absurd (show b∈([]:List ca) from z) (by simp)
 refine⟨⟨e0.mod,S.kind,rfl,rfl,jd _,λy z c h1 h2=>?_,λy hy=>?_,λy c _ h=>?_,λ_=>hd,Around.frames_deeper e0.frames,.inr ⟨rfl,rfl⟩,λb z=>absurd z (noA b),e0.bs,e0.bsz,λb _ _=>noA b,λb z=>absurd z (noA b),e0.funs,e0.frf⟩,
  rfl,e0.bare,Un.kept hk,⟨_,x.toInCall.ns,λi y v h1 h2 h3=>?_⟩,λy c h=>⟨_,x.cell y c h⟩,e0.hok.fresh (jd _),λy c h=>?_,λp hp=>absurd (show p∈([]:List (ca×ki)) from hp) (by simp),e0.hok.kept hk,?_⟩
 .exact name_of_addr x.apart (Pi h1) (Pi h2)
 .have hy:scope.names.lookup y=some .cell\/scope.names.lookup y=some .free:=hy;rcases hy with hy|hy
  .exact Ly hy
  .exact absurd rfl (S.nofree _ (Pi hy))
 .exact rl (x.above y c (Pi h))
 .have hi:i<vs.length:=by
   unfold start at h2;by_cases hi:i<vs.length
   .exact hi
   .rw[ah (by simpa using hi)]at h2
    rw[uk]at h2
    split at h2<;>cases h2
  have ha:vs[i]? =some v:=by
   unfold start at h2;rw[ug (by simpa using hi),wc]at h2
   cases e:vs[i]? with
   |none=>rw[e]at h2;cases h2
   |some a=>rw[e]at h2;cases h2;rfl
  obtain⟨u,hu,rv⟩:=r.get ha
  have hp:ps[i]? =some y:=by
   rw[<-S.pre,List.getElem?_take_of_lt (by omega)];exact h1
  have ndP:ps.Nodup:=by rw[<-S.pre];exact S.nd.sublist (List.take_sublist _ _)
  refine⟨u,rv,?_⟩;rcases S.par y (qe hp) with k|k
  .exact .inl ⟨k,Tu ndP hp hu k⟩
  .obtain⟨c,e⟩:=Ly (n:=s.heap.objs.size+1) k;refine .inr ⟨.inl k,c,e,?_⟩;have q:=x.cell y c e;rw[Ru ndP hp hu (by show scope.names.lookup y≠_;rw[k];decide)]at q
   exact q
 .exact e0.hok.fresh (rl (x.above y c (Pi h)))
 .unfold start;show _=N.length;rw[ud,la,pj];omega
theorem Y5{params:Arguments}{dV kV doc pm cdv ct oc:Fa}{an od:Option ca}{osl:Array (Option Fa)}{N:List xa}(lk:K.lookup f=some ⟨oc,od,.func (fnOf name qual params body scope dV kV doc pm an cdv ct),osl⟩)(hcd:rh K cdv qual=true)(S:FnScope N ps scope)(len:∀ vs H Q E,sp vs H Q E->vs.length=ps.length)(hbody:∀ (A:je) (outer:List tu) (s:Shared) (H:Hp) (vs:List V) (Q:VK) (E:XK),Room k (A.deeper (wn qual scope s.heap.objs.size f cdv))->sp vs H Q E->
   ∃ t,PSs (Qo CX P w K mg base N qual scope f cdv A outer s H E) body t/\t {nx:=λ_ H'=>Q .non H',rt:=Q} (start N vs) H):
  FnOk P w K mg base CX (k+1) f (fnOf name qual params body scope dV kV doc pm an cdv ct) ps sp:=by
 refine⟨len,λA outer s H args us vs Q E hr e0 hb r hsp=>?_⟩;have hl:=len _ _ _ _ hsp;have KX:K.In s.heap:=e0.mod.kin.keeps λb o e=>(e0.bs b o e).1;have lim:s.heap.NoLimit:=e0.mod.nolimit.keeps λb o e=>(e0.bs b o e).1
 have hkind:∀ y∈ps.zip us,scope.names.lookup y.1=some .local\/(scope.names.lookup y.1=some .cell/\((oj (s.heap.objs.size+1) scope.names []).lookup y.1).isSome=true):=λ⟨n,v⟩ hy=>by
  rcases S.par n (iw hy).1 with q|q
  .exact .inl q
  .exact .inr ⟨q,ip _ _ _ (.inl q)⟩
 refine codeAny_call_function hr.depth (KX _ _ lk) rfl S.co S.gen rfl (PySem.W.codeRec_of KX hcd) (hb _ _ _ _ ?_);refine wpAny_newFunctionEnv_cells S.kind hkind λenv he s1 x=>?_;subst he;refine⟨lim.keeps x.toInCall.keep,codeAny_func ?_⟩;obtain⟨t,ht,hq⟩:=hbody A outer s H vs Q E (hr.deeper _) hsp;have I:Inv (Qo CX P w K mg base N qual scope f cdv A outer s H E) [] (start N vs) H s1:=PH S hr.hd e0 hl r x;refine af (ht [] s1 (start N vs) H _ I hq) (λfl s' hs=>?_) λe s' hs=>hs
 have fin:∀ {σ':St} {H':Hp} {v:V} {u:Fa},Inv (Qo CX P w K mg base N qual scope f cdv A outer s H E) [] σ' H' s'->RelV v u->Q v H'->CE outer P w H s Q u s':=
  λ{σ' H' v u} J rv q=>⟨v,H',J.os,J.bare,J.base,J.hok,rv,q⟩
 cases fl with
 |ret u=>
  obtain⟨v,σ',H',J,rv,q⟩:=hs;exact fin J rv q
 |next=>
  obtain⟨σ',H',J,q⟩:=hs;exact fin (v:=V.non) (u:=Value.none) J rfl q
 |brk=>
  obtain⟨_,_,_,q⟩:=hs;exact bg q
 |cont=>
  obtain⟨_,_,_,q⟩:=hs;exact bg q
section
variable {p:vg}{t:TA}{id T:String}{r:List V->Hp->VK->Prop}
def tCB(r:List V->Hp->VK->Prop)(t:TA):TE:=λσ H Q=>t σ H λvs H1=>r vs H1 Q
theorem Dt(hc:Di X (.builtin id) r)(hg:Gl X x)(hm:X.mg x=none)(hv:vf x=some (.builtin id))(ha:PA X (e::es) t)(hn:x≠"__name__":=by decide)(hdb:(x==("__debug__":xa))=false:=by decide)(he:aa (e::es) X.env=(false,eval e X.env)::aa es X.env:=by rfl)(hpl:(zd pos (aa es X.env)).any (·.1)=false:=by rfl):PE X (.Call (.Name x p) (e::es) [] pos) (tCB r t):=by
 intro pins s σ H Q I h;refine lh (Dk I hg hm hv ?_ hn hdb);exact gq (thn (ha pos pins s σ H _ I h) λus s1 ⟨vs,H1,I1,r1,q1⟩=>hc pins s1 σ H1 vs us Q I1 r1 q1) he hpl
theorem Nv(hc:Di X (.type T) r)(hg:Gl X x)(hm:X.mg x=none)(hv:vf x=some (.type T))(ha:PA X (e::es) t)(hn:x≠"__name__":=by decide)(hdb:(x==("__debug__":xa))=false:=by decide)(he:aa (e::es) X.env=(false,eval e X.env)::aa es X.env:=by rfl)(hpl:(zd pos (aa es X.env)).any (·.1)=false:=by rfl):PE X (.Call (.Name x p) (e::es) [] pos) (tCB r t):=by
 intro pins s σ H Q I h;refine lh (Dk I hg hm hv ?_ hn hdb);exact cg (thn (ha pos pins s σ H _ I h) λus s1 ⟨vs,H1,I1,r1,q1⟩=>hc pins s1 σ H1 vs us Q I1 r1 q1) he hpl
end
end L2
namespace HT
open PySem PyProof.Rows
section
open PySem.SeqAt
open PySem.AutoSeq1 (wpAny_loadPart')
open PySem.MeetsSeq PySem.MeetsSeq2 PySem.MeetsSeq3
end
variable{Q:Fa->Shared->Prop}{sl:ca}{vl vu:Fa}{lo hi:Option Int}
section
variable {prog:ic}{w:vd}{A:je}{E:Fa->Shared->Prop}{s:Shared}
theorem cat_tup{t b:ca}{vs ws:List Fa}(ht:IsTup s.heap t vs.toArray)(hb:IsTup s.heap b ws.toArray)(hv:vs≠ [])(h1:ws= []->Q (.ref t) s)(h2:ws≠ []->Q (.ref s.heap.objs.size) {s with heap:=s.heap.push {cls:=.type "tuple",data:=.seq (vs++ws).toArray}})(hsz:vs.length+ws.length<=sizeLine):wa (pb prog w) A (zj .Add (.ref t) (.ref b)) Q E s:=by
 obtain⟨⟨cls,dd,data,sl⟩,ho,hc,n,hd⟩:=id ht;obtain⟨⟨cls2,dd2,data2,sl2⟩,ho2,hc2,n2,hd2⟩:=id hb;simp only at hc hd hc2 hd2;subst hc hd hc2 hd2;have e:vs.toArray++ws.toArray=(vs++ws).toArray:=by simp
 by_cases hw:ws= []
 .exact concat_meets ⟨_,ho,rfl⟩ ⟨_,ho2,rfl⟩ xu seq_tuple_add jp bo (zm _ _)
   (tuple_addW1 t b vs.toArray ws.toArray n n2 dd dd2 sl sl2 (by simpa using hv) (by simp[hw])) ⟨ho,ho2,h1 hw⟩
 .refine concat_meets ⟨_,ho,rfl⟩ ⟨_,ho2,rfl⟩ xu seq_tuple_add jp bo (zm _ _)
   (tuple_addW2 t b vs.toArray ws.toArray n n2 dd dd2 sl sl2 (by simpa using hv) (by simpa using hw) (by rw[jc,jc];exact hsz)) ⟨ho,ho2,?_⟩
  rw[e];exact h2 hw
def sIx(n d:Nat):Option Int->Nat
 |none=>d
 |some v=>if v<0 then(v+(n:Int)).toNat else min v.toNat n
theorem sIx_none(n d:Nat):sIx n d none=d:=rfl
theorem sIx_nat(n d k:Nat):sIx n d (some (k:Int))=min k n:=by
 show(if(k:Int)<0 then((k:Int)+(n:Int)).toNat else min (k:Int).toNat n)=min k n;rw[if_neg (by omega),lp]
theorem G3(n d:Nat)(hd:d<=n)(o:Option Int):sIx n d o<=n:=by
 cases o with
 |none=>exact hd
 |some v=>
  show(if v<0 then(v+(n:Int)).toNat else min v.toNat n)<=n;by_cases hv:v<0
  .rw[if_pos hv];omega
  .rw[if_neg hv];exact Nat.min_le_right _ _
theorem ME(v:Int)(n d:Nat):(if v<0 then max (v+(n:Int)) 0 else min v (n:Int))=((sIx n d (some v):Nat):Int):=by
 show(if v<0 then max (v+(n:Int)) 0 else min v (n:Int))=(((if v<0 then(v+(n:Int)).toNat else min v.toNat n):Nat):Int)
 by_cases hv:v<0
 .simp only[if_pos hv];omega
 .simp only[if_neg hv];omega
theorem LB(lo hi:Option Int)(n:Nat):um lo hi 1 (n:Int)=(((sIx n 0 lo:Nat):Int),((sIx n n hi:Nat):Int)):=by
 have h1:¬ ((1:Int)<0):=by omega
 unfold um;simp only[h1,if_false];refine Prod.ext ?_ ?_
 .cases lo with
  |none=>rfl
  |some v=>exact ME v n 0
 .cases hi with
  |none=>rfl
  |some v=>exact ME v n n
theorem GD(i j:Nat):wj (i:Int) (j:Int) 1=j-i:=by
 unfold wj;have h1:(1:Int)>0:=by omega
 simp only[h1,if_true,Int.ediv_one];split<;>omega
theorem Ot{v:Fa}{o:Option Int}{Q:Option Int->Shared->Prop}(p:yv v o)(h:Q o s):wa (pb prog w) A (Builtin.Slice.slicePartIndex v) Q E s:=by
 cases p with
 |none=>exact slicePart_none h
 |int i t=>exact slicePart_int h
theorem Oj{n:Nat}{Q:Int×Int×Nat->Shared->Prop}(hs:s.heap.IsSliceOf sl vl vu .none)(pl:yv vl lo)(pu:yv vu hi)(h:Q (((sIx n 0 lo:Nat):Int),1,sIx n n hi-sIx n 0 lo) s):wa (pb prog w) A (Os (.ref sl) (pure (n:Int))) Q E s:=by
 obtain⟨os,hos,hcs,hds⟩:=id hs;unfold Os Builtin.Slice.sliceFields;refine Da (Da (jo hos hds (x:=vl) rfl (Da (jo hos hds (x:=vu) rfl (Da (jo hos hds (x:=.none) rfl (ia ?_)))))));refine Da (slicePart_none ?_);show wa _ _ (if((1:Int)==0)=true then _ else _) _ _ s;rw[if_neg (by decide)];refine Da (Ot pl (Da (Ot pu (Da (ia ?_)))));show wa _ _ (match um lo hi 1 (n:Int) with|(lo,hi)=>pure (lo,(1:Int),wj lo hi 1)) _ _ s;rw[LB lo hi n];show wa _ _ (pure (((sIx n 0 lo:Nat):Int),(1:Int),wj ((sIx n 0 lo:Nat):Int) ((sIx n n hi:Nat):Int) 1)) _ _ s;rw[GD];exact ia h
theorem XN(xs:Array Fa)(i k:Nat):((qb k).filterMap λ(m:Nat)=>xs[((i:Int)+(m:Int)*1).toNat]?).toArray=((xs.toList.drop i).take k).toArray:=by
 have e:(λ(m:Nat)=>xs[((i:Int)+(m:Int)*1).toNat]?)=λm=>xs[i+m]? :=by
  funext m;have:((i:Int)+(m:Int)*1).toNat=i+m:=by omega
  rw[this]
 rw[e];have:=pick_run xs i k;rw[Ps]at this
 have e2:((λx=>xs[x]?)∘λx=>i+x)=λm=>xs[i+m]? :=rfl;rw[e2]at this
 rw[this]
theorem getItem_tuple_cut{t:ca}{items:Array Fa}(ht:IsTup s.heap t items)(hs:s.heap.IsSliceOf sl vl vu .none)(pl:yv vl lo)(pu:yv vu hi)(hw:¬ (sIx items.size 0 lo=0/\sIx items.size items.size hi=items.size))(h:Q (.ref s.heap.objs.size) {s with heap:=s.heap.push {cls:=.type "tuple",data:=.seq ((items.toList.drop (sIx items.size 0 lo)).take (sIx items.size items.size hi-sIx items.size 0 lo)).toArray}})(hsz:items.size<=sizeLine):wa (pb prog w) A (getItem (.ref t) (.ref sl)) Q E s:=by
 have htake:sizeOk (.seq ((items.toList.drop (sIx items.size 0 lo)).take (sIx items.size items.size hi-sIx items.size 0 lo)).toArray):=by
  show((items.toList.drop (sIx items.size 0 lo)).take (sIx items.size items.size hi-sIx items.size 0 lo)).toArray.size<=sizeLine;rw[jc,ao,zt,mj];omega
 have hj:sIx items.size items.size hi<=items.size:=G3 _ _ (jd _) hi;obtain⟨os,hos,hcs,hds⟩:=id hs;have hTs:s.TypeIs (.ref sl) "slice":=⟨os,hos,hcs⟩
 unfold getItem
 try with_reducible refine ng ?_
 first|refine Da (ia ?_)|skip
 refine Da (wpAny_sequenceKey ht.typeIs (by decide) ?_)
 refine Da (zi (name:=jr "__getitem__") ht.typeIs kf
  (og kf ht.typeIs entry_tuple_getitem ?_ (args_tuple_getitem _ _)))
 show wa _ _ (Rs (.ref t) >>= _) _ _ s;refine Da (tupleItemsOf_ ht ?_);refine Da (rm hTs ?_);rw[if_pos (by decide)];refine Da (Oj hs pl pu ?_)
 have hno:¬ ((((sIx items.size 0 lo:Nat):Int)==0&&(1:Int)==1&&(sIx items.size items.size hi-sIx items.size 0 lo)==items.size)=true):=by
  intro q;rw[ze,ze]at q
  have q1:((sIx items.size 0 lo:Nat):Int)=0:=eq_of_beq q.1.1;have q2:sIx items.size items.size hi-sIx items.size 0 lo=items.size:=eq_of_beq q.2;exact hw ⟨by omega,by omega⟩
 show wa _ _ (if(((sIx items.size 0 lo:Nat):Int)==0&&(1:Int)==1&&(sIx items.size items.size hi-sIx items.size 0 lo)==items.size)=true then _ else _) _ _ s;rw[if_neg hno,XN]
 first
  |exact Da (m:=jk _) (tf (ia ⟨_,rfl,ia h⟩) htake)
  |exact Da (m:=jk _) (tf (Da (ia (ia ⟨_,rfl,ia h⟩))) htake)
  |exact Da (Da (m:=jk _) (tf (ia (ia ⟨_,rfl,ia h⟩)) htake))
  |exact Da (Da (m:=jk _) (tf (ia ⟨_,rfl,ia h⟩) htake))
end
end HT
namespace L2
open PySem PySem.Spec PyProof.Rows
abbrev TO:=St->Hp->(Option Int->Hp->Prop)->Prop
def PO(X:Cx)(e:Option qc)(t:TO):Prop:=
 ∀ (pins:List (ca×ki)) (s:Shared) (σ:St) (H:Hp) (Q:Option Int->Hp->Prop),Inv X pins σ H s->t σ H Q->
  wa (pb X.prog X.w) X.A (evalPart e X.env) (λu s'=>∃ o H',Inv X pins σ H' s'/\yv u o/\Q o H') X.xe s
def IW:TO:=λ_ H Q=>Q none H
def R7(t:TE):TO:=λσ H Q=>t σ H λx H1=>∃ i,x=.int i/\Q (some i) H1
variable{X:Cx}{e:qc}{pos:vg}{r:V->Option Int->Option Int->Hp->VK->Prop}{xs:List V}{us:List Fa}
section
variable {te:TE}{lo hi:Option qc}{tl th:TO}{p2:vg}
theorem GV:PO X none IW:=by
 intro pins s σ H Q I h;rw[evalPart_none];exact ia ⟨none,H,I,.none,h⟩
theorem HV(h:PE X e te):PO X (some e) (R7 te):=by
 intro pins s σ H Q I hw;rw[evalPart_some];refine thn (h pins s σ H _ I hw) λu s1 ⟨x,H1,I1,r1,q1⟩=>?_;obtain⟨i,rfl,q⟩:=q1;obtain⟨t,rfl⟩:=r1;exact⟨some i,H1,I1,.int i t,q⟩
def SlR(X:Cx)(r:V->Option Int->Option Int->Hp->VK->Prop):Prop:=
 ∀ (pins:List (ca×ki)) (s:Shared) (σ:St) (H:Hp) (x:V) (v vl vu:Fa) (lo hi:Option Int) (sl:ca) (Q:VK),Inv X pins σ H s->RelV x v->s.heap.IsSliceOf sl vl vu .none->yv vl lo->yv vu hi->r x lo hi H Q->
  ∃ T id,typeLookup (.type T) "__getitem__"=pure (some (.builtin id))/\s.TypeIs v T/\wa (pb X.prog X.w) X.A (getItem v (.ref sl)) (EP X pins σ Q) X.xe s
theorem SlR.or{r':V->Option Int->Option Int->Hp->VK->Prop}(h:SlR X r)(h':SlR X r'):SlR X (λx lo hi H Q=>r x lo hi H Q\/r' x lo hi H Q):=by
 intro pins s σ H x v vl vu lo hi sl Q I rx hs pl pu q;rcases q with q|q
 .exact h pins s σ H x v vl vu lo hi sl Q I rx hs pl pu q
 .exact h' pins s σ H x v vl vu lo hi sl Q I rx hs pl pu q
def tSl(r:V->Option Int->Option Int->Hp->VK->Prop)(te:TE)(tl th:TO):TE:=λσ H Q=>te σ H λx H1=>tl σ H1 λl H2=>th σ H2 λu H3=>r x l u H3 Q
theorem IA(hr:SlR X r)(he:PE X e te)(hl:PO X lo tl)(hu:PO X hi th):PE X (.Subscript e (.Slice lo hi none p2) pos) (tSl r te tl th):=by
 intro pins s σ H Q I h;refine Subscript_ (thn (he pins s σ H _ I h) λv s1 ⟨x,H1,I1,r1,q1⟩=>?_);refine wpAny_Slice (thn (hl pins s1 σ H1 _ I1 q1) λvl s2 ⟨l,H2,I2,pl,q2⟩=>thn (hu pins s2 σ H2 _ I2 q2) λvu s3 ⟨u,H3,I3,pu,q3⟩=>?_);rw[evalPart_none];refine ia ?_;have I4:Inv X pins σ H3 {s3 with heap:=s3.heap.push {cls:=.type "slice",data:=.fields #[vl,vu,.none]}}:=I3.kept (t':=s3.toks) λb ob q=>ja _ q;obtain⟨T,id,hT,ht,hg⟩:=hr pins {s3 with heap:=s3.heap.push {cls:=.type "slice",data:=.fields #[vl,vu,.none]}} σ H3 x v vl vu l u s3.heap.objs.size Q I4 r1 (Heap.IsSliceOf.new ..) pl pu q3;show wa (pb X.prog X.w) X.A (iu e (.Slice lo hi none p2) v (.ref s3.heap.objs.size)) (EP X pins σ Q) X.xe {s3 with heap:=s3.heap.push {cls:=.type "slice",data:=.fields #[vl,vu,.none]}};exact tail_any (ops:= [.ref s3.heap.objs.size,v]) ht hT hg (by with_unfolding_all rfl)
def Qy(xs:List V)(lo hi:Option Int):List V:=(xs.drop (HT.sIx xs.length 0 lo)).take (HT.sIx xs.length xs.length hi-HT.sIx xs.length 0 lo)
theorem Rp(xs:List V)(lo hi:Option Int):(Qy xs lo hi).length<=xs.length:=by
 unfold Qy;rw[ao,zt];omega
def Ia0(K:td):V->Option Int->Option Int->Hp->VK->Prop:=λx lo hi H Q=>∃ a xs,x=.ref a/\SqT K H a xs/\
 ¬ (HT.sIx xs.length 0 lo=0/\HT.sIx xs.length xs.length hi=xs.length)/\∀ p,H p=none->Q (.ref p) (Pb H p (.tup (Qy xs lo hi)))
theorem T3:SlR X (Ia0 X.K):=by
 intro pins s σ H x v vl vu lo hi sl Q I rx hs pl pu h;obtain⟨a,xs,rfl,hx,hw,q⟩:=h;cases rx;obtain⟨its,r,ht,hz⟩:=I.tuple hx;have hlen:its.toArray.size=xs.length:=by rw[jc];exact r.length.symm
 refine⟨"tuple",_,kf.lookup,ht.typeIs,?_⟩;refine HT.getItem_tuple_cut ht hs pl pu (by rw[hlen];exact hw) ?_ (by rw[hlen];exact hz);rw[hlen];refine⟨.ref s.heap.objs.size,_,I.laid (t':=s.toks) (o:=.tup (Qy xs lo hi)) (λb ob q=>ja _ q) (jd _) ?_,rfl,q _ (I.hok.fresh (jd _))⟩;exact⟨uf (Rp xs lo hi) hz,_,(r.drop (HT.sIx xs.length 0 lo)).take (HT.sIx xs.length xs.length hi-HT.sIx xs.length 0 lo),IsTup.new _ _⟩
def W6(K:td):R2:=λx y H Q=>∃ a b xs ys,x=.ref a/\y=.ref b/\SqT K H a xs/\SqT K H b ys/\xs≠ []/\xs.length+ys.length<=sizeLine/\
 (ys= []->Q (.ref a) H)/\(ys≠ []->∀ p,H p=none->Q (.ref p) (Pb H p (.tup (xs++ys))))
theorem Vals.nil_iff(r:Vals xs us):us= []↔xs= []:=by
 cases r with
 |nil=>simp
 |cons _ _=>simp
theorem NU:OpR X (zj .Add) (W6 X.K):=by
 intro pins s σ H x y v u Q I rx ry h;obtain⟨a,b,xs,ys,rfl,rfl,ha,hb,hx,hz,q1,q2⟩:=h;cases rx;cases ry;obtain⟨its,r1,p1,_⟩:=I.tuple ha;obtain⟨its2,r2,p2,_⟩:=I.tuple hb;refine HT.cat_tup p1 p2 (λz=>hx (r1.nil_iff.mp z)) (λz=>⟨.ref a,H,I,rfl,q1 (r2.nil_iff.mp z)⟩) (λz=>?_) (by rw[<-r1.length,<-r2.length];exact hz);refine⟨.ref s.heap.objs.size,_,I.laid (t':=s.toks) (o:=.tup (xs++ys)) (λb ob q=>ja _ q) (jd _) ?_,rfl,q2 (λw=>z (r2.nil_iff.mpr w)) _ (I.hok.fresh (jd _))⟩;exact⟨by rw[ud];exact hz,_,r1.append r2,IsTup.new _ _⟩
end
def JT(n:Nat)(i:Int):Option Nat:=if 0<=i then(if i<n then some i.toNat else none) else if -(n:Int)<=i then some (i+n).toNat else none
variable{α:Type}
def Ir(xs:List α)(i:Int):Option α:=(JT xs.length i).bind λj=>xs[j]?
variable{n:Nat}{i:Int}
theorem MT{j:Nat}(h:JT n i=some j):seqIndex? i n=some j/\j<n/\ -(n:Int)<=i/\i<n:=by
 unfold JT at h;by_cases h0:0<=i
 .rw[if_pos h0]at h
  by_cases h1:i<n
  .rw[if_pos h1]at h
   have e:i.toNat=j:=yb h;exact⟨by rw[seqIndex_of h0 h1,e],by omega,by omega,h1⟩
  .rw[if_neg h1]at h;cases h
 .rw[if_neg h0]at h
  by_cases h1: -(n:Int)<=i
  .rw[if_pos h1]at h
   have e:(i+n).toNat=j:=yb h;exact⟨by rw[seqIndex_neg (by omega) h1,e],by omega,h1,by omega⟩
  .rw[if_neg h1]at h;cases h
theorem Aw{xs:List α}{v:α}(h:Ir xs i=some v):∃ j,seqIndex? i xs.length=some j/\xs[j]? =some v/\j<xs.length/\ -(xs.length:Int)<=i/\i<xs.length:=by
 unfold Ir at h;cases e:JT xs.length i with
 |none=>rw[e]at h;cases h
 |some j=>
  rw[e]at h
  obtain⟨h1,h2,h3,h4⟩:=MT e;exact⟨j,h1,h,h2,h3,h4⟩
theorem atI_last(xs:List α)(v:α):Ir (xs++ [v]) (-1)=some v:=by
 have hl:(xs++ [v]).length=xs.length+1:=by simp
 have e:JT (xs++ [v]).length (-1)=some xs.length:=by
  unfold JT;rw[hl,if_neg (by decide),if_pos (by omega)];congr 1;omega
 unfold Ir;rw[e];show(xs++ [v])[xs.length]? =some v;simp
def Xl(b:qc):Prop:=∀ o i,subscripted b false o i=operate [o,i] (getItem o i)
def IxR(X:Cx)(r:R2):Prop:=
 ∀ (value slice:qc) (pins:List (ca×ki)) (s:Shared) (σ:St) (H:Hp) (x y:V) (v u:Fa) (Q:VK),Inv X pins σ H s->RelV x v->RelV y u->r x y H Q->
  subscripted slice false v u=operate [v,u] (getItem v u)->wa (pb X.prog X.w) X.A (iu value slice v u) (EP X pins σ Q) X.xe s
def U4(X:Cx)(id:String)(r:V->List V->Hp->VK->Prop):Prop:=
 ∀ (pins:List (ca×ki)) (s:Shared) (σ:St) (H:Hp) (x:V) (xs:List V) (v:Fa) (us:List Fa) (Q:VK),Inv X pins σ H s->RelV x v->Vals xs us->r x xs H Q->
  wa (pb X.prog X.w) X.A (call (.builtin id) (v::us)) (EP X pins σ Q) X.xe s
variable{A:je}{s:Shared}{y x:V}{u v:Fa}{pins:List (ca×ki)}{σ:St}{H:Hp}
section
variable {a b:qc}{ta tb:TE}
theorem IxR.or{r r':R2}(h:IxR X r)(h':IxR X r'):IxR X (λx y H Q=>r x y H Q\/r' x y H Q):=by
 intro value slice pins s σ H x y v u Q I rx ry q hs;rcases q with q|q
 .exact h value slice pins s σ H x y v u Q I rx ry q hs
 .exact h' value slice pins s σ H x y v u Q I rx ry q hs
theorem PX{r:R2}(hr:IxR X r)(ha:PE X a ta)(hb:PE X b tb)(hs:Xl b):PE X (.Subscript a b pos) (Q7 r ta tb):=by
 intro pins s σ H Q I h;exact Subscript_ (TQ ha hb I h λv u s2 x y H2 I2 rx ry q=>hr a b pins s2 σ H2 x y v u Q I2 rx ry q (hs _ _))
def Y6(K:td):R2:=λx y H Q=>∃ p xs i v,x=.ref p/\y=.int i/\SqL K H p xs/\Ir xs i=some v/\Q v H
def A7(K:td):R2:=λx y H Q=>∃ p xs i v,x=.ref p/\y=.int i/\SqT K H p xs/\Ir xs i=some v/\Q v H
def Z6:R2:=λx y H Q=>∃ z i c,x=.str z/\y=.int i/\z.length<=sizeLine/\Ir z.cps.toList i=some c/\Q (.str ⟨#[c]⟩) H
theorem NT:IxR X (Y6 X.K):=by
 intro value slice pins s σ H x y v u Q I rx ry h hs;obtain⟨p,xs,i,z,rfl,rfl,hq,he,q⟩:=h;cases rx;obtain⟨t,rfl⟩:=ry;obtain⟨its,r,pl,hz⟩:=I.list hq;obtain⟨j,h1,h2,h3,h4,h5⟩:=Aw he;obtain⟨w,ew,rw'⟩:=r.get h2;have hl:=r.length;have hn:=Qw;have fin:EP X pins σ Q w s:=⟨z,H,I,rw',q⟩
 by_cases h0:0<=i
 .have hj:i.toNat=j:=by
   rw[seqIndex_of h0 h5]at h1
   exact yb h1
  exact item_listR pl.isList h0 (by omega) (by rw[hj];simpa using ew) fin hs
 .have hj:(i+(its.toArray.size:Int)).toNat=j:=by
   rw[seqIndex_neg (by omega) h4]at h1
   rw[jc,<-hl];exact yb h1
  exact zv (x:=w) pl.isList.typeIs slot_list_getitem.lookup
   (wpAny_getItem_list_neg (Q:=λr s'=>r=w/\EP X pins σ Q r s') pl.isList (by omega) (by rw[jc]<;>omega) (by omega) (by rw[hj];simpa using ew) ⟨rfl,fin⟩) hs
theorem IM:IxR X (A7 X.K):=by
 intro value slice pins s σ H x y v u Q I rx ry h hs;obtain⟨p,xs,i,z,rfl,rfl,hq,he,q⟩:=h;cases rx;obtain⟨t,rfl⟩:=ry;obtain⟨its,r,pl,hz⟩:=I.tuple hq;obtain⟨j,h1,h2,h3,h4,h5⟩:=Aw he;obtain⟨w,ew,rw'⟩:=r.get h2;have hl:=r.length;have hn:=Qw;have fin:EP X pins σ Q w s:=⟨z,H,I,rw',q⟩
 exact zv (x:=w) pl.typeIs slot_tuple_getitem.lookup
  (getItem_tuple (j:=j) (Q:=λr s'=>r=w/\EP X pins σ Q r s') pl (by omega) (by omega) (by rw[jc,<-hl];exact h1) (by simpa using ew) ⟨rfl,fin⟩) hs
theorem L0:IxR X Z6:=by
 intro value slice pins s σ H x y v u Q I rx ry h hs;obtain⟨z,i,c,rfl,rfl,hz,he,q⟩:=h;obtain⟨t,rfl⟩:=rx;obtain⟨t',rfl⟩:=ry;obtain⟨j,h1,h2,h3,h4,h5⟩:=Aw he;have hl:z.cps.toList.length=z.length:=by simp[Str.length]
 rw[hl]at h1 h4 h5
 have hn:=Qw
 exact tail_any (typeIs_str s z t) slot_str_getitem.lookup (getItem_str (c:=c) (by
  have e1:decide (i< -(2^63:Int))=false:=decide_eq_false (by omega);have e2:decide (i>=2^63)=false:=decide_eq_false (by omega)
  rw[e1,e2,Bool.or_false]) (by rw[h1];simpa using h2) ⟨.str ⟨#[c]⟩,H,I.tok _,⟨_,rfl⟩,q⟩) hs
def rIx(K:td):R2:=λx y H Q=>Y6 K x y H Q\/A7 K x y H Q\/Z6 x y H Q
theorem K0:IxR X (rIx X.K):=NT.or (IM.or L0)
theorem Qx(lo hi:Option Int)(n:Nat):(ai lo hi none n).1=((HT.sIx n 0 lo:Nat):Int)/\(ai lo hi none n).2.1=((HT.sIx n n hi:Nat):Int)/\(ai lo hi none n).2.2=1:=by
 refine⟨?_,?_,rfl⟩
 .cases lo with
  |none=>simp[ai,HT.sIx]
  |some i=>
   simp only[ai,HT.sIx,Option.getD_none,show(1:Int)>0 by decide,if_true];by_cases h:i<0
   .simp only[h,if_true]<;>omega
   .simp only[h,if_false]<;>omega
 .cases hi with
  |none=>simp[ai,HT.sIx]
  |some i=>
   simp only[ai,HT.sIx,Option.getD_none,show(1:Int)>0 by decide,if_true];by_cases h:i<0
   .simp only[h,if_true]<;>omega
   .simp only[h,if_false]<;>omega
theorem Ou(its:List Fa)(lo hi:Option Int):slicePick its.toArray lo hi none=((its.drop (HT.sIx its.length 0 lo)).take (HT.sIx its.length its.length hi-HT.sIx its.length 0 lo)).toArray:=by
 obtain⟨h1,h2,h3⟩:=Qx lo hi its.toArray.size;unfold slicePick;rw[h1,h2,h3];simp only[sliceRange_one,pick_run,jc]<;>rfl
def Ha0(K:td):V->Option Int->Option Int->Hp->VK->Prop:=λx lo hi H Q=>∃ a xs,x=.ref a/\SqL K H a xs/\∀ p,H p=none->Q (.ref p) (Pb H p (.lst (Qy xs lo hi)))
theorem BG:SlR X (Ha0 X.K):=by
 intro pins s σ H x v vl vu lo hi sl Q I rx hs pl pu h;obtain⟨a,xs,rfl,hx,q⟩:=h;cases rx;obtain⟨its,r,ht,hz⟩:=I.list hx;have hlen:=r.length;refine⟨"list",_,slot_list_getitem.lookup,ht.isList.typeIs,?_⟩;refine ju ht.isList hs pl pu .none (by simp) ?_ (by rw[jc]<;>omega);rw[Ou,<-hlen];refine⟨.ref s.heap.objs.size,_,I.laid (t':=s.toks) (o:=.lst (Qy xs lo hi)) (λb ob q=>ja _ q) (jd _) ?_,rfl,q _ (I.hok.fresh (jd _))⟩;exact⟨uf (Rp xs lo hi) hz,_,0,(r.drop (HT.sIx xs.length 0 lo)).take (HT.sIx xs.length xs.length hi-HT.sIx xs.length 0 lo),yc _ rfl⟩
def Ji:V->Bool
 | .non=>true
 | .bl _=>true
 | .int _=>true
 | .str _=>true
 |_=>false
def Ay:V->V->Bool
 | .non,.non=>true
 | .bl a,.bl b=>a==b
 | .bl a,.int b=>(if a then 1 else 0)==b
 | .int a,.bl b=>a==(if b then 1 else 0)
 | .int a,.int b=>a==b
 | .str a,.str b=>a==b
 |_,_=>false
theorem VZ(ry:RelV y u)(rx:RelV x v)(fy:Ji y=true)(fx:Ji x=true):SeqAt.EqAt A s u v (Ay y x):=by
 cases y with
 |non=>
  cases ry;cases x with
  |non=>cases rx;exact SeqAt.EqAt.same _
  |bl b=>cases rx;exact SeqAt.EqAt.none_bool b
  |int b=>obtain⟨t,rfl⟩:=rx;exact SeqAt.EqAt.none_int b t
  |str b=>obtain⟨t,rfl⟩:=rx;exact SeqAt.EqAt.none_str b t
  |_=>exact absurd (show false=true from fx) Db
 |bl a=>
  cases ry;cases x with
  |non=>cases rx;exact SeqAt.EqAt.bool_none a
  |bl b=>cases rx;exact SeqAt.EqAt.bool_bool a b
  |int b=>obtain⟨t,rfl⟩:=rx;exact SeqAt.EqAt.bool_int a b t
  |str b=>obtain⟨t,rfl⟩:=rx;exact SeqAt.EqAt.bool_str a b t
  |_=>exact absurd (show false=true from fx) Db
 |int a=>
  obtain⟨t',rfl⟩:=ry;cases x with
  |non=>cases rx;exact SeqAt.EqAt.int_none a t'
  |bl b=>cases rx;exact SeqAt.EqAt.int_bool a t' b
  |int b=>obtain⟨t,rfl⟩:=rx;exact SeqAt.EqAt.int_int a t' b t
  |str b=>obtain⟨t,rfl⟩:=rx;exact SeqAt.EqAt.int_str a t' b t
  |_=>exact absurd (show false=true from fx) Db
 |str a=>
  obtain⟨t',rfl⟩:=ry;cases x with
  |non=>cases rx;exact SeqAt.EqAt.str_none a t'
  |bl b=>cases rx;exact SeqAt.EqAt.str_bool a t' b
  |int b=>obtain⟨t,rfl⟩:=rx;exact SeqAt.EqAt.str_int a t' b t
  |str b=>obtain⟨t,rfl⟩:=rx;exact SeqAt.EqAt.str_str a t' b t
  |_=>exact absurd (show false=true from fx) Db
 |_=>exact absurd (show false=true from fy) Db
def Zx(x:V)(u:Fa):Bool:=match u with
 | .none=>Ay .non x
 | .bool b=>Ay (.bl b) x
 | .int i _=>Ay (.int i) x
 | .str z _=>Ay (.str z) x
 |_=>false
theorem YB(r:RelV y u)(f:Ji y=true):Zx x u=Ay y x:=by
 cases y with
 |non=>cases r;rfl
 |bl b=>cases r;rfl
 |int i=>obtain⟨t,rfl⟩:=r;rfl
 |str z=>obtain⟨t,rfl⟩:=r;rfl
 |_=>exact absurd (show false=true from f) Db
theorem Kn{x:V}:∀ {xs:List V} {us:List Fa},Vals xs us->xs.all Ji=true->us.any (Zx x)=xs.any λy=>Ay y x
 |_,_,.nil,_=>rfl
 |y::xs,u::us,.cons r t,f=>by
  rw[ls,ze]at f
  rw[any_cons,any_cons,YB r f.1,Kn t f.2]
theorem Jj{A:je}{s:Shared}{x:V}{v:Fa}(rx:RelV x v)(fx:Ji x=true):∀ {xs:List V} {us:List Fa},Vals xs us->xs.all Ji=true->∀ u∈us,SeqAt.EqAt A s u v (Zx x u)
 |_,_,.nil,_=>λu hu=>by cases hu
 |y::xs,u::us,.cons r t,f=>λu' hu=>by
  rw[ls,ze]at f
  rcases zc.mp hu with rfl|hu
  .rw[YB r f.1];exact VZ r rx f.1 fx
  .exact Jj rx fx t f.2 u' hu
def O8(x:V)(xs:List V):Bool:=xs.any λy=>Ay y x
def S8(K:td)(neg:Bool):R2:=λx y H Q=>∃ p xs,y=.ref p/\(SqL K H p xs\/SqT K H p xs)/\Ji x=true/\xs.all Ji=true/\Q (.bl (if neg then !O8 x xs else O8 x xs)) H
theorem NI:OpR X (zh .In) (S8 X.K false):=by
 intro pins s σ H x y v u Q I rx ry h;obtain⟨p,xs,rfl,hq,fx,fs,q⟩:=h;cases ry;rcases hq with hq|hq
 .obtain⟨its,r,pl,hz⟩:=I.list hq;refine SeqAt.in_listAt (Zx x) pl.isList (λw hw=>Jj rx fx r fs w (by simpa using hw)) ⟨.bl _,H,I,rfl,?_⟩;rw[show its.toArray.any (Zx x)=its.any (Zx x) by simp,Kn r fs];exact q
 .obtain⟨its,r,pl,hz⟩:=I.tuple hq;refine SeqAt.in_tupleAt (Zx x) pl (λw hw=>Jj rx fx r fs w (by simpa using hw)) ⟨.bl _,H,I,rfl,?_⟩;rw[show its.toArray.any (Zx x)=its.any (Zx x) by simp,Kn r fs];exact q
theorem Ax:OpR X (zh .NotIn) (S8 X.K true):=by
 intro pins s σ H x y v u Q I rx ry h;obtain⟨p,xs,rfl,hq,fx,fs,q⟩:=h;cases ry;rcases hq with hq|hq
 .obtain⟨its,r,pl,hz⟩:=I.list hq;refine SeqAt.notIn_listAt (Zx x) pl.isList (λw hw=>Jj rx fx r fs w (by simpa using hw)) ⟨.bl _,H,I,rfl,?_⟩;rw[show its.toArray.any (Zx x)=its.any (Zx x) by simp,Kn r fs];exact q
 .obtain⟨its,r,pl,hz⟩:=I.tuple hq;refine SeqAt.notIn_tupleAt (Zx x) pl (λw hw=>Jj rx fx r fs w (by simpa using hw)) ⟨.bl _,H,I,rfl,?_⟩;rw[show its.toArray.any (Zx x)=its.any (Zx x) by simp,Kn r fs];exact q
theorem Bw:Di X (.type "list") (λxs H Q=>∃ p ys,xs= [.ref p]/\(SqL X.K H p ys\/SqT X.K H p ys)/\∀ l,H l=none->Q (.ref l) (Pb H l (.lst ys))):=by
 intro pins s σ H xs us Q I r h;obtain⟨p,ys,rfl,hq,q⟩:=h;obtain⟨u,rfl,rx⟩:=vals1 r;cases rx
 have fin:∀ (its:List Fa),Vals ys its->ys.length<=sizeLine->∀ (h':ke) (c':Nat),(∀ b o',s.heap.get? b=some o'->h'.get? b=some o')->
   h'.get? s.heap.objs.size=some {cls:=.type "list",dict:=none,data:=.seq its.toArray c',slots:= #[]}->EP X pins σ Q (.ref s.heap.objs.size) {s with heap:=h'}:=λits r' hz h' c' kp e=>
  ⟨.ref s.heap.objs.size,_,I.laid (t':=s.toks) kp (jd _) (show ObjOk X.prog X.w _ h' _ (.lst ys) from⟨hz,its,c',r',e⟩),rfl,q _ (I.hok.fresh (jd _))⟩
 rcases hq with hq|hq
 .obtain⟨its,r',pl,hz⟩:=I.list hq;have hlen:=r'.length;obtain⟨o,ho,hc,n,hd⟩:=pl.isList;exact call_list_seq p (.inl rfl) ho hc hd (λh' c' kp e=>fin its r' hz h' c' kp e) (by simp only[jc]<;>omega)
 .obtain⟨its,r',pl,hz⟩:=I.tuple hq;have hlen:=r'.length;obtain⟨o,ho,hc,n,hd⟩:=pl;exact call_list_seq p (.inr rfl) ho hc hd (λh' c' kp e=>fin its r' hz h' c' kp e) (by simp only[jc]<;>omega)
theorem Zt:Di X (.type "tuple") (λxs H Q=>∃ p ys,xs= [.ref p]/\((SqL X.K H p ys/\∀ l,H l=none->Q (.ref l) (Pb H l (.tup ys)))\/(SqT X.K H p ys/\Q (.ref p) H))):=by
 intro pins s σ H xs us Q I r h;obtain⟨p,ys,rfl,h⟩:=h;obtain⟨u,rfl,rx⟩:=vals1 r;cases rx;rcases h with⟨hq,q⟩|⟨hq,q⟩
 .obtain⟨its,r',pl,hz⟩:=I.list hq;have hlen:=r'.length;refine call_tuple_list pl.isList (λh' kp=>?_) (by simp only[jc]<;>omega);have I1:Inv X pins σ H {s with heap:=h'}:=I.kept (t':=s.toks) kp
  have I2:Inv X pins σ (Pb H h'.objs.size (.tup ys)) {s with heap:=h'.push {cls:=.type "tuple",data:=.seq its.toArray}}:=
   I1.laid (t':=s.toks) (λb o e=>ja _ e) (jd _) (show ObjOk X.prog X.w _ _ _ (.tup ys) from⟨hz,its,r',IsTup.new _ _⟩)
  exact⟨.ref h'.objs.size,_,I2,rfl,q _ (I1.hok.fresh (jd _))⟩
 .obtain⟨its,r',pl,hz⟩:=I.tuple hq;exact call_tuple_same pl ⟨.ref p,H,I,rfl,q⟩
def W8(K:td)(T:String)(x:V)(H:Hp):Prop:=match x with
 | .str _=>T="str"
 | .int _=>T="int"
 | .ref p=>(T="list"/\∃ xs,SqL K H p xs)\/(T="tuple"/\∃ o,K.lookup p=some o/\o.cls=.type "tuple"/\o.dict=none)\/
   (T="dict"/\((∃ kvs,H p=some (.dK kvs))\/∃ kvs,H p=some (.dT kvs)))\/(T="set"/\∃ S n,H p=some (.set S n))
 |_=>False
theorem LP{T:String}(I:Inv X pins σ H s)(r:RelV x v)(ty:W8 X.K T x H):
  s.TypeIs v T/\∀ a,v=.ref a->∃ ob,s.heap.get? a=some ob/\ob.dict=none:=by
 cases x with
 |str z=>
  obtain⟨t,rfl⟩:=r;cases (show T="str" from ty);exact⟨typeIs_str s z t,λ_ e=>nomatch e⟩
 |int i=>
  obtain⟨t,rfl⟩:=r;cases (show T="int" from ty);exact⟨typeIs_int s i t,λ_ e=>nomatch e⟩
 |ref p=>
  cases r;rcases ty with⟨rfl,xs,hq⟩|⟨rfl,o,hk,hc,hd⟩|⟨rfl,hk⟩|⟨rfl,S,n,hk⟩
  .obtain⟨its,_,pl,_⟩:=I.list hq;refine⟨pl.isList.typeIs,λa e=>?_⟩;cases e;obtain⟨o,n,e,c,hd,_⟩:=pl;exact⟨o,e,hd⟩
  .refine⟨⟨o,I.kIn p o hk,hc⟩,λa e=>?_⟩;cases e;exact⟨o,I.kIn _ o hk,hd⟩
  .have z:∃ o,s.heap.get? p=some o/\o.ExactDict:=by
    rcases hk with⟨kvs,hk⟩|⟨kvs,hk⟩
    .obtain⟨_,_,_,_,o,_,_,e,ex,_⟩:=I.hok p _ hk;exact⟨o,e,ex⟩
    .obtain⟨_,_,_,_,o,_,_,e,ex,_⟩:=I.hok p _ hk;exact⟨o,e,ex⟩
   obtain⟨o,e,ex⟩:=z;refine⟨⟨o,e,ex.1⟩,λa e2=>?_⟩;cases e2;exact⟨o,e,ex.2.1⟩
  .obtain⟨o,_,_,_,e,ex,_⟩:=I.hok p _ hk;refine⟨⟨o,e,ex.1⟩,λa e2=>?_⟩;cases e2;exact⟨o,e,ex.2.1⟩
 |_=>exact bg ty
def Ra0(K:td)(T:String)(r:V->List V->Hp->VK->Prop)(to:TE):TE:=λσ H Q=>to σ H λx H1=>W8 K T x H1/\r x [] H1 Q
def tBM(K:td)(T:String)(r:V->List V->Hp->VK->Prop)(to:TE)(t:TA):TE:=λσ H Q=>to σ H λx H1=>W8 K T x H1/\t σ H1 λxs H2=>r x xs H2 Q
variable {o:qc}{es:List qc}{to:TE}{t:TA}{name:xa}{apos cpos:vg}{T id:String}{r:V->List V->Hp->VK->Prop}
theorem B2(pa:PlainAttrs T)(slot:Slot T name id)(hty:typeOf (.builtin id)=pure (.type "method_descriptor"))(hm:U4 X id r)(ho:PE X o to)(hbase:ye o name X.env (eval o X.env)=eval o X.env:=by rfl)(hline:(apos.endLine==cpos.line)=true:=by rfl):PE X (.Call (.Attribute o name apos) [] [] cpos) (Ra0 X.K T r to):=by
 intro pins s σ H Q I h;refine ko hbase hline (thn (ho pins s σ H _ I h) λv s1 ⟨x,H1,I1,r1,ty,q1⟩=>?_);obtain⟨h1,h2⟩:=LP I1 r1 ty;exact⟨T,id,pa,slot,hty,h1,h2,gj rfl (yq (hm pins s1 σ H1 x [] v [] Q I1 r1 .nil q1))⟩
theorem OF(pa:PlainAttrs T)(slot:Slot T name id)(hty:typeOf (.builtin id)=pure (.type "method_descriptor"))(hm:U4 X id r)(ho:PE X o to)(ha:PA X (e::es) t)(hbase:ye o name X.env (eval o X.env)=eval o X.env:=by rfl)(hfew:((zd cpos (aa (e::es) X.env)).all (λx=> !x.1)&&(ms cpos (om [] X.env)).all (λx=>x.1.isSome)
   &&decide ((e::es).length+([]:List rk).length+(if([]:List rk).isEmpty then 0 else 1)<30))=true:=by rfl)(hline:(apos.endLine==cpos.line)=true:=by rfl)(hs:aa (e::es) X.env=(false,eval e X.env)::aa es X.env:=by rfl)(hplain:(zd cpos (aa es X.env)).any (·.1)=false:=by rfl):
  PE X (.Call (.Attribute o name apos) (e::es) [] cpos) (tBM X.K T r to t):=by
 intro pins s σ H Q I h;refine aw hbase hfew hline rfl (thn (ho pins s σ H _ I h) λv s1 ⟨x,H1,I1,r1,ty,q1⟩=>?_);obtain⟨h1,h2⟩:=LP I1 r1 ty;refine⟨T,id,pa,slot,hty,h1,h2,?_⟩;have hA:=ha cpos pins s1 σ H1 _ I1 q1;rw[hs]at hA ⊢
 refine gj (by show(false||(zd cpos (aa es X.env)).any (·.1))=false;rw[hplain]<;>rfl) (Calls.evalArgs_plain ?_);exact thn hA λus s2 ⟨vs,H2,I2,r2,q2⟩=>hm pins s2 σ H2 x vs v us Q I2 r1 r2 q2
/- xs.append(e),list.index on a module's tuple .. are U4 facts of 06m -/
end
def MtM(X:Cx)(id:String)(r:V->List V->Hp->VK->Prop):Prop:=
 ∀ (pins:List (ca×ki)) (s:Shared) (σ:St) (H:Hp) (x:V) (xs:List V) (v:Fa) (us:List Fa) (Q:VK),Inv X pins σ H s->RelV x v->Vals xs us->r x xs H Q->
  wa (pb X.prog X.w) X.A (call (.builtin id) (v::us)) (EP X pins σ Q) X.xe s
theorem Vals.one:∀ {x:V} {us:List Fa},Vals [x] us->∃ u,us= [u]/\RelV x u
 |_,_,.cons r .nil=>⟨_,rfl,r⟩
theorem Vals.two:∀ {x y:V} {us:List Fa},Vals [x,y] us->∃ u v,us= [u,v]/\RelV x u/\RelV y v
 |_,_,_,.cons r (.cons q .nil)=>⟨_,_,rfl,r,q⟩
theorem Vals.zero:∀ {us:List Fa},Vals [] us->us= []
 |_,.nil=>rfl
theorem Vals.dropLast(h:Vals xs us):Vals xs.dropLast us.dropLast:=by
 induction h with
 |nil=>exact .nil
 |cons r t ih=>
  cases t with
  |nil=>exact .nil
  |cons q t'=>exact .cons r ih
theorem Vals.eraseIdx:∀ {xs:List V} {us:List Fa} (i:Nat),Vals xs us->Vals (xs.eraseIdx i) (us.eraseIdx i)
 |_,_,_,.nil=>.nil
 |_,_,0,.cons _ t=>t
 |_,_,i+1,.cons r t=>.cons r (Vals.eraseIdx i t)
theorem Vals.rep(h:Vals xs us):∀ k:Nat,Vals (kc k xs).flatten (kc k us).flatten
 |0=>.nil
 |k+1=>by
  rw[pi,pi,qp,qp];exact Vals.append h (Vals.rep h k)
theorem BC(l:List α):l.eraseIdx (l.length-1)=l.dropLast:=by
 induction l with
 |nil=>rfl
 |cons a r ih=>
  cases r with
  |nil=>rfl
  |cons b r=>
   have e:(a::b::r).length-1=((b::r).length-1)+1:=by
    have h1:(a::b::r).length=r.length+2:=rfl;have h2:(b::r).length=r.length+1:=rfl;omega
   rw[e,yu,ih]
   all_goals rfl
theorem foldl_rep(its:List Fa):∀ (k:Nat) (acc:List Fa),
  List.foldl (λx1 x2=>x1++x2) acc.toArray (kc k its.toArray)=(acc++(kc k its).flatten).toArray
 |0,acc=>by simp
 |k+1,acc=>by
  have e:acc.toArray++its.toArray=(acc++its).toArray:=by simp
  have e2:(acc++its)++(kc k its).flatten=acc++(kc (k+1) its).flatten:=by
   rw[pi,qp,ak]
  rw[<-e2,<-foldl_rep its k (acc++its),<-e,pi,cj]
variable{its:List Fa}{t':Nat}
section
variable {l b:ca}{ys zs:List V}
theorem Inv.lset{its':List Fa}{f:Array Fa->Array Fa}(I:Inv X pins σ H s)(hH:H l=some (.lst xs))(e:s.heap.get? l=some {cls:=.type "list",data:=.seq its.toArray n})(hf:f its.toArray=its'.toArray)(hv:Vals ys its')(hz:ys.length<=sizeLine):
  Inv X pins σ (Pb H l (.lst ys)) {s with heap:=s.heap.update l (xn f),toks:=t'}:=by
 have q:=PySem.IsL.update e f;rw[hf]at q
 refine I.write (x:=l) (e:=l) (by rw[hH];exact trivial) (.inl rfl) (λb' u hb hu=>(il s.heap (xn f) (qk hb)).trans hu) ⟨_,q⟩ ?_;exact⟨hz,its',_,hv,q⟩
theorem Inv.lnew(I:Inv X pins σ H s)(hv:Vals ys its)(hz:ys.length<=sizeLine):
  Inv X pins σ (Pb H s.heap.objs.size (.lst ys)) {s with heap:=s.heap.push {cls:=.type "list",data:=.seq its.toArray},toks:=t'}:=
 I.laid (λ_ _ q=>ja _ q) (jd _) ⟨hz,its,0,hv,yc _ rfl⟩
theorem Inv.fresh(I:Inv X pins σ H s):H s.heap.objs.size=none:=I.hok.fresh (jd _)
theorem Inv.lstM(I:Inv X pins σ H s)(hH:H l=some (.lst xs)):xs.length<=sizeLine/\∃ (its:List Fa) (n:Nat),Vals xs its/\xs.length=its.length/\s.heap.get? l=some {cls:=.type "list",data:=.seq its.toArray n}:=by
 obtain⟨z,its,n,r,e⟩:=I.hok l _ hH;exact⟨z,its,n,r,r.length,e⟩
theorem LN(h:n<=sizeLine):nk n=false:=by
 unfold nk;exact decide_eq_false (by omega)
end
def QV:V->List V->Hp->VK->Prop:=λx vs H Q=>∃ l xs y,x=.ref l/\vs= [y]/\H l=some (.lst xs)/\xs.length<sizeLine/\Q .non (Pb H l (.lst (xs++ [y])))
theorem Zo:MtM X "list.append" QV:=by
 intro pins s σ H x vs v us Q I rx rv h;obtain⟨l,xs,y,rfl,rfl,hH,hz,q⟩:=h;cases rx;obtain⟨u,rfl,ru⟩:=rv.one;obtain⟨z,its,n,r,hl,e⟩:=I.lstM hH;refine yn F.slot_list_append ⟨_,e,rfl⟩ F.entry_list_append (F.args_list_append_2 _ _) (PySem.list_append l its.toArray n u (by rw[jc];omega)) ⟨e,?_⟩;refine⟨.non,_,I.lset (its':=its++ [u]) hH e (by simp) (r.append (.cons ru .nil)) ?_,rfl,q⟩;rw[ud,qg];omega
def Fa0:V->List V->Hp->VK->Prop:=λx vs H Q=>∃ l xs y,x=.ref l/\vs= []/\H l=some (.lst xs)/\xs[xs.length-1]? =some y/\Q y (Pb H l (.lst xs.dropLast))
theorem B1:MtM X "list.pop" Fa0:=by
 intro pins s σ H x vs v us Q I rx rv h;obtain⟨l,xs,y,rfl,rfl,hH,hy,q⟩:=h;cases rx;have hus:=rv.zero;subst hus;obtain⟨z,its,n,r,hl,e⟩:=I.lstM hH;obtain⟨u,hu,ru⟩:=r.get hy
 have hy':its.toArray[its.toArray.size-1]? =some u:=by
  show its.toArray[its.length-1]? =some u;rw[<-ul,<-hl];exact hu
 refine yn F.slot_list_pop ⟨_,e,rfl⟩ F.entry_list_pop (F.args_list_pop_1 _) (MeetsSeq.list_pop_last l its.toArray n u hy' (by rw[jc];omega)) ⟨e,?_⟩;refine⟨y,_,I.lset (its':=its.dropLast) hH e ?_ r.dropLast ?_,ru,q⟩
 .show its.toArray.eraseIdxIfInBounds (its.toArray.size-1)=its.dropLast.toArray;rw[jc,List.eraseIdxIfInBounds_toArray,BC]
 .rw[List.length_dropLast];omega
theorem FF(xs:List α)(k:Nat):(kc k xs).flatten.length=k*xs.length:=by
 induction k with
 |zero=>simp
 |succ k ih=>rw[pi,qp,ud,ih,Nat.succ_mul,Nat.add_comm]
section
variable {prog:ic}{w:vd}{E:Fa->Shared->Prop}
end
end L2
namespace Att
open PySem PySem.W PySem.Calls PyProof.Rows
variable{h:ke}
theorem Kq{P:Params}:∀ (ns:List Int) (vs:List Fa),WellAll P h vs (ns.map WData.int)->mr vs ns:=by
 intro ns
 induction ns with
 |nil=>
  intro vs w;rw[fk]at w
  cases w;exact .nil
 |cons n ns ih=>
  intro vs w;rw[ac]at w
  cases w with
  |cons a b=>
   cases a;exact .cons _ _ (ih _ b)
variable{l:OpenLaw}{n:Nat}
theorem DJ(hn:l.most=some n){P:Params}{args:List WData}{vals:List Fa}(hpre:l.row.toRowW.claim.pre args=true)(hwl:WellAll P h vals args):
  ∃ a vs ns,vals= [Value.ref a]/\args= [WData.list (ns.map WData.int)]/\h.get? a=some {cls:=.type "list",data:=.seq vs.toArray}/\mr vs ns/\ns.length<=n:=by
 have hsh:WShape.hasAll [] args [.list .int]=true:=(pre_splitW hpre).1;have hc:l.pre.holds [] {args:=args}=true:=(pre_splitW hpre).2;obtain⟨d,r,rfl,h1,h2⟩:=hasAllW_cons hsh;obtain rfl:=hasAllW_nil h2;obtain⟨xs,rfl,h3⟩:=hasW_list h1;obtain⟨ns,rfl⟩:=items_int h3
 have hlen:ns.length<=n:=by
  unfold OpenLaw.pre at hc
  have h4:(WTm.not (.lt (.lit (.int (n:Int))) (.len (.arg 0)))).holds [] {args:= [.list (ns.map .int)]}=true:=by
   have h4:=(holds_andW hc).1;rw[hn]at h4
   exact h4
  have h5:=condW_of h4 (w_not (w_lt w_lit (w_len_list (w_arg rfl))));rw[la]at h5
  refine tm λq=>?_;have q':(n:Int)<((ns.length:Nat):Int):=by omega
  first
   |(rw[decide_eq_true q']at h5;exact absurd h5 (by decide))
   |(simp at h5;omega)
 cases hwl with
 |cons w1 w2=>
  cases w2;cases w1 with
  |list ho hall=>exact⟨_,_,ns,rfl,rfl,ho,Kq ns _ hall,hlen⟩
theorem YI(l:OpenLaw)(args:List WData):l.row.toRowW.claim.post args (.bool true) args=true:=
 postW_of (r:=l.row.toRowW) (X:=(true==true))
  (show WShape.has [] (.bool true) .bool=true by first|rfl|decide|simp[WShape.has,WShape.arms,WShape.armsAll])
  (show(WTm.eq .res (.lit (.bool true))).value [] {args:=args,res:=some (.bool true),after:=args}=some (.bool (true==true)) from w_eq_bool (w_res rfl) w_lit) rfl
theorem attach_call{q:ic}{loose:List xa}{XP:(xa->Option Fa)->ke->Prop}{YP:vd->ke->Prop}{d:DefRec}(hn:l.most=some n)(hdf:d.params.defaults= [])(call:∀ (w:vd) (s₀ s₁:Shared) (mg mb:xa->Option Fa) (fa:ca) (o:ki) (pm cd doc:Fa) (a:ca) (vs:List Fa) (ns:List Int),
   Ground q loose [] XP w s₀ mg mb s₁.heap->YP w s₁.heap->
   s₁.heap.get? fa=some o->o.data=.func (docDef d.name d.params d.body d.scope pm cd doc)->s₁.heap.CodeRec cd d.name->mg d.name=some (.ref fa)->
   s₁.heap.get? a=some {cls:=.type "list",data:=.seq vs.toArray}->mr vs ns->ns.length<=n->s₁.gens= #[]->
   im (pb l.prog w) callerA (.call (.ref fa) ⟨[.ref a],[]⟩) (λr s'=>r=.ok (.ret (.bool true))/\OldK s₁.heap s'.heap/\s'.os=s₁.os/\am s'.gens) s₁):
  WalkO q loose XP YP l.row.toRowW d [] (λf vs=>PySem.call f vs):=by
 intro w s₀ s₁ mg mb G Y fa o pm cd doc dV kV ho hd hcd hD hmg hg args vals as hpre hlay hrd hwl hlo;obtain rfl:dV=.none:=Dflts.none hD hdf;obtain rfl:kV=.none:=Dflts.noKw hD;obtain⟨a,vs,ns,rfl,rfl,hobj,hints,hlen⟩:=DJ hn hpre hwl;refine enter_call (gl (call w s₀ s₁ mg mb fa o pm cd doc a vs ns G Y ho (fd_plain hd) hcd hmg hobj hints hlen hg) λr s' hq=>?_);obtain⟨rfl,h2,h3,h4⟩:=hq;exact⟨.inl ⟨.bool true,.bool true,[],rfl,λ_=>rfl,.bool true,YI l _,λ_=>⟨vk.nil,λ_ hm=>(nomatch hm)⟩⟩,h2,h3,h4⟩
section
variable {prog:ic}{w:vd}{A:je}{E:Fa->Shared->Prop}{s:Shared}{K:td}
end
end Att
namespace L2
open PySem PySem.Spec PyProof.Rows
theorem vals_ints:∀ {vs:List Fa} {ns:List Int},mr vs ns->Vals (ns.map V.int) vs
 |_,_,.nil=>.nil
 |_,_,.cons n t h=>.cons ⟨t,rfl⟩ (vals_ints h)
def FY(H:Hp):Prop:=∀ b,H b=none\/∃ o xs,H b=some (.frz o (.lst xs))
variable{k:Nat}{x:xa}
theorem SM{P:ic}{w:vd}{K:td}{mg mb:xa->Option Fa}{CX:EB}{fa a:ca}{fd:wf}{sp:Sp}{s₁:Shared}{vs:List Fa}{ns:List Int}(KX:K.In s₁.heap)(hns:s₁.heap.Ns jb mg)(hb:s₁.heap.Ns builtinsNs mb)(hbb:∀ x:xa,x≠"__name__"->mb x=vf x)(hlim:s₁.heap.NoLimit)(hg:s₁.gens= #[])(ha:s₁.heap.get? a=some {cls:=.type "list",data:=.seq vs.toArray})(hi:mr vs ns)(hl:ns.length<=sizeLine)(hr:Room k callerA)(F:∀ base:ke,K.In base->base.Ns jb mg->FnOk P w K mg base CX k fa fd [x] sp)(hbind:∀ (s:Shared) (u:Fa),xv s fd ⟨[u],[]⟩ [(x,u)])(hsp:∀ H:Hp,FY H->SqL K H a (ns.map V.int)->sp [.ref a] H (λv _=>v=.bl true) λ_ _ _=>False)(hCX:∀ H e s',CX [] H s₁ (λ_ _ _=>False) e s'->False):
  im (pb P w) callerA (.call (.ref fa) ⟨[.ref a],[]⟩) (λr s'=>r=.ok (.ret (.bool true))/\OldK s₁.heap s'.heap/\s'.os=s₁.os/\am s'.gens) s₁:=by
 have rv:=vals_ints hi;have lenV:=hi.length
 have core:∀ H:Hp,FY H->SqL K H a (ns.map V.int)->HOk P w H s₁.heap->(∀ b,H b≠none->b=a)->(H a≠none->K.lookup a=none)->
   im (pb P w) callerA (.call (.ref fa) ⟨[.ref a],[]⟩) (λr s'=>r=.ok (.ret (.bool true))/\OldK s₁.heap s'.heap/\s'.os=s₁.os/\am s'.gens) s₁:=by
  intro H hO hS hok hA hK;have base_of:∀ {b:ca} {o:ki},s₁.heap.get? b=some o->H b=none->(Kw s₁.heap H).get? b=some o:=λe n=>KL e n
  have noA:∀ {b:ca} {o:ki} {es:Array zu} {ep:Nat},s₁.heap.get? b=some o->o.data=.dict es ep->H b=none:=λ{b o es ep} e d=>by
   cases q:H b with
   |none=>rfl
   |some u=>
    have e':b=a:=hA b (by rw[q];simp);subst e';rw[ha]at e;cases e
    have d':Data.seq vs.toArray _=Data.dict es ep:=d;cases d'
  have nsK:∀ {b:ca} {m:xa->Option Fa},s₁.heap.Ns b m->(Kw s₁.heap H).Ns b m:=λ{b m} ⟨o,es,ep,e,d,r⟩=>⟨o,es,ep,base_of e (noA e d),d,r⟩
  have hKb:K.In (Kw s₁.heap H):=λb o e=>base_of (KX b o e) (by
   cases q:H b with
   |none=>rfl
   |some u=>
    have e':b=a:=hA b (by rw[q];simp);subst e'
    rw[hK (by rw[q];simp)]at e;cases e)
  have hM:Mod K mg (Kw s₁.heap H):=⟨hKb,nsK hns,⟨mb,nsK hb,hbb⟩,let ⟨mc,h1,h2⟩:=hlim;⟨mc,nsK h1,h2⟩⟩
  have e0:Env0 P w K mg (Kw s₁.heap H) callerA [] s₁ H:=⟨rfl,hM,λb o e=>IU e,vv (NH _ _),trivial,λb hb=>absurd (show b∈([]:List ca) from hb) (by simp),hok,.of_eq hg⟩
  refine gl ((F _ hKb (nsK hns)).run callerA [] s₁ H ⟨[.ref a],[]⟩ [.ref a] [.ref a] _ _ hr e0 (hbind s₁ (.ref a)) (.cons rfl .nil) (hsp H hO hS)) λr s' h=>?_;cases r with
  |error e=>exact(hCX H e s' h).elim
  |ok fl=>
   cases fl with
   |next=>exact bg h
   |brk=>exact bg h
   |cont=>exact bg h
   |ret u=>
    obtain⟨v,H',os,bare,un,hok',r',q⟩:=h;have q':v=.bl true:=q;subst q';obtain rfl:u=Value.bool true:=r';refine⟨rfl,OldK.of_keep λb o e=>?_,os,bare⟩;cases q:H b with
    |none=>exact un.keep b o e q (by intro z;exact absurd (show b∈([]:List ca) from z) (by simp)) (by simp)
    |some u=>
     rcases hO b with z|⟨ob,xs,z⟩
     .rw[q]at z;cases z
     .have z2:=un.frzs b ob _ z;obtain⟨e1,_⟩:=hok b _ z;obtain⟨e2,_⟩:=hok' b _ z2;rw[e]at e1;cases e1
      exact e2
 cases hk:K.lookup a with
 |some o=>
  have e:=KX a o hk;rw[ha]at e
  cases e;refine core (λ_=>none) (λ_=>.inl rfl) (.inr ⟨_,vs.toArray,_,hk,rfl,rfl,rfl,by rw[jc,lenV];exact hl,by simpa using rv⟩) (λb u z=>by have z':(none:Option HO)=some u:=z;cases z') (λb z=>absurd rfl z) λz=>absurd rfl z
 |none=>
  refine core (λb=>if b=a then some (.frz {cls:=.type "list",data:=.seq vs.toArray} (.lst (ns.map V.int))) else none) (λb=>?_) (.inl (.inr ⟨{cls:=.type "list",data:=.seq vs.toArray},if_pos rfl⟩)) (λb u z=>?_) (λb z=>?_) λ_=>hk
  .by_cases hb:b=a
   .exact .inr ⟨_,_,if_pos hb⟩
   .exact .inl (if_neg hb)
  .by_cases hb:b=a
   .have z':=(if_pos hb).symm.trans z;cases z';subst hb;exact⟨ha,by rw[la];exact hl,vs,_,rv,ha⟩
   .have z':=(if_neg hb).symm.trans z;cases z'
  .by_cases hb:b=a
   .exact hb
   .exact absurd (if_neg hb) z
theorem walk_of{l:PySem.W.OpenLaw}{n:Nat}{q:ic}{loose:List xa}{XP:(xa->Option Fa)->ke->Prop}{YP:vd->ke->Prop}{d:DefRec}{K:Params->td}{CX:vd->EB}{sp:vd->Sp}(hn:l.most=some n)(hn2:n<=sizeLine)(hdf:d.params.defaults= [])(hr:Room k callerA)(hY:∀ (w:vd) (h:ke),YP w h->(K w.params).In h)(F:∀ (w:vd) (mg:xa->Option Fa) (fa:ca) (h:ke),(K w.params).In h->h.Ns jb mg->mg d.name=some (.ref fa)->
   ∃ fd:wf,(∀ (s:Shared) (u:Fa),xv s fd ⟨[u],[]⟩ [(x,u)])/\
    ∀ base:ke,(K w.params).In base->base.Ns jb mg->FnOk l.prog w (K w.params) mg base (CX w) k fa fd [x] (sp w))(hsp:∀ (w:vd) (H:Hp) (a:ca) (ns:List Int),ns.length<=n->FY H->SqL (K w.params) H a (ns.map V.int)->sp w [.ref a] H (λv _=>v=.bl true) λ_ _ _=>False)(hCX:∀ (w:vd) (H:Hp) (s:Shared) (e:Fa) (s':Shared),CX w [] H s (λ_ _ _=>False) e s'->False):
  PySem.W.WalkO q loose XP YP l.row.toRowW d [] (λf vs=>PySem.call f vs):=by
 refine Att.attach_call hn hdf λw s₀ s₁ mg mb fa o pm cd doc a vs ns G Y ho hd hcd hmg hobj hints hlen hg=>?_;have KX:=hY w _ Y;obtain⟨fd,hb,hF⟩:=F w mg fa _ KX G.T.g hmg;exact SM KX G.T.g G.T.b G.T.builtins G.T.nolimit hg hobj hints (uf hlen hn2) hr hF hb (λH hO hS=>hsp w H a ns hlen hO hS) λH e s'=>hCX w H s₁ e s'
end L2
/- THE LAST THEOREM (shape; LID, My.* are yours):
   My.Adr: a structure of the addresses that your layer names (classes, functions); My.Txt K t: a structure (Prop) of the equations over K;
   My.txt_mk : {K} {implicit addresses ..} (e1 : kl K jb "law" = some (some (.ref f))) (e2 : K.lookup f = some ⟨oc, od,.func (fnOf "law" "law" params body scope dV kV doc pm an cdv ct), sl⟩) (e3 : rh K cdv "law" = true) .. : ∃ t, My.Txt K t
(the tactic k_is has no namespace: write k_is) -/
namespace L2
open PySem PySem.Spec PyProof.Rows
def VS(s:sf)(j:Nat):sf:=match s with
 | .ClassDef _ _ _ body _ _ _ _ _ _ _=>body.getD j (.Pass ⟨0,0,0,0⟩)
 |_=>.Pass ⟨0,0,0,0⟩
def Hi(s:sf):Arguments:=match s with
 | .FunctionDef _ a _ _ _ _ _ _ _ _=>a
 |_=> {posonlyargs:= [],args:= [],vararg:=none,kwonlyargs:= [],kw_defaults:= [],kwarg:=none,defaults:= []}
def Ad(s:sf):List sf:=match s with
 | .FunctionDef _ _ b _ _ _ _ _ _ _=>b
 |_=> []
def Pa(s:sf):xr:=match s with
 | .FunctionDef _ _ _ _ _ _ sc _ _ _=>sc
 |_=> {kind:=.function,names:= [],isGenerator:=false,isCoroutine:=false}
abbrev Oo:EB:=λ_ _ _ _ _ _=>False
abbrev E0:XK:=λ_ _ _=>False
variable{X:Cx}
theorem HA:Hr Oo X E0:=λ_ _ _ _ _ _ _ h=>h.elim
structure Fun(K:td)(x qual:xa)(st:sf)(f:ca)(fd:wf):Prop where
 ex:∃ (oc:Fa) (od:Option ca) (kV doc pm:Fa) (an:Option ca) (cdv ct:Fa) (osl:Array (Option Fa)),
  fd=fnOf x qual (Hi st) (Ad st) (Pa st) .none kV doc pm an cdv ct/\K.lookup f=some ⟨oc,od,.func fd,osl⟩/\rh K cdv qual=true
 kp:mf K (.ref f)=true
variable{x qual:xa}{st:sf}{f:ca}{fd:wf}{ps:List xa}
section
variable {P:ic}{w:vd}{K:td}{mg:xa->Option Fa}{base:ke}
theorem Fun.ok{N:List xa}{k:Nat}{sp:Sp}(F:Fun K x qual st f fd)(S:FnScope N ps (Pa st))(len:∀ vs H Q E,sp vs H Q E->vs.length=ps.length)(hbody:∀ (cdv:Fa) (A:je) (outer:List tu) (s:Shared) (H:Hp) (vs:List V) (Q:VK) (E:XK),Room k (A.deeper (wn qual (Pa st) s.heap.objs.size f cdv))->sp vs H Q E->
   ∃ t,PSs (Qo Oo P w K mg base N qual (Pa st) f cdv A outer s H E).nox (Ad st) t/\t {nx:=λ_ H'=>Q .non H',rt:=Q} (start N vs) H):FnOk P w K mg base Oo (k+1) f fd ps sp:=by
 obtain⟨oc,od,kV,doc,pm,an,cdv,ct,osl,rfl,lk,hcd⟩:=F.ex;refine Y5 lk hcd S len λA outer s H vs Q E hr hsp=>?_;obtain⟨t,h,q⟩:=hbody cdv A outer s H vs Q E hr hsp;exact⟨t,h.nox,q⟩
theorem Fun.binds(F:Fun K x qual st f fd)(h:∀ (kV doc pm:Fa) (an:Option ca) (cdv ct:Fa) (us:List Fa),us.length=ps.length->bindArgs (fnOf x qual (Hi st) (Ad st) (Pa st) .none kV doc pm an cdv ct) ⟨us,[]⟩=pure (ps.zip us)):Binds K fd ps []:=by
 obtain⟨oc,od,kV,doc,pm,an,cdv,ct,osl,rfl,lk,hcd⟩:=F.ex;exact .all (h kV doc pm an cdv ct)
theorem Dc{oc:Fa}{od an:Option ca}{osl:Array (Option Fa)}{kV doc pm cdv ct:Fa}(l:K.lookup f=some ⟨oc,od,.func (fnOf x qual (Hi st) (Ad st) (Pa st) .none kV doc pm an cdv ct),osl⟩)(c:rh K cdv qual=true)(k:mf K (.ref f)=true):Fun K x qual st f (fnOf x qual (Hi st) (Ad st) (Pa st) .none kV doc pm an cdv ct):=⟨⟨oc,od,kV,doc,pm,an,cdv,ct,osl,rfl,l,c⟩,k⟩
end
theorem pv(i:Nat){pos:vg}(hN:X.N[i]? =some x:=by rfl)(hv:Wx X.env.scope x:=by first|exact Or.inl rfl|exact Or.inr (Or.inl rfl)|exact Or.inr (Or.inr rfl))(hd:(x==("__debug__":xa))=false:=by decide)(hcd:(x==("__classdict__":xa))=false:=by decide):PE X (.Name x pos) (U7 i):=Bi hN hv hd hcd
def Same(H H':Hp):Prop:=∀ b o,H b=some o->H' b=some o
theorem Same.refl(H:Hp):Same H H:=λ_ _ h=>h
variable{H:Hp}
theorem Same.trans{H1 H2:Hp}(a:Same H H1)(b:Same H1 H2):Same H H2:=λc o h=>b c o (a c o h)
theorem Same.free{H':Hp}(e:Same H H'){l:ca}(h:H' l=Option.none):H l=Option.none:=by
 cases q:H l with
 |none=>rfl
 |some o=>
  rw[e l o q]at h
  cases h
end L2
set_option maxHeartbeats 4000000
namespace L3
open PySem
def E4:List (ca×vg×xa):= []
open PySem.Spec PyProof.Rows L2
inductive D where
 |non|bl (b:Bool)|int (i:Int)|str (x:xa)|tup (ds:List D)|lst (ds:List D)|dct (ks:List Hb) (ds:List D)|exc (c:xa) (ds:List D)|obj (c:xa) (ks:List xa) (ds:List D)
inductive Res(α:Type) where
 |ok (a:α)|ex (c:xa) (fs:List D)|stuck
variable{α β:Type}
def Res.bind(r:Res α)(k:α->Res β):Res β:=match r with
 | .ok a=>k a
 | .ex c fs=>.ex c fs
 | .stuck=>.stuck
theorem Res.bind_ok(a:α)(k:α->Res β):(Res.ok a).bind k=k a:=rfl
theorem Res.bind_ex(c:xa)(fs:List D)(k:α->Res β):(Res.ex c fs).bind k=.ex c fs:=rfl
theorem Res.bind_stuck(k:α->Res β):(Res.stuck:Res α).bind k=.stuck:=rfl
inductive Ch where
 |d (x:D)|l (ds:List D)|q (ks:List Hb) (ds:List D)
inductive Tp where
 |lst|dct (ks:List Hb)|ins (c:xa) (ks:List xa)|tup
inductive S where
 |d (x:D)|o (ds:List D)|q (ks:List Hb) (ds:List D)|w (dss:List (List D))|k (t:Tp) (cs:List Ch)|m (l:List (Option Hb×Int))
def LQ:Tp->Prop
 | .tup=>False
 |_=>True
def EY:Ch->Prop
 | .d _=>False
 |_=>True
def ML:HO->List V
 | .lst xs=>xs
 | .tup xs=>xs
 | .dK kvs=>kvs.map (·.2)
 | .ins _ _ fs=>fs.map (·.2)
 |_=> []
def TpOk(K:td):Tp->HO->Prop
 | .lst,.lst _=>True
 | .tup,.tup _=>True
 | .dct ks,.dK kvs=>kvs.map (·.1)=ks
 | .ins c ks,.ins C _ fs=>kl K jb c=some (some (.ref C))/\fs.map (·.1)=ks
 |_,_=>False
def Ow:S->Prop
 | .d _=>False
 | .k t _=>LQ t
 |_=>True
def Hn:HO->Prop
 | .lst _=>True
 | .dN _=>True
 | .dK _=>True
 | .ins _ _ _=>True
 |_=>False
abbrev Ca:=List (Option S)
abbrev Dx:=Option ca×Bool
def ExcAt(a:ca)(C:Fa)(dx:Dx):ke->Prop:=λh=>∃ o vs,h.get? a=some o/\o.cls=C/\o.dict=dx.1/\o.data=.fields vs/\(dx.2=true->vs[2]? =some .none)
def D7:D->Option V
 | .non=>some .non
 | .bl b=>some (.bl b)
 | .int i=>some (.int i)
 | .str x=>some (.str x)
 |_=>none
def ExV(H:Hp)(x:D)(v:V):Prop:=D7 x=some v\/∃ ds a o xs,x=.lst ds/\v=.ref a/\H a=some (.frz o (.lst xs))/\ds.map D7=xs.map some
def ExVs(H:Hp):List D->List V->Prop
 | [],[]=>True
 |x::ds,v::vs=>ExV H x v/\ExVs H ds vs
 |_,_=>False
def ExD(H:Hp)(dx:Option ca)(ns vs:List D):Prop:=∃ d kvs,dx=some d/\H d=some (.xd kvs)/\ns=kvs.map (λp=>D.str p.1)/\ExVs H vs (kvs.map (·.2))
def ExF0(H:Hp)(dx:Dx):List D->Prop
 | []=>True
 | .tup ns::vs=>ExD H dx.1 ns vs
 |_=>False
def ExF(H:Hp)(dx:Dx):List D->Prop
 | .non::fs=>ExF0 H dx fs
 |fs=>dx.2=true/\ExF0 H dx fs
variable{H H':Hp}
theorem ExVs.to(k:∀ b o u,H b=some (.frz o u)->H' b=some (.frz o u)):∀ {ds:List D} {vs:List V},ExVs H ds vs->ExVs H' ds vs
 | [],[],h=>h
 |_::_,_::_,⟨h,t⟩=>⟨by
   rcases h with h|⟨ds,a,o,xs,e1,e2,e3,e4⟩
   .exact .inl h
   .exact .inr ⟨ds,a,o,xs,e1,e2,k _ _ _ e3,e4⟩,t.to k⟩
 | [],_::_,h=>h.elim
 |_::_,[],h=>h.elim
theorem ExD.to{dx:Option ca}{ns vs:List D}(k:∀ b o u,H b=some (.frz o u)->H' b=some (.frz o u))(k2:∀ b kvs,H b=some (.xd kvs)->H' b=some (.xd kvs))(h:ExD H dx ns vs):ExD H' dx ns vs:=
 let ⟨d,kvs,e1,e2,e3,e4⟩:=h
 ⟨d,kvs,e1,k2 _ _ e2,e3,e4.to k⟩
variable{dx:Dx}
theorem ExF0.to(k:∀ b o u,H b=some (.frz o u)->H' b=some (.frz o u))(k2:∀ b kvs,H b=some (.xd kvs)->H' b=some (.xd kvs)){fs:List D}(h:ExF0 H dx fs):ExF0 H' dx fs:=by
 cases fs with
 |nil=>trivial
 |cons y vs=>
  cases y with
  |tup ns=>exact ExD.to k k2 h
  |_=>exact h.elim
theorem ExF.to(k:∀ b o u,H b=some (.frz o u)->H' b=some (.frz o u))(k2:∀ b kvs,H b=some (.xd kvs)->H' b=some (.xd kvs)){fs:List D}(h:ExF H dx fs):ExF H' dx fs:=by
 cases fs with
 |nil=>exact h
 |cons y vs=>
  cases y with
  |non=>exact ExF0.to (fs:=vs) k k2 h
  |tup ns=>exact⟨h.1,ExF0.to (fs:=.tup ns::vs) k k2 h.2⟩
  |_=>exact h.2.elim
abbrev WS:=ca->Prop
section
variable (K:td)(W:WS)(H:Hp)
def LR(a:ca)(xs:List V):Prop:=(H a=some (.lst xs)/\¬ W a)\/((∃ o,H a=some (.frz o (.lst xs)))\/∃ (o:ki) (its:Array Fa) (n:Nat),K.lookup a=some o/\o.cls=.type "list"/\o.dict=none/\o.data=.seq its n/\its.size<=sizeLine/\Vals xs its.toList)
mutual
def Has:D->V->Prop
 | .non,v=>v=.non
 | .bl b,v=>v=.bl b
 | .int i,v=>v=.int i
 | .str x,v=>v=.str x
 | .tup ds,v=>∃ a xs,v=.ref a/\SqT K H a xs/\HasL ds xs
 | .lst ds,v=>∃ a xs,v=.ref a/\LR K W H a xs/\HasL ds xs
 | .dct ks ds,v=>∃ a kvs,v=.ref a/\(∃ o,H a=some (.frz o (.dK kvs)))/\kvs.map (·.1)=ks/\HasL ds (kvs.map (·.2))
 | .exc c fs,v=>∃ a C dx,v=.ref a/\kl K jb c=some (some C)/\H a=some (.ext (ExcAt a C dx))/\ExF H dx fs
 | .obj c ks ds,v=>∃ a C dx fs,v=.ref a/\kl K jb c=some (some (.ref C))/\H a=some (.ins C dx fs)/\¬ W a/\fs.map (·.1)=ks/\HasL ds (fs.map (·.2))
def HasL:List D->List V->Prop
 | [],xs=>xs= []
 |d::ds,xs=>∃ x r,xs=x::r/\Has d x/\HasL ds r
end
end
variable{K:td}{W:WS}{a:ca}{xs:List V}
theorem LR.sq(h:LR K W H a xs):SqL K H a xs:=by
 rcases h with⟨h,_⟩|⟨o,h⟩|h
 .exact .inl (.inl h)
 .exact .inl (.inr ⟨o,h⟩)
 .exact .inr h
def Pg(W:WS)(H H':Hp):Prop:=∀ b o,H b=some o->¬ W b->H' b=some o
structure WL(W:WS)(H:Hp):Prop where
 own:∀ b,W b->∃ o,H b=some o/\Hn o
 tab:∀ q∈E4,H q.1=some (.tab q.2.1 q.2.2)
instance {W:WS}{H:Hp}:CoeFun (WL W H) (λ_=>∀ b,W b->∃ o,H b=some o/\Hn o):=⟨WL.own⟩
theorem Same.keep(h:Same H H'):Pg W H H':=λb o e _=>h b o e
theorem Pt(k:Pg W H H')(w:WL W H)(h:SqT K H a xs):SqT K H' a xs:=by
 have nw:∀ o,H a=some o->¬ Hn o->¬ W a:=λo e n z=>by
  obtain⟨o',e',m⟩:=w a z;rw[e]at e'
  cases e';exact n m
 rcases h with(h|⟨o,h⟩)|h
 .exact .inl (.inl (k _ _ h (nw _ h λz=>z)))
 .exact .inl (.inr ⟨o,k _ _ h (nw _ h λz=>z)⟩)
 .exact .inr h
variable{W':WS}
theorem LR.keep(k:Pg W H H')(w:WL W H)(hw:∀ b,W' b->W b\/H b=none)(h:LR K W H a xs):LR K W' H' a xs:=by
 rcases h with⟨h,n⟩|⟨o,h⟩|h
 .refine .inl ⟨k _ _ h n,λz=>?_⟩;rcases hw a z with z|z
  .exact n z
  .rw[h]at z;cases z
 .refine .inr (.inl ⟨o,k _ _ h λz=>?_⟩);obtain⟨o',e',m⟩:=w a z;rw[h]at e';cases e';exact m
 .exact .inr (.inr h)
section
variable {K:td}{W W':WS}{H H':Hp}
mutual
theorem Has.keep(k:Pg W H H')(w:WL W H)(hw:∀ b,W' b->W b\/H b=none):∀ {d:D} {v:V},Has K W H d v->Has K W' H' d v
 | .non,_,h=>by rw[Has]at h ⊢;exact h
 | .bl _,_,h=>by rw[Has]at h ⊢;exact h
 | .int _,_,h=>by rw[Has]at h ⊢;exact h
 | .str _,_,h=>by rw[Has]at h ⊢;exact h
 | .tup ds,_,h=>by
  rw[Has]at h ⊢
  obtain⟨a,xs,e,q,r⟩:=h;exact⟨a,xs,e,Pt k w q,HasL.keep k w hw r⟩
 | .lst ds,_,h=>by
  rw[Has]at h ⊢
  obtain⟨a,xs,e,q,r⟩:=h;exact⟨a,xs,e,q.keep k w hw,HasL.keep k w hw r⟩
 | .dct ks ds,_,h=>by
  rw[Has]at h ⊢
  obtain⟨a,kvs,e,⟨o,q⟩,m,r⟩:=h;refine⟨a,kvs,e,⟨o,k _ _ q λz=>?_⟩,m,HasL.keep k w hw r⟩;obtain⟨o',e',m'⟩:=w a z;rw[q]at e';cases e';exact m'
 | .exc _ _,_,h=>by
  rw[Has]at h ⊢
  obtain⟨a,C,dx,e,n,q,f⟩:=h
  have nw:∀ b o,H b=some o->¬ Hn o->¬ W b:=λb o q n z=>by
   obtain⟨o',e',m'⟩:=w b z;rw[q]at e';cases e';exact n m'
  exact⟨a,C,dx,e,n,k _ _ q (nw _ _ q λz=>z),f.to (λb o u q=>k _ _ q (nw _ _ q λz=>z)) λb kvs q=>k _ _ q (nw _ _ q λz=>z)⟩
 | .obj _ _ ds,_,h=>by
  rw[Has]at h ⊢
  obtain⟨a,C,dx,fs,e,n,q,nw,m,r⟩:=h;refine⟨a,C,dx,fs,e,n,k _ _ q nw,λz=>?_,m,HasL.keep k w hw r⟩;rcases hw a z with z|z
  .exact nw z
  .rw[q]at z;cases z
theorem HasL.keep(k:Pg W H H')(w:WL W H)(hw:∀ b,W' b->W b\/H b=none):∀ {ds:List D} {xs:List V},HasL K W H ds xs->HasL K W' H' ds xs
 | [],_,h=>by rw[HasL]at h ⊢;exact h
 |d::ds,_,h=>by
  rw[HasL]at h ⊢
  obtain⟨x,r,e,q,t⟩:=h;exact⟨x,r,e,Has.keep k w hw q,HasL.keep k w hw t⟩
end
theorem Has.same{d:D}{v:V}(h:Has K W H d v)(k:Same H H')(w:WL W H):Has K W H' d v:=Has.keep (Same.keep k) w (λ_ z=>.inl z) h
theorem HasL.same{d:List D}{v:List V}(h:HasL K W H d v)(k:Same H H')(w:WL W H):HasL K W H' d v:=HasL.keep (Same.keep k) w (λ_ z=>.inl z) h
theorem HasL.length:∀ {ds:List D} {xs:List V},HasL K W H ds xs->ds.length=xs.length
 | [],_,h=>by rw[HasL]at h;rw[h];rfl
 |d::ds,_,h=>by
  rw[HasL]at h
  obtain⟨x,r,e,q,t⟩:=h;rw[e,ba,ba,HasL.length t]
theorem HasL.get:∀ {ds:List D} {xs:List V} {i:Nat} {d:D},HasL K W H ds xs->ds[i]? =some d->∃ x,xs[i]? =some x/\Has K W H d x
 | [],_,_,_,_,e=>by simp at e
 |d::ds,_,0,_,h,e=>by
  rw[HasL]at h
  obtain⟨x,r,rfl,q,t⟩:=h;simp at e;subst e;exact⟨x,rfl,q⟩
 |d::ds,_,i+1,_,h,e=>by
  rw[HasL]at h
  obtain⟨x,r,rfl,q,t⟩:=h;obtain⟨y,h1,h2⟩:=HasL.get (i:=i) t (by simpa using e);exact⟨y,by simpa using h1,h2⟩
theorem HasL.nil:HasL K W H [] []:=by rw[HasL]
theorem HasL.cons{d:D}{ds:List D}{x:V}{xs:List V}(h:Has K W H d x)(t:HasL K W H ds xs):HasL K W H (d::ds) (x::xs):=by rw[HasL];exact⟨x,xs,rfl,h,t⟩
theorem HasL.append:∀ {ds es:List D} {xs ys:List V},HasL K W H ds xs->HasL K W H es ys->HasL K W H (ds++es) (xs++ys)
 | [],_,_,_,h,t=>by rw[HasL]at h;subst h;exact t
 |d::ds,_,_,_,h,t=>by
  rw[HasL]at h
  obtain⟨x,r,rfl,q,s⟩:=h;exact HasL.cons q (HasL.append s t)
theorem HasL.take:∀ {ds:List D} {xs:List V} (n:Nat),HasL K W H ds xs->HasL K W H (ds.take n) (xs.take n)
 | [],_,n,h=>by rw[HasL]at h;subst h;simp[HasL]
 |d::ds,_,0,h=>by simp[HasL]
 |d::ds,_,n+1,h=>by
  rw[HasL]at h
  obtain⟨x,r,rfl,q,s⟩:=h;exact HasL.cons q (HasL.take n s)
theorem HasL.drop:∀ {ds:List D} {xs:List V} (n:Nat),HasL K W H ds xs->HasL K W H (ds.drop n) (xs.drop n)
 | [],_,n,h=>by rw[HasL]at h;subst h;simp[HasL]
 |d::ds,_,0,h=>h
 |d::ds,_,n+1,h=>by
  rw[HasL]at h
  obtain⟨x,r,rfl,q,s⟩:=h;exact HasL.drop n s
theorem HasL.snoc{ds:List D}{xs:List V}{d:D}{x:V}(h:HasL K W H ds xs)(t:Has K W H d x):HasL K W H (ds++ [d]) (xs++ [x]):=h.append (HasL.cons t HasL.nil)
theorem HasL.set:∀ {ds:List D} {xs:List V} (i:Nat) {d:D} {x:V},HasL K W H ds xs->Has K W H d x->HasL K W H (ds.set i d) (xs.set i x)
 | [],_,n,_,_,h,_=>by rw[HasL]at h;subst h;simp[HasL]
 |e::ds,_,0,_,_,h,t=>by
  rw[HasL]at h
  obtain⟨y,r,rfl,q,s⟩:=h;exact HasL.cons t s
 |e::ds,_,i+1,_,_,h,t=>by
  rw[HasL]at h
  obtain⟨y,r,rfl,q,s⟩:=h;exact HasL.cons q (HasL.set i s t)
theorem HasL.ints{ns:List Int}:HasL K W H (ns.map D.int) (ns.map V.int):=by
 induction ns with
 |nil=>exact HasL.nil
 |cons n ns ih=>exact HasL.cons (by rw[Has]) ih
end
def ChHas(K:td)(H₀:Hp)(W:WS)(H:Hp):Ch->V->Prop
 | .d x,v=>Has K W H x v
 | .l ds,v=>∃ b xs,v=.ref b/\W b/\H₀ b=none/\H b=some (.lst xs)/\HasL K W H ds xs
 | .q ks ds,v=>∃ b kvs,v=.ref b/\W b/\H₀ b=none/\H b=some (.dK kvs)/\kvs.map (·.1)=ks/\HasL K W H ds (kvs.map (·.2))
def Z8(a:ca)(cs:List Ch)(vs:List V):Prop:=∀ (i:Nat) (c:Ch) (b:ca),cs[i]? =some c->EY c->vs[i]? =some (.ref b)->b≠a/\∀ (j:Nat) (c':Ch),j≠i->cs[j]? =some c'->EY c'->vs[j]? ≠some (.ref b)
structure FrOk(W₀:WS)(H₀:Hp)(W:WS)(H:Hp):Prop where
 ext:Same H₀ H
 sub:∀ b,W₀ b->W b
 wl:WL W H
 wl0:WL W₀ H₀
def SlotHas(K:td)(W₀:WS)(H₀:Hp)(W:WS)(H:Hp):S->V->Prop
 | .d x,v=>Has K W H x v
 | .o ds,v=>∃ a xs,v=.ref a/\W a/\H₀ a=none/\H a=some (.lst xs)/\HasL K W H ds xs
 | .q ks ds,v=>∃ a kvs,v=.ref a/\W a/\H₀ a=none/\H a=some (.dK kvs)/\kvs.map (·.1)=ks/\HasL K W H ds (kvs.map (·.2))
 | .w dss,v=>∃ (a:ca) (bs:List ca),v=.ref a/\W a/\H₀ a=none/\H a=some (.lst (bs.map V.ref))/\bs.Nodup/\a∉bs/\bs.length=dss.length/\∀ (k:Nat) (b:ca) (ds:List D),bs[k]? =some b->dss[k]? =some ds->W b/\H₀ b=none/\∃ xs,H b=some (.lst xs)/\HasL K W H ds xs
 | .m l,v=>∃ a,v=.ref a/\W a/\H₀ a=none/\H a=some (.dN l)
 | .k t cs,v=>∃ (a:ca) (ob:HO),v=.ref a/\H a=some ob/\TpOk K t ob/\(LQ t->W a/\H₀ a=none)/\cs.length=(ML ob).length/\Z8 a cs (ML ob)/\∀ (j:Nat) (c:Ch) (x:V),cs[j]? =some c->(ML ob)[j]? =some x->ChHas K H₀ W H c x
def Owns(H:Hp):S->V->ca->Prop
 | .d _,_,_=>False
 | .w _,v,b=>v=.ref b\/∃ (a:ca) (bs:List ca),v=.ref a/\H a=some (.lst (bs.map V.ref))/\b∈bs
 | .k t cs,v,b=>(LQ t/\v=.ref b)\/∃ (a:ca) (ob:HO) (j:Nat) (c:Ch),v=.ref a/\H a=some ob/\cs[j]? =some c/\EY c/\(ML ob)[j]? =some (.ref b)
 |_,v,b=>v=.ref b
structure StHas(K:td)(W₀:WS)(H₀:Hp)(W:WS)(H:Hp)(σ:L2.St)(δ:Ca):Prop where
 fr:FrOk W₀ H₀ W H
 len:σ.length=δ.length
 at':∀ (i:Nat) (s:S),δ[i]? =some (some s)->∃ v,σ[i]? =some (some v)/\SlotHas K W₀ H₀ W H s v
 ap:∀ (i j:Nat) (s t:S) (u v:V) (b:ca),i≠j->δ[i]? =some (some s)->δ[j]? =some (some t)->σ[i]? =some (some u)->σ[j]? =some (some v)->Owns H s u b->¬ Owns H t v b
variable{W₀:WS}{H₀:Hp}{σ:L2.St}{δ:Ca}{ob:HO}{v:V}{s sl so:S}{b:ca}{i:Nat}{x:D}{ds es:List D}{ys:List V}
theorem WL.same(w:WL W H)(k:Same H H'):WL W H':=⟨λb z=>let ⟨xs,e,m⟩:=w b z;⟨xs,k _ _ e,m⟩,λq hq=>k _ _ (w.tab q hq)⟩
theorem WL.noW(w:WL W H)(hW:W a){q:ca×vg×xa}(hq:q∈E4):q.1≠a:=λz=>by
 obtain⟨o,e,m⟩:=w a hW;rw[<-z,w.tab q hq]at e;cases e;exact m
theorem FrOk.same(f:FrOk W₀ H₀ W H)(k:Same H H'):FrOk W₀ H₀ W H':=⟨f.ext.trans k,f.sub,f.wl.same k,f.wl0⟩
theorem TpOk.mut{t:Tp}(h:TpOk K t ob)(m:LQ t):Hn ob:=by
 cases t<;>cases ob<;>first|exact h.elim|exact m.elim|trivial
theorem TpOk.tup{t:Tp}(h:TpOk K t ob)(m:¬ LQ t):∃ xs,ob=.tup xs:=by
 cases t<;>cases ob<;>first|exact h.elim|exact(m trivial).elim|exact⟨_,rfl⟩
theorem ChHas.same{c:Ch}(w:WL W H)(k:Same H H')(h:ChHas K H₀ W H c v):ChHas K H₀ W H' c v:=by
 cases c with
 |d x=>exact Has.same h k w
 |l ds=>
  obtain⟨a,xs,e,h1,h2,h3,h4⟩:=h;exact⟨a,xs,e,h1,h2,k _ _ h3,h4.same k w⟩
 |q ks ds=>
  obtain⟨a,xs,e,h1,h2,h3,h4,h5⟩:=h;exact⟨a,xs,e,h1,h2,k _ _ h3,h4,h5.same k w⟩
theorem SlotHas.same(w:WL W H)(k:Same H H')(h:SlotHas K W₀ H₀ W H s v):SlotHas K W₀ H₀ W H' s v:=by
 cases s with
 |d x=>exact Has.same h k w
 |o ds=>
  obtain⟨a,xs,e,h1,h2,h3,h4⟩:=h;exact⟨a,xs,e,h1,h2,k _ _ h3,h4.same k w⟩
 |q ks ds=>
  obtain⟨a,xs,e,h1,h2,h3,h4,h5⟩:=h;exact⟨a,xs,e,h1,h2,k _ _ h3,h4,h5.same k w⟩
 |w dss=>
  obtain⟨a,bs,e,h1,h2,h3,h4,h5,h6,h7⟩:=h;exact⟨a,bs,e,h1,h2,k _ _ h3,h4,h5,h6,λj b ds e1 e2=>let ⟨g1,g2,xs,g3,g4⟩:=h7 j b ds e1 e2;⟨g1,g2,xs,k _ _ g3,g4.same k w⟩⟩
 |m l=>
  obtain⟨a,e,h1,h2,h3⟩:=h;exact⟨a,e,h1,h2,k _ _ h3⟩
 |k t cs=>
  obtain⟨a,ob,e,h1,h2,h3,h4,h5,h6⟩:=h;exact⟨a,ob,e,k _ _ h1,h2,h3,h4,h5,λj c x e1 e2=>(h6 j c x e1 e2).same w k⟩
theorem Jt:∀ {bs cs:List ca},bs.map V.ref=cs.map V.ref->bs=cs
 | [],[],_=>rfl
 | [],_::_,h=>by cases h
 |_::_,[],h=>by cases h
 |b::bs,c::cs,h=>by
  rw[ac,ac]at h
  injection h with h1 h2
  injection h1 with h1
  rw[h1,Jt h2]
theorem Owns.back(h:SlotHas K W₀ H₀ W H s v)(k:∀ a o,v=.ref a->H a=some o->(Owns H s v a/\Hn o)\/(∃ xs,o=.tup xs)->H' a=some o)(o:Owns H' s v b):Owns H s v b:=by
 cases s with
 |d x=>exact o
 |o ds=>exact o
 |q ks ds=>exact o
 |m l=>exact o
 |w dss=>
  rcases o with o|⟨a,bs,e,hb,m⟩
  .exact .inl o
  .obtain⟨a',bs',e',_,_,h3,_⟩:=h;rw[e]at e';cases e'
   have:=k a _ e h3 (.inl ⟨.inl e,trivial⟩);rw[hb]at this
   injection this with this
   injection this with this
   rw[Jt this]at m
   exact .inr ⟨a,bs',e,h3,m⟩
 |k t cs=>
  rcases o with o|⟨a,ob,j,c,e,hb,hc,co,hj⟩
  .exact .inl o
  .obtain⟨a',ob',e',h1,h2,_⟩:=h;rw[e]at e';cases e'
   have:=k a ob' e h1 (by
    by_cases m:LQ t
    .exact .inl ⟨.inl ⟨m,e⟩,h2.mut m⟩
    .exact .inr (h2.tup m))
   rw[hb]at this;cases this
   exact .inr ⟨a,ob,j,c,e,h1,hc,co,hj⟩
theorem owo(ds:List D):Ow (.o ds):=trivial
theorem owq(ks:List Hb)(ds:List D):Ow (.q ks ds):=trivial
theorem SlotHas.mv(w:WL W H)(kk:Pg W H H')(hw:∀ b,W' b->W b\/H b=none)(hq:∀ b o,Owns H s v b->W b->H₀ b=none->H b=some o->Hn o->W' b/\H' b=some o)(h:SlotHas K W₀ H₀ W H s v):SlotHas K W₀ H₀ W' H' s v:=by
 cases s with
 |d x=>exact Has.keep kk w hw h
 |o ds=>
  obtain⟨a,xs,e,h1,h2,h3,h4⟩:=h;obtain⟨g1,g2⟩:=hq a _ e h1 h2 h3 trivial;exact⟨a,xs,e,g1,h2,g2,HasL.keep kk w hw h4⟩
 |q ks ds=>
  obtain⟨a,xs,e,h1,h2,h3,h4,h5⟩:=h;obtain⟨g1,g2⟩:=hq a _ e h1 h2 h3 trivial;exact⟨a,xs,e,g1,h2,g2,h4,HasL.keep kk w hw h5⟩
 |w dss=>
  obtain⟨a,bs,e,h1,h2,h3,h4,h5,h6,h7⟩:=h;obtain⟨g1,g2⟩:=hq a _ (.inl e) h1 h2 h3 trivial;refine⟨a,bs,e,g1,h2,g2,h4,h5,h6,λj b ds e1 e2=>?_⟩;obtain⟨f1,f2,xs,f3,f4⟩:=h7 j b ds e1 e2;obtain⟨g3,g4⟩:=hq b _ (.inr ⟨a,bs,e,h3,qe e1⟩) f1 f2 f3 trivial;exact⟨g3,f2,xs,g4,HasL.keep kk w hw f4⟩
 |m l=>
  obtain⟨a,e,h1,h2,h3⟩:=h;obtain⟨g1,g2⟩:=hq a _ e h1 h2 h3 trivial;exact⟨a,e,g1,h2,g2⟩
 |k t cs=>
  obtain⟨a,ob,e,h1,h2,h3,h4,h5,h6⟩:=h
  have top:H' a=some ob/\(LQ t->W' a/\H₀ a=none):=by
   by_cases m:LQ t
   .obtain⟨g1,g2⟩:=hq a ob (.inl ⟨m,e⟩) (h3 m).1 (h3 m).2 h1 (h2.mut m);exact⟨g2,λ_=>⟨g1,(h3 m).2⟩⟩
   .refine⟨kk _ _ h1 λz=>?_,λz=>(m z).elim⟩;obtain⟨xs,rfl⟩:=h2.tup m;obtain⟨o',e',mo⟩:=w a z;rw[h1]at e';cases e';exact mo
  refine⟨a,ob,e,top.1,h2,top.2,h4,h5,λj c x e1 e2=>?_⟩;have hc:=h6 j c x e1 e2;cases c with
  |d y=>exact Has.keep kk w hw hc
  |l ds=>
   obtain⟨b,xs,rfl,f1,f2,f3,f4⟩:=hc;obtain⟨g1,g2⟩:=hq b _ (.inr ⟨a,ob,j,_,e,h1,e1,trivial,e2⟩) f1 f2 f3 trivial;exact⟨b,xs,rfl,g1,f2,g2,HasL.keep kk w hw f4⟩
  |q ks ds=>
   obtain⟨b,xs,rfl,f1,f2,f3,f4,f5⟩:=hc;obtain⟨g1,g2⟩:=hq b _ (.inr ⟨a,ob,j,_,e,h1,e1,trivial,e2⟩) f1 f2 f3 trivial;exact⟨b,xs,rfl,g1,f2,g2,f4,HasL.keep kk w hw f5⟩
theorem SlotHas.own(h:SlotHas K W₀ H₀ W H s v)(o:Ow s):∃ a ob,v=.ref a/\W a/\H₀ a=none/\H a=some ob/\Hn ob:=by
 cases s with
 |d x=>exact o.elim
 |o ds=>
  obtain⟨a,xs,e,h1,h2,h3,h4⟩:=h;exact⟨a,_,e,h1,h2,h3,trivial⟩
 |q ks ds=>
  obtain⟨a,xs,e,h1,h2,h3,h4,h5⟩:=h;exact⟨a,_,e,h1,h2,h3,trivial⟩
 |w dss=>
  obtain⟨a,bs,e,h1,h2,h3,_⟩:=h;exact⟨a,_,e,h1,h2,h3,trivial⟩
 |m l=>
  obtain⟨a,e,h1,h2,h3⟩:=h;exact⟨a,_,e,h1,h2,h3,trivial⟩
 |k t cs=>
  obtain⟨a,ob,e,h1,h2,h3,_⟩:=h;exact⟨a,ob,e,(h3 o).1,(h3 o).2,h1,h2.mut o⟩
theorem SlotHas.owns(h:SlotHas K W₀ H₀ W H s v)(o:Owns H s v b):W b/\H₀ b=none/\∃ ob,H b=some ob/\Hn ob:=by
 cases s with
 |d x=>exact o.elim
 |o ds=>
  obtain⟨a,xs,e,h1,h2,h3,h4⟩:=h;have o':v=.ref b:=o;rw[e]at o';cases o'
  exact⟨h1,h2,_,h3,trivial⟩
 |q ks ds=>
  obtain⟨a,xs,e,h1,h2,h3,h4⟩:=h;have o':v=.ref b:=o;rw[e]at o';cases o'
  exact⟨h1,h2,_,h3,trivial⟩
 |w dss=>
  obtain⟨a,bs,e,h1,h2,h3,h4,h5,h6,h7⟩:=h;rcases o with o|⟨a',bs',e',hb,m⟩
  .rw[e]at o;cases o
   exact⟨h1,h2,_,h3,trivial⟩
  .rw[e]at e';cases e'
   rw[h3]at hb
   injection hb with hb
   injection hb with hb
   rw[<-Jt hb]at m
   obtain⟨k,hk⟩:=bq.mp m;have hl:k<dss.length:=by rw[<-h6];exact(ya.mp hk).1
   obtain⟨f1,f2,xs,f3,f4⟩:=h7 k b _ hk (oa hl);exact⟨f1,f2,_,f3,trivial⟩
 |m l=>
  obtain⟨a,e,h1,h2,h3⟩:=h;have o':v=.ref b:=o;rw[e]at o';cases o'
  exact⟨h1,h2,_,h3,trivial⟩
 |k t cs=>
  obtain⟨a,ob,e,h1,h2,h3,h4,h5,h6⟩:=h;rcases o with⟨m,o⟩|⟨a',ob',j,c,e',hb,hc,co,hj⟩
  .rw[e]at o;cases o
   exact⟨(h3 m).1,(h3 m).2,ob,h1,h2.mut m⟩
  .rw[e]at e';cases e'
   rw[h1]at hb;cases hb
   have:=h6 j c _ hc hj;cases c with
   |d y=>exact co.elim
   |l ds=>
    obtain⟨b',xs,e2,f1,f2,f3,f4⟩:=this;cases e2;exact⟨f1,f2,_,f3,trivial⟩
   |q ks ds=>
    obtain⟨b',xs,e2,f1,f2,f3,f4⟩:=this;cases e2;exact⟨f1,f2,_,f3,trivial⟩
theorem Ow.owns(o:Ow s):Owns H s (.ref a) a:=by
 cases s with
 |d x=>exact o.elim
 |o ds=>exact rfl
 |q ks ds=>exact rfl
 |w dss=>exact .inl rfl
 |m l=>exact rfl
 |k t cs=>exact .inl ⟨o,rfl⟩
theorem StHas.same(h:StHas K W₀ H₀ W H σ δ)(k:Same H H'):StHas K W₀ H₀ W H' σ δ:=
 ⟨h.fr.same k,h.len,λi s e=>let ⟨v,h1,h2⟩:=h.at' i s e;⟨v,h1,h2.same h.fr.wl k⟩,λi j s t u v b ij e1 e2 e3 e4 o1 o2=>by
  obtain⟨u',f1,f2⟩:=h.at' i s e1;obtain⟨v',f3,f4⟩:=h.at' j t e2;rw[e3]at f1;cases f1
  rw[e4]at f3;cases f3
  exact h.ap i j s t u v b ij e1 e2 e3 e4 (Owns.back f2 (λa o _ z _=>k _ _ z) o1) (Owns.back f4 (λa o _ z _=>k _ _ z) o2)⟩
theorem StHas.set(h:StHas K W₀ H₀ W H σ δ)(q:Has K W H x v):StHas K W₀ H₀ W H (σ.set i (some v)) (δ.set i (some (.d x))):=by
 refine⟨h.fr,by simp[h.len],λj s e=>?_,λj k s1 s2 u u' a hjk e1 e2 e3 e4 os ot=>?_⟩
 .by_cases hj:i=j
  .subst hj;rw[di]at e ⊢
   cases q':δ[i]? with
   |none=>rw[q']at e;cases e
   |some z=>
    rw[q']at e
    have e':some (S.d x)=some s:=yb e;cases e';have hi:i<σ.length:=by rw[h.len];exact(ya.mp q').1
    exact⟨v,by rw[oa hi];rfl,q⟩
  .rw[pd hj]at e ⊢
   exact h.at' j s e
 .have hj:i≠j:=by
   rintro rfl;rw[di]at e1
   cases q':δ[i]? with
   |none=>rw[q']at e1;cases e1
   |some z=>rw[q']at e1;cases e1;exact os
  have hk:i≠k:=by
   rintro rfl;rw[di]at e2
   cases q':δ[i]? with
   |none=>rw[q']at e2;cases e2
   |some z=>rw[q']at e2;cases e2;exact ot
  rw[pd hj]at e1 e3
  rw[pd hk]at e2 e4
  exact h.ap j k s1 s2 u u' a hjk e1 e2 e3 e4 os ot
theorem StHas.ownS{N:WS}(h:StHas K W₀ H₀ W H σ δ)(k:Same H H')(hn:∀ b,N b->H b=none/\∃ ob,H' b=some ob/\Hn ob)(q:SlotHas K W₀ H₀ (λb=>W b\/N b) H' sl (.ref a))(nw:∀ b,Owns H' sl (.ref a) b->H b=none):
  StHas K W₀ H₀ (λb=>W b\/N b) H' (σ.set i (some (.ref a))) (δ.set i (some sl)):=by
 have hw:∀ b,(W b\/N b)->W b\/H b=none:=λb z=>z.elim .inl λz=>.inr (hn b z).1;have kk:Pg W H H':=Same.keep k;have fr':FrOk W₀ H₀ (λb=>W b\/N b) H':=⟨h.fr.ext.trans k,λb z=>.inl (h.fr.sub b z),⟨λb z=>z.elim ((h.fr.wl.same k).own b) λz=>(hn b z).2,(h.fr.wl.same k).tab⟩,h.fr.wl0⟩
 have slot:∀ {s:S} {v:V},SlotHas K W₀ H₀ W H s v->SlotHas K W₀ H₀ (λb=>W b\/N b) H' s v:=λ{s v} z=>z.mv h.fr.wl kk hw λb o e h1 h2 h3 h4=>⟨.inl h1,k _ _ h3⟩
 have old:∀ (j:Nat) (t:S) (v:V) (b:ca),δ[j]? =some (some t)->σ[j]? =some (some v)->Owns H' t v b->Owns H t v b/\H b≠none:=λj t v b e z o=>by
  obtain⟨v',h1,h2⟩:=h.at' j _ e;rw[z]at h1;cases h1
  have o':=Owns.back h2 (λa o _ z _=>k _ _ z) o;obtain⟨_,_,ob,h3,_⟩:=h2.owns o';exact⟨o',λz=>by rw[h3]at z;cases z⟩
 refine⟨fr',by simp[h.len],λj s e=>?_,λj l s1 s2 u u' b hjl e1 e2 e3 e4 os ot=>?_⟩
 .by_cases hj:i=j
  .subst hj;rw[di]at e ⊢
   cases q':δ[i]? with
   |none=>rw[q']at e;cases e
   |some z=>
    rw[q']at e
    have e':some sl=some s:=yb e;cases e';have hi:i<σ.length:=by rw[h.len];exact(ya.mp q').1
    exact⟨.ref a,by rw[oa hi];rfl,q⟩
  .rw[pd hj]at e ⊢
   obtain⟨v,h1,h2⟩:=h.at' j s e;exact⟨v,h1,slot h2⟩
 .have get:∀ m:Nat,m≠i->∀ {α:Type} (l:List α) (z:α),(l.set i z)[m]? =l[m]? :=λm hm α l z=>pd (qk hm)
  have self:∀ {α:Type} (l:List (Option α)) (z y:α),(l.set i (some z))[i]? =some (some y)->y=z:=λl z y e=>by
   rw[di]at e
   cases q':l[i]? with
   |none=>rw[q']at e;cases e
   |some x=>rw[q']at e;cases e;rfl
  by_cases hj:j=i
  .have hl:l≠i:=λz=>hjl (hj.trans z.symm);rw[get l hl]at e2 e4
   subst hj;have z1:=self _ _ _ e1;have z2:=self _ _ _ e3;subst z1;subst z2;exact(old l s2 u' b e2 e4 ot).2 (nw b os)
  .rw[get j hj]at e1 e3
   by_cases hl:l=i
   .subst hl;have z1:=self _ _ _ e2;have z2:=self _ _ _ e4;subst z1;subst z2;exact(old j s1 u b e1 e3 os).2 (nw b ot)
   .rw[get l hl]at e2 e4
    exact h.ap j l s1 s2 u u' b hjl e1 e2 e3 e4 (old j s1 u b e1 e3 os).1 (old l s2 u' b e2 e4 ot).1
theorem StHas.ownG{W':WS}(h:StHas K W₀ H₀ W H σ δ)(k:Same H H')(ha:H a=none)(ha':H' a=some ob)(mo:Hn ob)(q:SlotHas K W₀ H₀ (λb=>W b\/b=a) H' sl (.ref a))(nw:∀ b,Owns H' sl (.ref a) b->H b=none:=by intro b z;cases z;assumption):
  StHas K W₀ H₀ (λb=>W b\/b=a) H' (σ.set i (some (.ref a))) (δ.set i (some sl)):=
 h.ownS (N:=λb=>b=a) k (λb z=>by rw[z];exact⟨ha,ob,ha',mo⟩) q nw
theorem StHas.own(h:StHas K W₀ H₀ W H σ δ)(ha:H a=none)(q:HasL K W H ds xs):
  StHas K W₀ H₀ (λb=>W b\/b=a) (Pb H a (.lst xs)) (σ.set i (some (.ref a))) (δ.set i (some (.o ds))):=by
 have k:Same H (Pb H a (.lst xs)):=λb o e=>by rw[Ha (Ua e ha)];exact e
 exact h.ownG (W':=W) k ha Ta trivial ⟨a,xs,rfl,.inr rfl,Same.free h.fr.ext ha,Ta,HasL.keep (Same.keep k) h.fr.wl (λb z=>z.elim .inl λz=>.inr (by rw[z];exact ha)) q⟩
theorem StHas.ownQ{ks:List Hb}{kvs:List (Hb×V)}(h:StHas K W₀ H₀ W H σ δ)(ha:H a=none)(e:kvs.map (·.1)=ks)(q:HasL K W H ds (kvs.map (·.2))):
  StHas K W₀ H₀ (λb=>W b\/b=a) (Pb H a (.dK kvs)) (σ.set i (some (.ref a))) (δ.set i (some (.q ks ds))):=by
 have k:Same H (Pb H a (.dK kvs)):=λb o e=>by rw[Ha (Ua e ha)];exact e
 exact h.ownG (W':=W) k ha Ta trivial ⟨a,kvs,rfl,.inr rfl,Same.free h.fr.ext ha,Ta,e,HasL.keep (Same.keep k) h.fr.wl (λb z=>z.elim .inl λz=>.inr (by rw[z];exact ha)) q⟩
theorem StHas.changeS{w:V}(h:StHas K W₀ H₀ W H σ δ)(hi:δ[i]? =some (some so))(hs:σ[i]? =some (some w))(oc:Owns H so w a)(mo:Hn ob)(q:H₀ a=none->Pg W H (Pb H a ob)->SlotHas K W₀ H₀ W (Pb H a ob) sl w)(nw:∀ b,Owns (Pb H a ob) sl w b->∀ (j:Nat) (t:S) (v:V),i≠j->δ[j]? =some (some t)->σ[j]? =some (some v)->¬ Owns H t v b):
  StHas K W₀ H₀ W (Pb H a ob) σ (δ.set i (some sl)):=by
 obtain⟨v,h1,h2⟩:=h.at' i _ hi;rw[hs]at h1
 cases h1;obtain⟨hW,h0,ob',h3',h4'⟩:=h2.owns oc
 have kk:Pg W H (Pb H a ob):=λb o e n=>by
  rw[Ha (λz=>n (by rw[z];exact hW))];exact e
 have hw:∀ b,W b->W b\/H b=none:=λb z=>.inl z
 have fr':FrOk W₀ H₀ W (Pb H a ob):=⟨λb o e=>by rw[Ha (Ua e h0)];exact h.fr.ext _ _ e,h.fr.sub,⟨λb z=>by
  by_cases hb:b=a
  .rw[hb];exact⟨ob,Ta,mo⟩
  .rw[Ha hb];exact h.fr.wl b z,λq hq=>by rw[Ha (h.fr.wl.noW hW hq)];exact h.fr.wl.tab q hq⟩,h.fr.wl0⟩
 have hl:i<δ.length:=(ya.mp hi).1
 have ne:∀ (j:Nat) (s:S) (v:V) (b:ca),i≠j->δ[j]? =some (some s)->σ[j]? =some (some v)->Owns H s v b->b≠a:=λj s v b hj e e' o z=>by
  subst z;exact h.ap i j _ _ _ _ b hj hi e hs e' oc o
 refine⟨fr',by simp[h.len],λj s e=>?_,λj l s1 s2 u u' b hjl e1 e2 e3 e4 os ot=>?_⟩
 .by_cases hj:i=j
  .subst hj;rw[me hl]at e
   cases e;exact⟨w,hs,q h0 kk⟩
  .rw[pd hj]at e
   obtain⟨v,h1,h2⟩:=h.at' j s e;exact⟨v,h1,h2.mv h.fr.wl kk hw λb o e1 h1' _ h3' _=>⟨h1',by rw[Ha (ne j s v b hj e h1 e1)];exact h3'⟩⟩
 .have own:∀ (m:Nat) (t:S) (x:V),i≠m->(δ.set i (some sl))[m]? =some (some t)->σ[m]? =some (some x)->Owns (Pb H a ob) t x b->δ[m]? =some (some t)/\Owns H t x b:=λm t x hm e e' o=>by
   rw[pd hm]at e
   obtain⟨v,h1,h2⟩:=h.at' m t e;rw[e']at h1;cases h1
   refine⟨e,Owns.back h2 (λc o ec z y=>?_) o⟩;rcases y with⟨y,_⟩|⟨xs,y⟩
   .rw[Ha (ne m _ _ c hm e e' y)];exact z
   .rw[Ha (λq=>by rw[q,h3']at z;cases z;rw[y]at h4';exact h4')];exact z
  by_cases hj:i=j
  .subst hj;rw[me hl]at e1;cases e1
   rw[hs]at e3;cases e3
   obtain⟨g2,o2⟩:=own l s2 u' hjl e2 e4 ot;exact nw b os l s2 u' hjl g2 e4 o2
  .obtain⟨g1,o1⟩:=own j s1 u hj e1 e3 os;by_cases hm:i=l
   .subst hm;rw[me hl]at e2;cases e2
    rw[hs]at e4;cases e4
    exact nw b ot j s1 u hj g1 e3 o1
   .obtain⟨g2,o2⟩:=own l s2 u' hm e2 e4 ot;exact h.ap j l s1 s2 u u' b hjl g1 g2 e3 e4 o1 o2
theorem StHas.changeG(h:StHas K W₀ H₀ W H σ δ)(oo:Ow so)(hi:δ[i]? =some (some so))(hs:σ[i]? =some (some (.ref a)))(mo:Hn ob)(hW:W a)(q:H₀ a=none->Pg W H (Pb H a ob)->SlotHas K W₀ H₀ W (Pb H a ob) sl (.ref a))(ol:Ow sl)(nw:∀ b,Owns (Pb H a ob) sl (.ref a) b->Owns H so (.ref a) b:=by intro b z;exact z):
  StHas K W₀ H₀ W (Pb H a ob) σ (δ.set i (some sl)):=
 h.changeS hi hs oo.owns mo q λb o j t v hj e e'=>h.ap i j _ _ _ _ b hj hi e hs e' (nw b o)
theorem StHas.change(h:StHas K W₀ H₀ W H σ δ)(hi:δ[i]? =some (some (.o ds)))(hs:σ[i]? =some (some (.ref a)))(ha:H a=some (.lst xs))(hW:W a)(q:HasL K W H es ys):
  StHas K W₀ H₀ W (Pb H a (.lst ys)) σ (δ.set i (some (.o es))):=
 h.changeG (owo ds) hi hs trivial hW (λh0 kk=>⟨a,ys,rfl,hW,h0,Ta,HasL.keep kk h.fr.wl (λb z=>.inl z) q⟩) (owo es)
theorem StHas.changeQ{ks ks':List Hb}{kvs':List (Hb×V)}(h:StHas K W₀ H₀ W H σ δ)(hi:δ[i]? =some (some (.q ks ds)))(hs:σ[i]? =some (some (.ref a)))(hW:W a)(e:kvs'.map (·.1)=ks')(q:HasL K W H es (kvs'.map (·.2))):
  StHas K W₀ H₀ W (Pb H a (.dK kvs')) σ (δ.set i (some (.q ks' es))):=
 h.changeG (owq ks ds) hi hs trivial hW (λh0 kk=>⟨a,kvs',rfl,hW,h0,Ta,e,HasL.keep kk h.fr.wl (λb z=>.inl z) q⟩) (owq ks' es)
theorem StHas.freezeS{N:WS}{w:V}(h:StHas K W₀ H₀ W H σ δ)(hi:δ[i]? =some (some so))(hs:σ[i]? =some (some w))(oN:∀ b,N b->Owns H so w b)(hd:Has K (λb=>W b/\¬ N b) H x w):StHas K W₀ H₀ (λb=>W b/\¬ N b) H σ (δ.set i (some (.d x))):=by
 obtain⟨v,h1,h2⟩:=h.at' i _ hi;rw[hs]at h1
 cases h1;have kk:Pg W H H:=λ_ _ e _=>e;have hw:∀ b,(W b/\¬ N b)->W b\/H b=none:=λb z=>.inl z.1;have hl:i<δ.length:=(ya.mp hi).1;refine⟨⟨h.fr.ext,λb z=>⟨h.fr.sub b z,λe=>?_⟩,⟨λb z=>h.fr.wl b z.1,h.fr.wl.tab⟩,h.fr.wl0⟩,by simp[h.len],λj s e=>?_,λj l s1 s2 u u' b hjl e1 e2 e3 e4 os ot=>?_⟩
 .obtain⟨ys,z',_⟩:=h.fr.wl0 _ z;rw[(h2.owns (oN _ e)).2.1]at z';cases z'
 .by_cases hj:i=j
  .subst hj;rw[me hl]at e
   cases e;exact⟨_,hs,hd⟩
  .rw[pd hj]at e
   obtain⟨v,g1,g2⟩:=h.at' j s e;exact⟨v,g1,g2.mv h.fr.wl kk hw λb o e1 h1' _ h3' _=>⟨⟨h1',λz=>h.ap i j _ _ _ _ b hj hi e hs g1 (oN b z) e1⟩,h3'⟩⟩
 .have hj:i≠j:=by
   rintro rfl;rw[me hl]at e1;cases e1;exact os
  have hk:i≠l:=by
   rintro rfl;rw[me hl]at e2;cases e2;exact ot
  rw[pd hj]at e1
  rw[pd hk]at e2
  exact h.ap j l s1 s2 u u' b hjl e1 e2 e3 e4 os ot
theorem StHas.freezeG(h:StHas K W₀ H₀ W H σ δ)(oo:Ow so)(hi:δ[i]? =some (some so))(hs:σ[i]? =some (some (.ref a)))(hd:Has K (λb=>W b/\b≠a) H x (.ref a)):StHas K W₀ H₀ (λb=>W b/\b≠a) H σ (δ.set i (some (.d x))):=
 h.freezeS (N:=λb=>b=a) hi hs (λb z=>by rw[z];exact oo.owns) hd
theorem StHas.freezeH(h:StHas K W₀ H₀ W H σ δ)(oo:Ow so)(hi:δ[i]? =some (some so))(hs:σ[i]? =some (some (.ref a)))(hd:Has K (λb=>W b/\b≠a) (Pb H a ob) x (.ref a)):StHas K W₀ H₀ (λb=>W b/\b≠a) (Pb H a ob) σ (δ.set i (some (.d x))):=by
 obtain⟨v,h1,h2⟩:=h.at' i _ hi;obtain⟨b,o1,e',hW,h0,h3,mo1⟩:=h2.own oo;rw[hs]at h1
 cases h1;cases e';have kk:Pg W H (Pb H a ob):=λb o e n=>by rw[Ha (λz=>n (by rw[z];exact hW))];exact e
 have hw:∀ b,(W b/\b≠a)->W b\/H b=none:=λb z=>.inl z.1;have hl:i<δ.length:=(ya.mp hi).1;refine⟨⟨λb o e=>by rw[Ha (Ua e h0)];exact h.fr.ext _ _ e,λb z=>⟨h.fr.sub b z,λe=>?_⟩,⟨λb z=>by rw[Ha z.2];exact h.fr.wl b z.1,λq hq=>by rw[Ha (h.fr.wl.noW hW hq)];exact h.fr.wl.tab q hq⟩,h.fr.wl0⟩,by simp[h.len],λj s e=>?_,λj l s1 s2 u u' b hjl e1 e2 e3 e4 os ot=>?_⟩
 .subst e;obtain⟨ys,z',_⟩:=h.fr.wl0 _ z;rw[h0]at z';cases z'
 .by_cases hj:i=j
  .subst hj;rw[me hl]at e
   cases e;exact⟨.ref a,hs,hd⟩
  .rw[pd hj]at e
   obtain⟨v,g1,g2⟩:=h.at' j s e;exact⟨v,g1,g2.mv h.fr.wl kk hw λb o e1 h1' _ h3' _=>(λhba=>⟨⟨h1',hba⟩,by rw[Ha hba];exact h3'⟩) (λz=>by subst z;exact h.ap i j _ _ _ _ b hj hi e hs g1 oo.owns e1)⟩
 .have hj:i≠j:=by
   rintro rfl;rw[me hl]at e1;cases e1;exact os
  have hk:i≠l:=by
   rintro rfl;rw[me hl]at e2;cases e2;exact ot
  rw[pd hj]at e1
  rw[pd hk]at e2
  have back:∀ (m:Nat) (t:S) (x:V),i≠m->δ[m]? =some (some t)->σ[m]? =some (some x)->Owns (Pb H a ob) t x b->Owns H t x b:=λm t x hm e e' o=>by
   obtain⟨v,h1,h2⟩:=h.at' m t e;rw[e']at h1;cases h1
   refine Owns.back h2 (λc o ec z y=>?_) o;rcases y with⟨y,_⟩|⟨xs,y⟩
   .rw[Ha (λq=>by subst q;exact h.ap i m _ _ _ _ c hm hi e hs e' oo.owns y)];exact z
   .rw[Ha (λq=>by rw[q,h3]at z;cases z;rw[y]at mo1;exact mo1)];exact z
  exact h.ap j l s1 s2 u u' b hjl e1 e2 e3 e4 (back j s1 u hj e1 e3 os) (back l s2 u' hk e2 e4 ot)
abbrev XW:=xa->List D->Hp->Prop
section
variable (K:td)(xw:XW)
def RE(W:WS)(H:Hp)(r:Res D)(Q:VK):Prop:=match r with
 | .ok d=>∀ v H',Same H H'->Has K W H' d v->Q v H'
 | .ex c fs=>∀ H',Same H H'->xw c fs H'
 | .stuck=>False
def HasT(W:WS)(H:Hp)(d:D)(v:V):Prop:=Has K W H d v\/∃ ds a xs,d=.lst ds/\v=.ref a/\H a=some (.lst xs)/\HasL K W H ds xs
def RP(W:WS)(H:Hp)(r:Res D)(Q:VK):Prop:=match r with
 | .ok d=>∀ v H',Same H H'->HasT K W H' d v->Q v H'
 | .ex c fs=>∀ H',Same H H'->xw c fs H'
 | .stuck=>False
def RF(W:WS)(H:Hp)(r:Res (List D))(Q:VK):Prop:=match r with
 | .ok ds=>∀ a xs H1,Same H H1->H1 a=none->HasL K W H1 ds xs->Q (.ref a) (Pb H1 a (.lst xs))
 | .ex c fs=>∀ H',Same H H'->xw c fs H'
 | .stuck=>False
def RT(H:Hp)(r:Res Bool)(Q:Bool->Hp->Prop):Prop:=match r with
 | .ok b=>∀ H',Same H H'->Q b H'
 | .ex c fs=>∀ H',Same H H'->xw c fs H'
 | .stuck=>False
def RA(W:WS)(H:Hp)(r:Res (List D))(Q:List V->Hp->Prop):Prop:=match r with
 | .ok ds=>∀ vs H',Same H H'->HasL K W H' ds vs->Q vs H'
 | .ex c fs=>∀ H',Same H H'->xw c fs H'
 | .stuck=>False
def DQ(f:Ca->Res D):TE:=λσ H Q=>∃ W₀ H₀ W δ,StHas K W₀ H₀ W H σ δ/\RE K xw W H (f δ) Q
def FQ(f:Ca->Res D):TE:=λσ H Q=>∃ W₀ H₀ W δ,StHas K W₀ H₀ W H σ δ/\RP K xw W H (f δ) Q
def tDF(f:Ca->Res (List D)):TE:=λσ H Q=>∃ W₀ H₀ W δ,StHas K W₀ H₀ W H σ δ/\RF K xw W H (f δ) Q
def Y3(f:Ca->Res Bool):TT:=λσ H Q=>∃ W₀ H₀ W δ,StHas K W₀ H₀ W H σ δ/\RT xw H (f δ) Q
def tDA(f:Ca->Res (List D)):TA:=λσ H Q=>∃ W₀ H₀ W δ,StHas K W₀ H₀ W H σ δ/\RA K xw W H (f δ) Q
end
def DE(X:Cx)(xw:XW)(e:qc)(f:Ca->Res D):Prop:=PE X e (DQ X.K xw f)
def DP(X:Cx)(xw:XW)(e:qc)(f:Ca->Res D):Prop:=PE X e (FQ X.K xw f)
def DF(X:Cx)(xw:XW)(e:qc)(f:Ca->Res (List D)):Prop:=PE X e (tDF X.K xw f)
def DT(X:Cx)(xw:XW)(e:qc)(f:Ca->Res Bool):Prop:=PT X e (Y3 X.K xw f)
def DW(X:Cx)(xw:XW)(e:qc)(f:Ca->Res Bool):Prop:=PW X e (Y3 X.K xw f)
def DA(X:Cx)(xw:XW)(es:List qc)(f:Ca->Res (List D)):Prop:=PA X es (tDA X.K xw f)
variable{X:Cx}{e:qc}
theorem PE.weak{t t':TE}(h:PE X e t)(k:∀ σ H Q,t' σ H Q->t σ H Q):PE X e t':=λpins s σ H Q I q=>h pins s σ H Q I (k σ H Q q)
variable{t':TT}
theorem PT.weak{t:TT}(h:PT X e t)(k:∀ σ H Q,t' σ H Q->t σ H Q):PT X e t':=λpins s σ H Q I q=>h pins s σ H Q I (k σ H Q q)
theorem PW.weak{t:TT}(h:PW X e t)(k:∀ σ H Q,t' σ H Q->t σ H Q):PW X e t':=λwh pins s σ H Q I q=>h wh pins s σ H Q I (k σ H Q q)
theorem PA.weak{e:List qc}{t t':TA}(h:PA X e t)(k:∀ σ H Q,t' σ H Q->t σ H Q):PA X e t':=λps pins s σ H Q I q=>h ps pins s σ H Q I (k σ H Q q)
variable{i:Int}{xw:XW}{Q:VK}{d:D}
theorem RE.same{r:Res D}(h:RE K xw W H r Q)(k:Same H H'):RE K xw W H' r Q:=by
 cases r with
 |ok d=>exact λv H2 k2 q=>h v H2 (k.trans k2) q
 |ex c fs=>exact λH2 k2=>h H2 (k.trans k2)
 |stuck=>exact h
theorem RF.same{r:Res (List D)}(h:RF K xw W H r Q)(k:Same H H'):RF K xw W H' r Q:=by
 cases r with
 |ok d=>exact λa xs H1 k1 n q=>h a xs H1 (k.trans k1) n q
 |ex c fs=>exact λH2 k2=>h H2 (k.trans k2)
 |stuck=>exact h
theorem RT.same{r:Res Bool}{Q:Bool->Hp->Prop}(h:RT xw H r Q)(k:Same H H'):RT xw H' r Q:=by
 cases r with
 |ok d=>exact λH2 k2=>h H2 (k.trans k2)
 |ex c fs=>exact λH2 k2=>h H2 (k.trans k2)
 |stuck=>exact h
theorem HasT.same(h:HasT K W H d v)(k:Same H H')(w:WL W H):HasT K W H' d v:=by
 rcases h with h|⟨ds,a,xs,h1,h2,h3,h4⟩
 .exact .inl (h.same k w)
 .exact .inr ⟨ds,a,xs,h1,h2,k _ _ h3,h4.same k w⟩
theorem Has.top(h:Has K W H d v):HasT K W H d v:=.inl h
theorem HasT.int(h:HasT K W H (.int i) v):v=.int i:=by
 rcases h with h|⟨ds,a,xs,h1,_⟩
 .rw[Has]at h;exact h
 .cases h1
theorem HasT.bl{i:Bool}(h:HasT K W H (.bl i) v):v=.bl i:=by
 rcases h with h|⟨ds,a,xs,h1,_⟩
 .rw[Has]at h;exact h
 .cases h1
theorem HasT.str{i:xa}(h:HasT K W H (.str i) v):v=.str i:=by
 rcases h with h|⟨ds,a,xs,h1,_⟩
 .rw[Has]at h;exact h
 .cases h1
theorem HasT.non(h:HasT K W H .non v):v=.non:=by
 rcases h with h|⟨ds,a,xs,h1,_⟩
 .rw[Has]at h;exact h
 .cases h1
theorem HasT.tup(h:HasT K W H (.tup ds) v):∃ a xs,v=.ref a/\SqT K H a xs/\HasL K W H ds xs:=by
 rcases h with h|⟨ds,a,xs,h1,_⟩
 .rw[Has]at h;exact h
 .cases h1
theorem HasT.lst(h:HasT K W H (.lst ds) v):∃ a xs,v=.ref a/\SqL K H a xs/\HasL K W H ds xs:=by
 rcases h with h|⟨ds,a,xs,h1,h2,h3,h4⟩
 .rw[Has]at h
  obtain⟨a,xs,e,q,r⟩:=h;exact⟨a,xs,e,q.sq,r⟩
 .cases h1;exact⟨a,xs,h2,.of h3,h4⟩
def TB(scope:xr)(env:tu):List (xa×ca):=scope.names.foldl (λcs y=>if y.2== .free then(match env.cells.lookup y.1 with|some a=>(y.1,a)::cs|none=>cs) else cs) []
variable{env:tu}
theorem WQ(names:List (xa×mi)):∀ (cs:List (xa×ca)),(∀ y∈names,y.2=.free->∃ c,env.cells.lookup y.1=some c)->
  (forIn names cs (λ(y:xa×mi) (r:List (xa×ca))=>(do
   if(y.2==NameKind.free)=true then do
    let a <-cellOf env y.1
    pure (ForInStep.yield ((y.1,a)::r))
   else pure (ForInStep.yield r):Sem (ForInStep (List (xa×ca))))))=(pure (names.foldl (λcs y=>if y.2== .free then(match env.cells.lookup y.1 with|some a=>(y.1,a)::cs|none=>cs) else cs) cs):Sem _):=by
 induction names with
 |nil=>intro cs _;rfl
 |cons y r ih=>
  intro cs h;have h':∀ y∈r,y.2=.free->∃ c,env.cells.lookup y.1=some c:=λz hz=>h z (ua _ hz);rw[List.forIn_cons,cj];by_cases hk:y.2=.free
  .obtain⟨c,hc⟩:=h y ib hk;have hb:(y.2==NameKind.free)=true:=by rw[hk];rfl
   simp only[hb,if_true,cellOf,hc,pure_bind];exact ih _ h'
  .have hb:(y.2==NameKind.free)=false:=by simpa using hk
   simp only[hb,uc,if_false,pure_bind];exact ih _ h'
variable{scope:xr}
theorem JE(h:∀ y∈scope.names,y.2=.free->∃ c,env.cells.lookup y.1=some c):closureFor scope env=pure (TB scope env):=by
 unfold closureFor TB;exact(congrArg (λz=>z >>= λr=>pure r) (WQ scope.names [] h)).trans (by simp)
theorem FK(names:List (xa×mi)):∀ (cs:List (xa×ca)),(∀ x c,cs.lookup x=some c->env.cells.lookup x=some c)->
  ∀ x c,(names.foldl (λcs y=>if y.2== .free then(match env.cells.lookup y.1 with|some a=>(y.1,a)::cs|none=>cs) else cs) cs).lookup x=some c->env.cells.lookup x=some c:=by
 induction names with
 |nil=>intro cs h;exact h
 |cons y r ih=>
  intro cs h;rw[cj];refine ih _ ?_;split
  .split
   .rename_i a ha;intro x c e;rw[yg]at e
    by_cases hx:x=y.1
    .have:(x==y.1)=true:=by rw[hx];simp
     rw[this]at e
     have e':a=c:=yb e;rw[hx,ha,e']
    .have:(x==y.1)=false:=by simpa using hx
     rw[this]at e
     exact h x c e
   .exact h
  .exact h
theorem Ny(names:List (xa×mi)):∀ (cs:List (xa×ca)) (x:xa),((∃ c,cs.lookup x=some c)\/((x,NameKind.free)∈names/\∃ c,env.cells.lookup x=some c))->
  ∃ c,(names.foldl (λcs y=>if y.2== .free then(match env.cells.lookup y.1 with|some a=>(y.1,a)::cs|none=>cs) else cs) cs).lookup x=some c:=by
 induction names with
 |nil=>
  intro cs x h;rcases h with h|⟨h,_⟩
  .exact h
  .simp at h
 |cons y r ih=>
  intro cs x h;rw[cj];refine ih _ x ?_;rcases h with⟨c,h⟩|⟨h,c,hc⟩
  .left;split
   .split
    .rename_i a ha;rw[yg];cases hx:x==y.1 with
     |true=>exact⟨a,rfl⟩
     |false=>exact⟨c,h⟩
    .exact⟨c,h⟩
   .exact⟨c,h⟩
  .rcases zc.mp h with h|h
   .left;subst h;simp only[beq_self_eq_true,if_true,hc];exact⟨c,by rw[yg];simp⟩
   .exact .inr ⟨h,c,hc⟩
theorem Jm{g:xa->mi->mi}:∀ (l:List (xa×mi)) (x:xa),(l.map λy=>(y.1,g y.1 y.2)).lookup x=(l.lookup x).map (g x)
 | [],_=>rfl
 |y::r,x=>by
  rw[ac,yg,yg];cases hx:x==y.1 with
  |true=>
   have:x=y.1:=by simpa using hx
   rw[this];rfl
  |false=>exact Jm r x
theorem Nf(scope:xr)(env:tu)(x:xa):(mq scope env).names.lookup x=(scope.names.lookup x).map λk=>if(k== .free&&env.scope.kind== .function&&env.kindOf x==some .cell) then .cell else k:=by
 have e:(mq scope env).names=scope.names.map λy=>(y.1,(λn k=>if(k==NameKind.free&&env.scope.kind== .function&&env.kindOf n==some .cell) then NameKind.cell else k) y.1 y.2):=by
  unfold mq;refine qi λy _=>?_;obtain⟨n,k⟩:=y;dsimp only;split<;>rfl
 rw[e];exact Jm (g:=λn k=>if(k==NameKind.free&&env.scope.kind== .function&&env.kindOf n==some .cell) then NameKind.cell else k) scope.names x
theorem EK(names:List (xa×mi)):∀ (cs:List (xa×ca)) (x:xa) (c:ca),(names.foldl (λcs y=>if y.2== .free then(match env.cells.lookup y.1 with|some a=>(y.1,a)::cs|none=>cs) else cs) cs).lookup x=some c->cs.lookup x=some c\/(x,NameKind.free)∈names:=by
 induction names with
 |nil=>intro cs x c h;exact .inl h
 |cons y r ih=>
  intro cs x c h;rw[cj]at h
  rcases ih _ x c h with h|h
  .by_cases hf:y.2=.free
   .by_cases hx:x=y.1
    .right;subst hx;rw[<-hf];exact ib
    .left;have hb:(y.2==NameKind.free)=true:=by rw[hf];rfl
     have hxb:(x==y.1)=false:=by simpa using hx
     simp only[hb,if_true]at h;split at h
     .rw[yg,hxb]at h;exact h
     .exact h
   .left;have hb:(y.2==NameKind.free)=false:=by simpa using hf
    simp only[hb,uc,if_false]at h;exact h
  .exact .inr (ua _ h)
theorem IE:∀ (names:List (xa×mi)) (n:Nat) (acc:List (xa×ca)) (x:xa) (c:ca),(oj n names acc).lookup x=some c->acc.lookup x=some c\/(n<=c/\(x,NameKind.cell)∈names)
 | [],_,_,_,_,h=>.inl h
 |(y,k)::r,n,acc,x,c,h=>by
  unfold oj at h;by_cases hk:(k== .cell)=true
  .rw[if_pos hk]at h
   have hk':k=.cell:=by simpa using hk
   rcases IE r (n+1) _ x c h with h|⟨h1,h2⟩
   .rw[yg]at h
    cases hx:x==y with
    |true=>
     rw[hx]at h
     have e:n=c:=yb h;have ex:x=y:=by simpa using hx
     subst ex;subst hk';exact .inr ⟨by omega,ib⟩
    |false=>rw[hx]at h;exact .inl h
   .exact .inr ⟨by omega,ua _ h2⟩
  .rw[if_neg hk]at h
   rcases IE r n acc x c h with h|⟨h1,h2⟩
   .exact .inl h
   .exact .inr ⟨h1,ua _ h2⟩
theorem RB:∀ (names:List (xa×mi)) (n:Nat) (acc:List (xa×ca)) (x:xa),(x,NameKind.cell)∉names->(oj n names acc).lookup x=acc.lookup x
 | [],_,_,_,_=>rfl
 |(y,k)::r,n,acc,x,h=>by
  have hr:(x,NameKind.cell)∉r:=λz=>h (ua _ z);unfold oj;by_cases hk:(k== .cell)=true
  .rw[if_pos hk,RB r (n+1) _ x hr,yg];have hk':k=.cell:=by simpa using hk
   have hx:(x==y)=false:=by
    cases hx:x==y with
    |false=>rfl
    |true=>
     have ex:x=y:=by simpa using hx
     subst ex;subst hk';exact absurd ib h
   rw[hx]
  .rw[if_neg hk];exact RB r n acc x hr
theorem QB:∀ (names:List (xa×mi)) (n:Nat) (acc:List (xa×ca)),(∀ x y c,acc.lookup x=some c->acc.lookup y=some c->x=y)->(∀ x c,acc.lookup x=some c->c<n)->
  ∀ x y c,(oj n names acc).lookup x=some c->(oj n names acc).lookup y=some c->x=y
 | [],_,_,h,_=>h
 |(z,k)::r,n,acc,h,hb=>by
  unfold oj;by_cases hk:(k== .cell)=true
  .rw[if_pos hk];refine QB r (n+1) _ (λx y c e1 e2=>?_) λx c e=>?_
   .rw[yg]at e1 e2
    cases hx:x==z with
    |true=>
     rw[hx]at e1
     have ec:n=c:=yb e1;have ex:x=z:=by simpa using hx
     cases hy:y==z with
     |true=>
      have ey:y=z:=by simpa using hy
      rw[ex,ey]
     |false=>
      rw[hy]at e2
      have:=hb y c e2;rw[<-ec]at this
      exact absurd this (oh _)
    |false=>
     rw[hx]at e1
     cases hy:y==z with
     |true=>
      rw[hy]at e2
      have ec:n=c:=yb e2;have:=hb x c e1;rw[<-ec]at this
      exact absurd this (oh _)
     |false=>rw[hy]at e2;exact h x y c e1 e2
   .rw[yg]at e
    cases hx:x==z with
    |true=>
     rw[hx]at e
     have ec:n=c:=yb e;rw[<-ec];exact Tk _
    |false=>rw[hx]at e;exact km (hb x c e)
  .rw[if_neg hk];exact QB r n acc h hb
theorem Dw:∀ (names:List (xa×mi)) (h:ke) (acc:List (xa×ca)),(∀ x c,acc.lookup x=some c->∃ v,h.IsCell c v)->∀ x c,(oj h.objs.size names acc).lookup x=some c->∃ v,(qo h names).IsCell c v
 | [],_,_,hc=>hc
 |(z,k)::r,h,acc,hc=>by
  unfold oj qo;by_cases hk:(k== .cell)=true
  .rw[if_pos hk,if_pos hk]
   have:=Dw r (h.push {cls:=.type "cell",data:=.cell none}) ((z,h.objs.size)::acc) λx c e=>by
    rw[yg]at e
    cases hx:x==z with
    |true=>
     rw[hx]at e
     have ec:h.objs.size=c:=yb e;subst ec;exact⟨none,_,yc _ rfl,rfl⟩
    |false=>
     rw[hx]at e
     obtain⟨v,q⟩:=hc x c e;exact⟨v,q.keeps λb o e=>ja _ e⟩
   rw[sk]at this
   exact this
  .rw[if_neg hk,if_neg hk];exact Dw r h acc hc
def CH(scope:xr)(env:tu)(C:ca):List (xa×ca):=oj (C+1) scope.names (TB scope env)
variable{s:Shared}{A:je}{E:Fa->Shared->Prop}{qual:xa}
theorem Ip{M:Model}{globals:ca}{cl:List (xa×ca)}{Q:tu->Shared->Prop}(hQ:Q {scope:=scope,locals:=s.heap.objs.size,globals:=globals,cells:=oj (s.heap.objs.size+1) scope.names cl,qual:=qual,func:=none,code:=env.code,frame:=env.frame,builtins:=env.builtins}
   {s with heap:=qo (s.heap.push {cls:=.type "dict",data:=.dict #[]}) scope.names}):
  wa M A (newFunctionEnv scope globals cl [] qual none .none (some env)) Q E s:=by
 simp only[newFunctionEnv,Option.isSome_some,if_true];refine Da (wpAny_alloc ?_);refine Da (wpAny_layCells _ (λname kind cells=>by cases hkc:kind==NameKind.cell<;>simp[hkc]) _ _ _ _ ?_);rw[show({s with heap:=s.heap.push {cls:=.type "dict",data:=.dict #[]}}:Shared).heap.objs.size=s.heap.objs.size+1 from sk ..];refine Da ?_;rw[List.forIn_nil];exact ia (ia hQ)
theorem YC{h:ke}{names:List (xa×mi)}:(qo (h.push {cls:=.type "dict",data:=.dict #[]}) names).Ns h.objs.size λ_=>none:=(Heap.Ns.new h (.type "dict")).keeps (jw _ _)
def Yb(X:Cx)(scope:xr)(Nc Nx:List xa)(C:ca)(fp:List ca)(pins:List (ca×ki))(s:Shared)(H:Hp):Cx:=
 {X with N:=Nc++Nx,s₀:=s,H₀:=H,env:=compEnvC scope (CH scope X.env C) C X.env,outer:=X.stack,stack:=X.stack,ex:=fp,fn:=λx=>scope.names.lookup x==some .cell,pn:=X.pn++pins,xe:=λ_ _=>False}
structure CompOk(X:Cx)(scope:xr)(Nc Nx:List xa):Prop where
 kind:scope.kind=.function
 one:∀ y∈scope.names,scope.names.lookup y.1=some y.2
 free:∀ y∈scope.names,y.2=.free->X.env.kindOf y.1=some .cell\/X.env.kindOf y.1=some .free
 same:Nx.length=X.N.length
 dis:∀ p∈Nx.zip X.N,(p.1=p.2/\scope.names.lookup p.2≠some .local/\scope.names.lookup p.2≠some .cell)\/scope.names.lookup p.1=none
variable{x:xa}{Nc Nx:List xa}{k:mi}{pins:List (ca×ki)}{fp:List ca}
theorem CompOk.loc(c:CompOk X scope Nc Nx):∀ y∈scope.names,y.2=.local->scope.names.lookup y.1=some .local:=λy hy h=>by rw[c.one y hy,h]
theorem CompOk.old(c:CompOk X scope Nc Nx)(h:scope.names.lookup x=some k)(hk:k≠ .cell):(x,NameKind.cell)∉scope.names:=λz=>by
 have:=c.one _ z;rw[h]at this
 exact hk (yb this)
theorem CompOk.cells(c:CompOk X scope Nc Nx)(ok:X.Ok):∀ y∈scope.names,y.2=.free->∃ a,X.env.cells.lookup y.1=some a:=λy hy hf=>ok.has y.1 (c.free y hy hf)
theorem Xf(h:(TB scope X.env).lookup x=some a):X.env.cells.lookup x=some a:=FK scope.names [] (λ_ _ e=>by simp at e) x a h
theorem Cw(C:ca)(h:(CH scope X.env C).lookup x=some a):X.env.cells.lookup x=some a\/(C<a/\(x,NameKind.cell)∈scope.names):=by
 rcases IE _ _ _ x a h with h|⟨h1,h2⟩
 .exact .inl (Xf h)
 .exact .inr ⟨h1,h2⟩
theorem CK(c:CompOk X scope Nc Nx)(C:ca)(hx:scope.names.lookup x=some .cell)(h:(CH scope X.env C).lookup x=some a):C<a:=by
 rcases IE _ _ _ x a h with h|⟨h1,_⟩
 .rcases EK scope.names [] x a h with h|h
  .simp at h
  .have:=c.one _ h;rw[hx]at this
   cases this
 .exact h1
theorem Ky(c:CompOk X scope Nc Nx)(C:ca)(hx:scope.names.lookup x=some k)(hk:k≠ .cell):(CH scope X.env C).lookup x=(TB scope X.env).lookup x:=RB _ _ _ x (c.old hx hk)
theorem VL{tk:Nat}(c:CompOk X scope Nc Nx)(I:Inv X pins σ H s)(hf:∀ b∈fp,Pm X pins H b/\b<s.heap.objs.size):
  Inv (Yb X scope Nc Nx s.heap.objs.size fp pins s H) [] (kc Nc.length none++σ) H {s with heap:=qo (s.heap.push {cls:=.type "dict",data:=.dict #[]}) scope.names,toks:=tk}:=by
 have hn:(qo (s.heap.push {cls:=.type "dict",data:=.dict #[]}) scope.names).Ns s.heap.objs.size λ_=>none:=YC;have hk:∀ b o,s.heap.get? b=some o->(qo (s.heap.push {cls:=.type "dict",data:=.dict #[]}) scope.names).get? b=some o:=λb o e=>jw _ _ _ _ (ja _ e)
 have cellLt:∀ x a,X.env.cells.lookup x=some a->a<s.heap.objs.size:=λx a e=>by
  obtain⟨v,q⟩:=I.cell x a e;exact q.lt
 have hokind:(compEnvC scope (CH scope X.env s.heap.objs.size) s.heap.objs.size X.env).scope.kind=.function:=c.kind
 have kinds:∀ x,((mq scope X.env).names.lookup x=some .cell\/(mq scope X.env).names.lookup x=some .free)->scope.names.lookup x=some .cell\/scope.names.lookup x=some .free:=λx hx'=>by
  rw[Nf]at hx'
  cases q:scope.names.lookup x with
  |none=>rw[q]at hx';simp at hx'
  |some k=>
   rw[q]at hx'
   by_cases hkf:k=.free
   .rw[hkf];exact .inr rfl
   .have hb:(k==NameKind.free)=false:=by simpa using hkf
    simp only[map_some,hb,Op,uc,if_false]at hx';exact hx'
 refine⟨⟨I.ok.mod,hokind,I.ok.glob,I.ok.blt,jd _,?_,λx hx=>?_,λx a hx e=>?_,I.ok.hd,I.ok.frames,.inl rfl,λb hb=>⟨?_,λx a e=>?_⟩,I.bs,uf I.ok.bsz I.sz,λb o e hb=>?_,λb hb=>?_,I.stack,I.stkFree⟩,
  rfl,I.bare,Un.kept hk,⟨_,hn,λi x v h1 h2 h3=>?_⟩,?_,I.hok.fresh (jd _),λx a e=>?_,λp hp=>?_,I.hok.kept hk,?_⟩
 .exact QB scope.names _ _ (λx y a h1 h2=>I.ok.inj x y a (Xf h1) (Xf h2)) λx a h=>km (cellLt x a (Xf h))
 .rcases kinds x hx with hc|hfree
  .exact ym.mp (ip scope.names _ _ (.inl hc))
  .have hm:=Pi hfree;obtain⟨a,e⟩:=Ny (env:=X.env) scope.names [] x (.inr ⟨hm,c.cells I.ok _ hm rfl⟩);exact⟨a,(Ky c _ hfree (by decide)).trans e⟩
 .have hx':(scope.names.lookup x==some NameKind.cell)=true:=hx;exact rl (CK c _ (by simpa using hx') e)
 .exact Re (hf b hb).2
 .rcases Cw _ e with e|⟨e,_⟩
  .exact(hf b hb).1.2.2.2.2.1 x a e
  .have:=(hf b hb).2;exact xm (On this e)
 .obtain⟨_,hb2⟩:=I.bs b o e;rcases(hf b hb).1.2.2.2.1 with z|z
  .exact I.ok.noex b o e z
  .exact absurd (yd (qd e) (uf I.ok.bsz z)) (oh _)
 .intro z;rcases zc.mp (I.stkSub b z) with q|q
  .exact(hf b hb).1.2.1 q
  .exact(hf b hb).1.2.2.1 q
 .have hi:Nc.length<=i:=by
   refine tm λq=>?_;rw[ug (by simpa using q),uk]at h2
   split at h2<;>cases h2
  have h1':Nx[i-Nc.length]? =some x:=by
   have z:(Nc++Nx)[i]? =some x:=h1;rw[ah hi]at z;exact z
  have h2':σ[i-Nc.length]? =some (some v):=by
   rw[ah (by simpa using hi),pj]at h2;exact h2
  have h3':(mq scope X.env).names.lookup x=some .local\/(mq scope X.env).names.lookup x=some .cell\/(mq scope X.env).names.lookup x=some .free:=h3
  have hz:i-Nc.length<X.N.length:=by
   rw[<-c.same];refine Ev λq=>?_;rw[zf q]at h1';cases h1'
  have hd2:=c.dis (x,X.N[i-Nc.length]'hz) (qe (i:=i-Nc.length) (by
   rw[List.getElem?_zip_eq_some]
   exact⟨h1',oa hz⟩))
  have hd3:X.N[i-Nc.length]? =some x/\scope.names.lookup x≠some .local/\scope.names.lookup x≠some .cell:=by
   rcases hd2 with⟨q1,q2⟩|q
   .have q1':x=X.N[i-Nc.length]'hz:=q1;have q2':scope.names.lookup (X.N[i-Nc.length]'hz)≠some .local/\scope.names.lookup (X.N[i-Nc.length]'hz)≠some .cell:=q2;rw[<-q1']at q2'
    exact⟨by rw[oa hz,<-q1'],q2'⟩
   .exfalso;have q':scope.names.lookup x=none:=q;rw[Nf,q']at h3'
    simp at h3'
  obtain⟨h1',hnl,hnc⟩:=hd3
  have hfree:scope.names.lookup x=some .free:=by
   rcases h3' with z|z
   .rw[Nf]at z
    cases q:scope.names.lookup x with
    |none=>rw[q]at z;simp at z
    |some k=>
     rw[q]at z
     by_cases hkf:k=.free
     .rw[hkf]
     .have hb:(k==NameKind.free)=false:=by simpa using hkf
      simp only[map_some,hb,Op,uc,if_false]at z;rw[q]at hnl;exact absurd z hnl
   .rcases kinds x z with z|z
    .exact absurd z hnc
    .exact z
  have hm:=Pi hfree;have hkx:=c.free _ hm rfl;obtain⟨mX,hnX,hl⟩:=I.loc;obtain⟨u,r,l⟩:=hl _ x v h1' h2' (hkx.elim (λz=>.inr (.inl z)) λz=>.inr (.inr z));refine⟨u,r,?_⟩;rcases l with⟨z,_⟩|⟨_,a,e,z⟩
  .have z':X.env.kindOf x=some .local:=z;rcases hkx with q|q<;> · rw[z']at q;cases q
  .obtain⟨a',e'⟩:=Ny (env:=X.env) scope.names [] x (.inr ⟨hm,c.cells I.ok _ hm rfl⟩)
   have ea:a'=a:=by
    have:=Xf (X:=X) e';rw[e]at this
    exact(yb this).symm
   subst ea;refine .inr ⟨?_,a',(Ky c _ hfree (by decide)).trans e',?_⟩
   .show(mq scope X.env).names.lookup x=some .cell\/(mq scope X.env).names.lookup x=some .free;rw[Nf,hfree];simp only[map_some];split
    .exact .inl rfl
    .exact .inr rfl
   .obtain⟨o,ho,hd⟩:=z;exact⟨o,hk _ _ ho,hd⟩
 .have q:=Dw scope.names (s.heap.push {cls:=.type "dict",data:=.dict #[]}) (TB scope X.env) λx a e=>by
   obtain⟨v,z⟩:=I.cell x a (Xf e);exact⟨v,z.keeps λb o e=>ja _ e⟩
  rw[sk]at q
  exact q
 .rcases Cw _ e with e|⟨e,_⟩
  .exact I.freeC x a e
  .exact I.hok.fresh (rl e)
 .have hp':p∈X.pn++pins:=by
   have z:p∈(X.pn++pins)++ []:=hp
   rwa [bj]at z
  obtain⟨e,n,ne,nf,d⟩:=I.pin p hp';refine⟨hk _ _ e,n,Re (qd e),λz=>?_,d⟩;rcases zc.mp (I.stkSub p.1 z) with q|q
  .exact ne q
  .exact nf q
 .show _=(Nc++Nx).length;rw[ud,ud,pj,I.len,c.same]
theorem Fz{σ':L2.St}{s':Shared}{h'':ke}(I:Inv X pins σ H s)(hf:∀ b∈fp,Pm X pins H b)(J:Inv (Yb X scope Nc Nx s.heap.objs.size fp pins s H) [] σ' H' s')(hs:dm s.heap.objs.size s'.heap h''):Inv X pins σ H' {s' with heap:=h''}:=by
 have u:Un (Zp X.stack) fp H H' s.heap s'.heap:=J.base;have hC:H' s.heap.objs.size=none:=J.free;have keep:∀ b o,b≠s.heap.objs.size->s'.heap.get? b=some o->h''.get? b=some o:=λb o hb e=>by rw[hs.2 b hb];exact e
 have lt:∀ b o,s.heap.get? b=some o->b≠s.heap.objs.size:=λb o e=>Re (qd e);refine I.call' (s':= {s' with heap:=h''}) (ch:=fp) J.os ⟨λb o e n h1 h2=>keep b o (lt b o e) (u.keep b o e n h1 h2),λb o e n h1 h2=>?_,u.free,λb o e h1=>?_,u.tups,u.frzs,u.tbls⟩ (λb o e=>?_) J.bare λb hb=>?_
 .obtain⟨sl,q⟩:=u.slot b o e n h1 h2;exact⟨sl,keep b _ (lt b o e) q⟩
 .obtain⟨o',q⟩:=u.there b o e h1;exact⟨o',keep b _ (lt b o e) q⟩
 .refine(J.hok b o e).stay (λc v hc q=>keep c v (λz=>?_) q) (λ_ q=>q) λ_ _ q=>q;subst z;rcases hc with z|z
  .rw[<-z,hC]at e;cases e
  .rw[hC]at z;cases z
 .exact⟨(hf b hb).2.2.2.1,(hf b hb).2.1,(hf b hb).2.2.2.2.1,(hf b hb).2.2.2.2.2⟩
variable{w:vd}{elt iter:qc}{ifs:List qc}{pos:vg}
theorem Oy{prog:ic}{R:uv->Shared->Prop}{target:qc}{it acc:Fa}(I:Nat->Shared->Prop)(turn:∀ n s,I n s->wa (pb prog w) A (pyNext it) (λr s₁=>match r with
   |none=>R (.ok .next) s₁
   |some v=>wa (pb prog w) A (vq target it v) (λ_ s₁'=>wa (pb prog w) A (mn target env v) (λ_ s₂=>
     wa (pb prog w) A (forIn ifs true λc r=>if r=true then do let ok <-isTrue c env (eval c env);pure (ForInStep.yield ok) else pure (ForInStep.yield r)) (λok s₃=>
      if ok=true then wa (pb prog w) A (eval elt env) (λx s₄=>
       wa (pb prog w) A (call (.builtin "list.append") [acc,x]) (λ_ s₅=>∃ m,m<n/\I m s₅) (λ_ _=>False) s₄) (λ_ _=>False) s₃
      else ∃ m,m<n/\I m s₃) (λ_ _=>False) s₂) (λ_ _=>False) s₁') (λ_ _=>False) s₁) (λ_ _=>False) s)(n:Nat)(h:I n s):
  im (pb prog w) A (.compLoop (.ListComp elt [⟨target,iter,ifs,0⟩] scope pos) 0 it acc env) R s:=by
 refine codeAny_loop rfl I (λn s hI=>?_) n h;show wa _ A ((compTurn (.ListComp elt [⟨target,iter,ifs,0⟩] scope pos) 0 it acc env).onRaise (λx=>do uo x env;theTreesLotGoes x)) _ _ s;refine wpAny_noted ?_;rw[compTurn_list];refine Da (wpAny_standAt (Da (af (turn n s hI) (λr s₁ h₁=>?_) λ_ _ h'=>h'.elim)));cases r with
 |none=>exact ia h₁
 |some v=>
  refine Da (af h₁ (λ_ s₁' h₁'=>Da (af h₁' (λ_ s₂ h₂=>Da (af h₂ (λok s₃ h₃=>?_) λ_ _ h'=>h'.elim)) λ_ _ h'=>h'.elim)) λ_ _ h'=>h'.elim);cases ok with
  |false=>exact ia ⟨rfl,h₃⟩
  |true=>
   exact Da (Da (af h₃ (λx s₄ h₄=>Da (af h₄ (λ_ s₅ h₅=>ia (ia ⟨rfl,h₅⟩)) λ_ _ h'=>h'.elim)) λ_ _ h'=>h'.elim))
def V4(X:Cx)(ifs:List qc)(t:TT):Prop:=
 ∀ (pins:List (ca×ki)) (s:Shared) (σ:L2.St) (H:Hp) (Q:Bool->Hp->Prop),Inv X pins σ H s->t σ H Q->
  wa (pb X.prog X.w) X.A (forIn ifs true λc r=>if r=true then do let ok <-isTrue c X.env (eval c X.env);pure (ForInStep.yield ok) else pure (ForInStep.yield r)) (TP X pins σ Q) X.xe s
def Gb0:TT:=λ_ H Q=>Q true H
theorem JV:V4 X [] Gb0:=λ_ s σ H Q I h=>wpAny_tests_nil ⟨H,I,h⟩
variable{c:qc}
theorem LV{t:TT}(h:PT X c t):V4 X [c] t:=λpins s σ H Q I q=>wpAny_tests_one (h pins s σ H Q I q)
def FP(n:Nat)(wi:TI)(g:TG)(tt:TT)(te:TE):TE:=λσ H Q=>wi σ H λJ H1=>∀ a,H1 a=none->∃ W:Nat->Nat->List V->L2.St->Hp->Prop,(∃ m,W 0 m [] (kc n none++σ) (Pb H1 a (.lst [])))/\
 ∀ i m xs σ' H,W i m xs σ' H->H a=some (.lst xs)/\((J.stop i H/\Q (.ref a) H)\/(J.go i H/\∀ x H',J.yld i H x H'->g x σ' H' λσ2 H2=>tt σ2 H2 λb H3=>
  if b=true then te σ2 H3 λy H4=>H4 a=some (.lst xs)/\xs.length<sizeLine/\∃ m',m'<m/\W (i+1) m' (xs++ [y]) σ2 (Pb H4 a (.lst (xs++ [y]))) else ∃ m',m'<m/\W (i+1) m' xs σ2 H3))
variable{tg:qc}{H1:Hp}{py spos:vg}
section
variable {wi:TI}{g:TG}{tt:TT}{te:TE}
theorem Vr(c:CompOk X scope Nc Nx)(hcalm:X.calm=true)(hY:∀ (C:ca) (fp:List ca) (pins:List (ca×ki)) (s:Shared) (H:Hp),PG (Yb X scope Nc Nx C fp pins s H) tg g/\V4 (Yb X scope Nc Nx C fp pins s H) ifs tt/\PE (Yb X scope Nc Nx C fp pins s H) elt te){s2:Shared}{it:ca}{tn:Nat->ke->Prop}{J:It}{Q:V->Hp->Prop}{RR:Fa->ca->uv->Shared->Prop}(I:Inv X pins σ H1 s2)(T:Turn X.prog X.w X.K tg J fp it tn)(st:tn 0 s2.heap)(hf:∀ b∈fp,Pm X pins H1 b)(h:∀ a,H1 a=none->∃ W:Nat->Nat->List V->L2.St->Hp->Prop,(∃ m,W 0 m [] (kc Nc.length none++σ) (Pb H1 a (.lst [])))/\
 ∀ i m xs σ' H,W i m xs σ' H->H a=some (.lst xs)/\((J.stop i H/\Q (.ref a) H)\/(J.go i H/\∀ x H',J.yld i H x H'->g x σ' H' λσ2 H2=>tt σ2 H2 λb H3=>
  if b=true then te σ2 H3 λy H4=>H4 a=some (.lst xs)/\xs.length<sizeLine/\∃ m',m'<m/\W (i+1) m' (xs++ [y]) σ2 (Pb H4 a (.lst (xs++ [y]))) else ∃ m',m'<m/\W (i+1) m' xs σ2 H3)))(hRR:∀ a H' σ' s' s3,Inv X pins σ (Pb H1 a (.lst [])) s3->(∀ b∈fp,Pm X pins (Pb H1 a (.lst [])) b)->Inv (Yb X scope Nc Nx s3.heap.objs.size fp pins s3 (Pb H1 a (.lst []))) [] σ' H' s'->Q (.ref a) H'->RR (.ref a) s3.heap.objs.size (.ok .next) s'):
  wa (pb X.prog X.w) X.A (newList []) (λacc s₃=>wa (pb X.prog X.w) X.A (newFunctionEnv scope X.env.globals (TB scope X.env) [] X.env.qual none .none (some X.env)) (λcenv s₄=>
   im (pb X.prog X.w) X.A (.compStart (.ListComp elt [⟨tg,iter,ifs,0⟩] scope pos) 0 (.ref it) acc {cenv with scope:=mq scope X.env}) (RR acc cenv.locals) s₄) E s₃) E s2:=by
 have hfree:H1 s2.heap.objs.size=none:=I.hok.fresh (jd _);refine tf (Ip ?_);dsimp only;generalize ea:s2.heap.objs.size=a at hfree
 have I3:Inv X pins σ (Pb H1 a (.lst [])) {s2 with heap:=s2.heap.push {cls:=.type "list",dict:=none,data:=.seq ([]:List Fa).toArray},toks:=s2.toks}:=by
  subst ea;exact I.laid (t':=s2.toks) (λb u e=>ja _ e) (jd _) ⟨vh _,[],_,.nil,yc _ rfl⟩
 generalize eS:({s2 with heap:=s2.heap.push {cls:=.type "list",dict:=none,data:=.seq ([]:List Fa).toArray},toks:=s2.toks}:Shared)=s3 at I3;have e3h:s3.heap=s2.heap.push {cls:=.type "list",dict:=none,data:=.seq ([]:List Fa).toArray}:=by rw[<-eS]
 have obj0:=T.obj 0 _ st
 have hf3:∀ b∈fp,Pm X pins (Pb H1 a (.lst [])) b:=λb hb=>by
  obtain⟨o,e,_⟩:=obj0 b hb;have:b≠a:=by rw[<-ea];exact Re (qd e)
  exact⟨by rw[Ha this];exact(hf b hb).1,(hf b hb).2⟩
 have up:∀ b o,s2.heap.get? b=some o->s3.heap.get? b=some o:=λb o e=>by rw[e3h];exact ja _ e
 have hf3':∀ b∈fp,Pm X pins (Pb H1 a (.lst [])) b/\b<s3.heap.objs.size:=λb hb=>⟨hf3 b hb,by
  obtain⟨o,e,_⟩:=obj0 b hb
  exact qd (up b o e)⟩
 have eC:(s2.heap.push {cls:=.type "list",dict:=none,data:=.seq ([]:List Fa).toArray}).objs.size=s3.heap.objs.size:=by rw[e3h]
 generalize eh:qo ((s2.heap.push {cls:=.type "list",dict:=none,data:=.seq ([]:List Fa).toArray}).push {cls:=.type "dict",data:=.dict #[]}) scope.names=h₁
 have hk4:∀ b o,s3.heap.get? b=some o->h₁.get? b=some o:=λb o e=>by
  rw[<-eh,<-e3h];exact jw _ _ _ _ (ja _ e)
 have I4:=VL (tk:=s2.toks) c I3 hf3';have e4:({s3 with heap:=qo (s3.heap.push {cls:=.type "dict",data:=.dict #[]}) scope.names,toks:=s2.toks}:Shared)= {s2 with heap:=h₁}:=by rw[<-eh,<-eS]
 rw[e4]at I4
 obtain⟨W,⟨m0,w0⟩,turn⟩:=h a hfree;obtain⟨hg,htt,hte⟩:=hY s3.heap.objs.size fp pins s3 (Pb H1 a (.lst []))
 have loop:im (pb X.prog X.w) X.A (.compLoop (.ListComp elt [⟨tg,iter,ifs,0⟩] scope pos) 0 (.ref it) (.ref a) (compEnvC scope (CH scope X.env s3.heap.objs.size) s3.heap.objs.size X.env)) (RR (.ref a) s3.heap.objs.size) {s2 with heap:=h₁}:=by
  refine Oy (λn s'=>∃ i xs σ' H',Inv (Yb X scope Nc Nx s3.heap.objs.size fp pins s3 (Pb H1 a (.lst []))) [] σ' H' s'/\tn i s'.heap/\(∀ b∈fp,H' b=none)/\W i n xs σ' H') ?_ m0
   ⟨0,[],_,_,I4,T.keep _ _ _ st λb _ o e=>hk4 b o (up b o e),λb hb=>(hf3 b hb).1,w0⟩
  rintro n s5 ⟨i,xs,σ5,H5,I5,st5,fr5,w5⟩
  have stat:∀ {H':Hp},(∀ b∈fp,H' b=none)->∀ b∈fp,Pm (Yb X scope Nc Nx s3.heap.objs.size fp pins s3 (Pb H1 a (.lst []))) [] H' b:=λ{H'} hn b hb=>by
   obtain⟨_,f1,f2,f3,f4,f5⟩:=hf3 b hb;refine⟨hn b hb,Re (hf3' b hb).2,λz=>?_,.inl hb,λx cc e=>(Cw _ e).elim (λe=>f4 x cc e) λe=>xm (On (hf3' b hb).2 e.1),λp hp=>f5 p ?_⟩
   .rcases zc.mp (I3.stkSub b z) with q|q
    .exact f1 q
    .exact f2 q
   .have z:p∈(X.pn++pins)++ []:=hp
    rwa [bj]at z
  obtain⟨hxs,alt⟩:=turn i n xs σ5 H5 w5;rcases alt with⟨stop,qn⟩|⟨go,step⟩
  .refine af (T.done (Yb X scope Nc Nx s3.heap.objs.size fp pins s3 (Pb H1 a (.lst []))) rfl rfl rfl hcalm i [] s5 σ5 H5 (λ_ _=>False) I5 (stat fr5) st5 stop) (λr s6 ⟨hr,I6⟩=>?_) λ_ _ z=>z;subst hr;exact hRR a H5 σ5 s6 s3 I3 hf3 I6 qn
  .refine af (T.item (Yb X scope Nc Nx s3.heap.objs.size fp pins s3 (Pb H1 a (.lst []))) rfl rfl rfl hcalm i [] s5 σ5 H5 (λ_ _=>False) I5 (stat fr5) st5 go) (λr s6 ⟨u,hr,h6⟩=>?_) λ_ _ z=>z;subst hr;refine af h6 (λ_ s7 ⟨x,H7,I7,r7,y7,st7,fr7⟩=>?_) λ_ _ z=>z;have I7':=I7.pinned (stat fr7) (T.obj _ _ st7)
   have fin:∀ {σ9:L2.St} {H9:Hp} {s9:Shared},Inv (Yb X scope Nc Nx s3.heap.objs.size fp pins s3 (Pb H1 a (.lst []))) ([]++Ft fp s7.heap) σ9 H9 s9->Inv (Yb X scope Nc Nx s3.heap.objs.size fp pins s3 (Pb H1 a (.lst []))) [] σ9 H9 s9/\tn (i+1) s9.heap/\(∀ b∈fp,H9 b=none):=λ{σ9 H9 s9} I9=>by
    refine⟨I9.unpinned,T.keep _ _ _ st7 λb hb o e=>(I9.pin (b,o) (ue _ (ue _ (Gk hb e)))).1,λb hb=>?_⟩;obtain⟨o,e,d⟩:=T.obj _ _ st7 b hb;exact(I9.pin (b,o) (ue _ (ue _ (Gk hb e)))).2.1
   refine af (hg _ s7 σ5 H7 x u _ I7' r7 (step x H7 y7)) (λ_ s8 ⟨σ8,H8,I8,q8⟩=>?_) λ_ _ z=>z;refine af (htt _ s8 σ8 H8 _ I8 q8) (λb s9 ⟨H9,I9,q9⟩=>?_) λ_ _ z=>z;cases b with
   |false=>
    obtain⟨m',hm,w9⟩:=q9;obtain⟨J1,J2,J3⟩:=fin I9;exact⟨m',hm,i+1,xs,σ8,H9,J1,J2,J3,w9⟩
   |true=>
    refine af (hte _ s9 σ8 H9 _ I9 q9) (λy s10 ⟨v,H10,I10,r10,q10⟩=>?_) λ_ _ z=>z;obtain⟨e10,hl10,m',hm,w10⟩:=q10;refine af (Zo (X:=Yb X scope Nc Nx s3.heap.objs.size fp pins s3 (Pb H1 a (.lst []))) _ s10 σ8 H10 (.ref a) [v] (.ref a) [y] (λ_ H'=>H'=Pb H10 a (.lst (xs++ [v]))) I10 rfl (.cons r10 .nil) ⟨a,xs,v,rfl,rfl,e10,hl10,rfl⟩) (λ_ s11 ⟨_,H11,I11,_,q11⟩=>?_) λ_ _ z=>z;subst q11;obtain⟨J1,J2,J3⟩:=fin I11;exact⟨m',hm,i+1,xs++ [v],σ8,_,J1,J2,J3,w10⟩
 have st4:tn 0 h₁:=T.keep _ _ _ st λb _ o e=>hk4 b o (up b o e);rw[e3h]at loop
 subst ea;exact codeAny_compStart_list loop (T.self _ 0 _ _ _ st4 loop)
theorem WU(c:CompOk X scope Nc Nx)(hcalm:X.calm=true)(hi:PI X tg iter wi)(hY:∀ (C:ca) (fp:List ca) (pins:List (ca×ki)) (s:Shared) (H:Hp),PG (Yb X scope Nc Nx C fp pins s H) tg g/\V4 (Yb X scope Nc Nx C fp pins s H) ifs tt/\PE (Yb X scope Nc Nx C fp pins s H) elt te)(hs:∀ x,dg iter X.env x=pure x:=by intro _;rfl):
  PE X (.ListComp elt [⟨tg,iter,ifs,0⟩] scope pos) (FP Nc.length wi g tt te):=by
 intro pins s σ H Q I h;rw[eval_ListComp];refine ku (use:=none) rfl hs (JE (c.cells I.ok)) c.kind c.loc (thn (hi pins s σ H _ I h) λv s1 h1=>thn h1 λitv s2 h2=>?_);obtain⟨it,fp,tn,J,H2,rfl,I2,T,st2,f2,q⟩:=h2;refine Vr (Q:=Q) (RR:=λacc C=>compPost (pb X.prog X.w) X.A X.xe none (EP X pins σ Q) acc C) c hcalm hY I2 T st2 f2 q ?_;intro a H' σ' s' s3 I3 hf3 IY qa;obtain⟨m,hn,_⟩:=IY.loc;exact⟨m,hn,λh' hs'=>⟨.ref a,H',Fz I3 hf3 IY hs',rfl,qa⟩⟩
theorem IV{i:Nat}{y:xa}(c:CompOk X scope Nc Nx)(hcalm:X.calm=true)(hi:PI X tg iter wi)(hY:∀ (C:ca) (fp:List ca) (pins:List (ca×ki)) (s:Shared) (H:Hp),PG (Yb X scope Nc Nx C fp pins s H) tg g/\V4 (Yb X scope Nc Nx C fp pins s H) ifs tt/\PE (Yb X scope Nc Nx C fp pins s H) elt te)(hN:X.N.Nodup)(hiN:X.N[i]? =some y)(hx:Loc X.env.scope y)(hsw:ph (.ListComp elt [⟨tg,iter,ifs,0⟩] scope pos) (some (.Name y py)) spos.line X.env=pure true:=by rfl)(hf:X.fn y=true\/X.env.scope.names.lookup y=some .local:=by first|exact .inl rfl|exact .inr rfl|assumption)(hs:∀ x,dg iter X.env x=pure x:=by intro _;rfl):
  PS X (.Assign [.Name y py] (.ListComp elt [⟨tg,iter,ifs,0⟩] scope pos) spos) (X3 (FP Nc.length wi g tt te) (Az i)):=by
 intro pins s σ H Dn I h;rw[exec_Assign_Name_used _ _ _ _ hsw];refine Da (wpAny_standAt (Da ?_));show wa _ X.A (do let _ <-comprehension (.ListComp elt [⟨tg,iter,ifs,0⟩] scope pos) scope X.env _ (newList []) false (eval iter X.env) (some (mn (.Name y py) X.env))) _ _ s
 refine Da (af (ku (use:=some (mn (.Name y py) X.env)) (Q:=λ_ s'=>SP X pins Dn .next s') rfl hs (JE (c.cells I.ok)) c.kind c.loc
  (thn (hi pins s σ H _ I h) λv s1 h1=>thn h1 λitv s2 h2=>?_)) (λ_ s' hq=>ia (ia hq)) λ_ _ e=>e)
 obtain⟨it,fp,tn,J,H2,rfl,I2,T,st2,f2,q⟩:=h2;refine Vr (Q:=λx H1=>Az i x σ H1 Dn.nx) (RR:=λacc C=>compPost (pb X.prog X.w) X.A X.xe (some (mn (.Name y py) X.env)) (λ_ s'=>SP X pins Dn .next s') acc C) c hcalm hY I2 T st2 f2 q ?_;intro a H' σ' s' s3 I3 hf3 IY qa;obtain⟨m,⟨o,es,ep,ho,hod,hrest⟩,_⟩:=IY.loc;have ho':s'.heap.get? s3.heap.objs.size=some o:=ho;have IX:Inv X pins σ H' s':=Fz I3 hf3 IY (h'':=s'.heap) (dm.refl _ _);have hC0:H' s3.heap.objs.size=none:=IY.free;have ncell:∀ v,o.data≠ .cell v:=λv z=>by rw[hod]at z;cases z
 have hL:s3.heap.objs.size≠X.env.locals:=xm I3.lt
 have IX':Inv X (pins++ [(s3.heap.objs.size,o)]) σ H' s':=IX.pins_of λp hp=>(ag.mp hp).elim (λz=>IX.pin p (ue _ z)) λz=>by
  have e:p=(s3.heap.objs.size,o):=by simpa using z
  subst e;exact⟨ho',hC0,hL,I3.nofs (jd _),ncell⟩
 have hcells:∀ x cc,X.env.cells.lookup x=some cc->cc≠s3.heap.objs.size:=λx cc e z=>by
  obtain⟨v,q⟩:=I3.cell x cc e;exact absurd q.lt (by rw[z];exact oh _)
 show wa _ X.A (mn (.Name y py) X.env (.ref a)) _ _ s';refine wpAny_assign_Name (Jo IX' hN hiN hx (v:=.ref a) rfl (λs5 I5=>?_) hf);have p5:=I5.pin (s3.heap.objs.size,o) (ue _ (ue _ (by simp)));refine⟨m,⟨o,es,ep,p5.1,hod,hrest⟩,λh' hs'=>⟨_,H',?_,qa⟩⟩;have I5':=I5.unpinned;exact I5'.turned (t':=s5.toks) (it:=s3.heap.objs.size) (λb ob hb e=>by rw[hs'.2 b hb];exact e) hC0 hL (.inr I3.sz) hcells λp hp z=>absurd (qd (I3.pin p hp).1) (by rw[z];exact oh _)
end
open SeqAt
mutual
def Tf:D->D->Bool
 | .non,.non=>true
 | .bl a,.bl b=>a==b
 | .int a,.int b=>a==b
 | .str a,.str b=>a==b
 | .bl a,.int b=>(if a then 1 else 0)==b
 | .int a,.bl b=>a==(if b then 1 else 0)
 | .tup a,.tup b=>Yx a b
 | .lst a,.lst b=>Yx a b
 |_,_=>false
def Yx:List D->List D->Bool
 | [],[]=>true
 |a::as,b::bs=>Tf a b&&Yx as bs
 |_,_=>false
end
def Qb:Nat->D->Bool
 |_,.non=>true
 |_,.bl _=>true
 |_,.int _=>true
 |_,.str _=>true
 |n+1,.tup ds=>ds.all (Qb n)
 |n+1,.lst ds=>ds.all (Qb n)
 |_,_=>false
theorem So:∀ (as bs:List D),as.length=bs.length->Yx as bs=(qb as.length).all λj=>Tf (as.getD j .non) (bs.getD j .non)
 | [],[],_=>by simp[Yx]
 |a::as,b::bs,h=>by
  rw[Yx,ba,bw,ls,List.all_map,So as bs (by simpa using h)];rfl
 | [],_::_,h=>by simp at h
 |_::_,[],h=>by simp at h
theorem Gw:∀ (as bs:List D),as.length≠bs.length->Yx as bs=false
 | [],[],h=>absurd rfl h
 |a::as,b::bs,h=>by rw[Yx,Gw as bs (by simpa using h),vp]
 | [],_::_,h=>by simp[Yx]
 |_::_,[],h=>by simp[Yx]
variable{n j:Nat}{its:List Fa}
theorem Has.notup{W:WS}{H:Hp}{K:td}(I:Inv X pins σ H s)(h1:SqL X.K H a xs)(h2:SqT X.K H a ys):False:=by
 obtain⟨its,_,⟨o,n,e,c,_⟩,_⟩:=I.list h1;obtain⟨its',_,⟨o',e',c',_⟩,_⟩:=I.tuple h2;rw[e]at e';cases e'
 rw[c]at c'
 exact absurd c' (by simp)
theorem HasT.ref{x:V}(h:HasT K W H d x)(hs:Qb n d=true):
  (d=.non/\x=.non)\/(∃ b,d=.bl b/\x=.bl b)\/(∃ b,d=.int b/\x=.int b)\/(∃ b,d=.str b/\x=.str b)\/
  (∃ ds a xs m,n=m+1/\d=.tup ds/\x=.ref a/\SqT K H a xs/\HasL K W H ds xs/\∀ y∈ds,Qb m y=true)\/
  (∃ ds a xs m,n=m+1/\d=.lst ds/\x=.ref a/\SqL K H a xs/\HasL K W H ds xs/\∀ y∈ds,Qb m y=true):=by
 cases d with
 |non=>exact .inl ⟨rfl,h.non⟩
 |bl b=>exact .inr (.inl ⟨b,rfl,h.bl⟩)
 |int b=>exact .inr (.inr (.inl ⟨b,rfl,h.int⟩))
 |str b=>exact .inr (.inr (.inr (.inl ⟨b,rfl,h.str⟩)))
 |tup ds=>
  obtain⟨a,xs,e,q,r⟩:=h.tup;cases n with
  |zero=>simp[Qb]at hs
  |succ m=>
   rw[Qb,Uf]at hs
   exact .inr (.inr (.inr (.inr (.inl ⟨ds,a,xs,m,rfl,rfl,e,q,r,hs⟩))))
 |lst ds=>
  obtain⟨a,xs,e,q,r⟩:=h.lst;cases n with
  |zero=>simp[Qb]at hs
  |succ m=>
   rw[Qb,Uf]at hs
   exact .inr (.inr (.inr (.inr (.inr ⟨ds,a,xs,m,rfl,rfl,e,q,r,hs⟩))))
 |dct k ds=>cases n<;>simp[Qb]at hs
 |exc k ds=>cases n<;>simp[Qb]at hs
 |obj c k ds=>cases n<;>simp[Qb]at hs
theorem WK(I:Inv X pins σ H s):∀ (n:Nat) {d e:D} {x:V},HasT X.K W H d x->HasT X.K W H e x->Qb n d=true->Qb n e=true->Tf d e=true:=by
 intro n
 induction n with
 |zero=>
  intro d e x h1 h2 s1 s2;rcases h1.ref s1 with⟨rfl,rfl⟩|⟨b,rfl,rfl⟩|⟨b,rfl,rfl⟩|⟨b,rfl,rfl⟩|⟨_,_,_,m,z,_⟩|⟨_,_,_,m,z,_⟩<;>
  rcases h2.ref s2 with⟨rfl,e2⟩|⟨c,rfl,e2⟩|⟨c,rfl,e2⟩|⟨c,rfl,e2⟩|⟨_,_,_,m',z',_⟩|⟨_,_,_,m',z',_⟩<;>first|(cases z;done)|(cases z';done)|(cases e2;done)|(cases e2;simp[Tf])
 |succ n ih=>
  have lists:∀ {ds es:List D} {xs:List V},HasL X.K W H ds xs->HasL X.K W H es xs->(∀ y∈ds,Qb n y=true)->(∀ y∈es,Qb n y=true)->Yx ds es=true:=by
   intro ds
   induction ds with
   |nil=>
    intro es xs h1 h2 _ _;have e1:=h1.length;have e2:=h2.length;cases es with
    |nil=>simp[Yx]
    |cons=>simp at e1 e2;omega
   |cons d ds ih2=>
    intro es xs h1 h2 g1 g2;rw[HasL]at h1
    obtain⟨x,r,rfl,q,t⟩:=h1;cases es with
    |nil=>rw[HasL]at h2;cases h2
    |cons e es=>
     rw[HasL]at h2
     obtain⟨x',r',ee,q',t'⟩:=h2;cases ee;rw[Yx,ih (.inl q) (.inl q') (g1 d ib) (g2 e ib),ih2 t t' (λy hy=>g1 y (ua _ hy)) λy hy=>g2 y (ua _ hy)];rfl
  intro d e x h1 h2 s1 s2;rcases h1.ref s1 with⟨rfl,rfl⟩|⟨b,rfl,rfl⟩|⟨b,rfl,rfl⟩|⟨b,rfl,rfl⟩|⟨ds,a,xs,m,z,rfl,rfl,q,r,g⟩|⟨ds,a,xs,m,z,rfl,rfl,q,r,g⟩<;>
  rcases h2.ref s2 with⟨rfl,e2⟩|⟨c,rfl,e2⟩|⟨c,rfl,e2⟩|⟨c,rfl,e2⟩|⟨es,a',ys,m',z',rfl,e2,q',r',g'⟩|⟨es,a',ys,m',z',rfl,e2,q',r',g'⟩<;>first|(cases e2;done)|(cases e2;simp[Tf];done)|skip
  .cases e2;cases z;cases z';have:=I.tuple_inj q q';subst this;rw[Tf];exact lists r r' g g'
  .cases e2;exact(Has.notup (K:=X.K) (W:=W) (H:=H) I q' q).elim
  .cases e2;exact(Has.notup (K:=X.K) (W:=W) (H:=H) I q q').elim
  .cases e2;cases z;cases z';have:=I.list_inj q q';subst this;rw[Tf];exact lists r r' g g'
theorem Rq(h:j<ds.length):ds[j]? =some (ds.getD j .non):=by
 rw[ub,oa h];rfl
theorem HG(r:Vals xs its){x:V}(e:xs[j]? =some x)(h:j<its.toArray.size):RelV x its.toArray[j]:=by
 obtain⟨u,h1,h2⟩:=r.get e;have:its.toArray[j]? =some u:=by simpa using h1
 rw[ae h]at this
 cases this;exact h2
theorem items_eqAt(n:Nat)(ih:∀ {d e:D} {x y:V} {v u:Fa},HasT X.K W H d x->HasT X.K W H e y->RelV x v->RelV y u->Qb n d=true->Qb n e=true->EqAt A s v u (Tf d e)){its':List Fa}(r:HasL X.K W H ds xs)(r':HasL X.K W H es ys)(v:Vals xs its)(v':Vals ys its')(g:∀ y∈ds,Qb n y=true)(g':∀ y∈es,Qb n y=true):
  ∀ j (h1:j<its.toArray.size) (h2:j<its'.toArray.size),EqAt A s its.toArray[j] its'.toArray[j] (Tf (ds.getD j .non) (es.getD j .non)):=by
 intro j h1 h2;have l1:j<ds.length:=by rw[r.length,v.length];simpa using h1
 have l2:j<es.length:=by rw[r'.length,v'.length];simpa using h2
 obtain⟨x,e1,q1⟩:=r.get (Rq l1);obtain⟨y,e2,q2⟩:=r'.get (Rq l2);exact ih (.inl q1) (.inl q2) (HG v e1 h1) (HG v' e2 h2) (g _ (qe (Rq l1))) (g' _ (qe (Rq l2)))
theorem HasT.view(I:Inv X pins σ H s){x:V}{v:Fa}(h:HasT X.K W H d x)(rx:RelV x v)(hs:Qb n d=true):
  (d=.non/\v=.none)\/(∃ b,d=.bl b/\v=.bool b)\/(∃ b t,d=.int b/\v=.int b t)\/(∃ b t,d=.str b/\v=.str b t)\/
  (∃ ds a xs its m,n=m+1/\d=.tup ds/\x=.ref a/\v=.ref a/\HasL X.K W H ds xs/\Vals xs its/\s.heap.IsTuple a its.toArray/\∀ y∈ds,Qb m y=true)\/
  (∃ ds a xs its m,n=m+1/\d=.lst ds/\x=.ref a/\v=.ref a/\HasL X.K W H ds xs/\Vals xs its/\s.heap.IsList a its.toArray/\∀ y∈ds,Qb m y=true):=by
 rcases h.ref hs with⟨rfl,rfl⟩|⟨b,rfl,rfl⟩|⟨b,rfl,rfl⟩|⟨b,rfl,rfl⟩|⟨ds,a,xs,m,z,rfl,rfl,q,r,g⟩|⟨ds,a,xs,m,z,rfl,rfl,q,r,g⟩
 .exact .inl ⟨rfl,rx⟩
 .exact .inr (.inl ⟨b,rfl,rx⟩)
 .obtain⟨t,e⟩:=rx;exact .inr (.inr (.inl ⟨b,t,rfl,e⟩))
 .obtain⟨t,e⟩:=rx;exact .inr (.inr (.inr (.inl ⟨b,t,rfl,e⟩)))
 .obtain⟨its,rv,p,_⟩:=I.tuple q;exact .inr (.inr (.inr (.inr (.inl ⟨ds,a,xs,its,m,z,rfl,rfl,rx,r,rv,p,g⟩))))
 .obtain⟨its,rv,p,_⟩:=I.list q;exact .inr (.inr (.inr (.inr (.inr ⟨ds,a,xs,its,m,z,rfl,rfl,rx,r,rv,p.isList,g⟩))))
theorem VB(I:Inv X pins σ H s):∀ (n:Nat) (A:je) {d e:D} {x y:V} {v u:Fa},A.units+n<zr->HasT X.K W H d x->HasT X.K W H e y->RelV x v->RelV y u->Qb n d=true->Qb n e=true->
  EqAt A s v u (Tf d e)/\RcAt A s v u (Tf d e)/\RcNeAt A s v u (!Tf d e):=by
 intro n
 induction n with
 |zero=>
  intro A d e x y v u hu h1 h2 rx ry s1 s2;rcases h1.view I rx s1 with⟨rfl,rfl⟩|⟨b,rfl,rfl⟩|⟨b,t,rfl,rfl⟩|⟨b,t,rfl,rfl⟩|⟨_,_,_,_,m,z,_⟩|⟨_,_,_,_,m,z,_⟩<;>
  rcases h2.view I ry s2 with⟨rfl,rfl⟩|⟨c,rfl,rfl⟩|⟨c,t',rfl,rfl⟩|⟨c,t',rfl,rfl⟩|⟨_,_,_,_,m',z',_⟩|⟨_,_,_,_,m',z',_⟩<;>first|(cases z;done)|(cases z';done)|skip
  .exact⟨EqAt.same _,RcAt.none_none,RcNeAt.none_none⟩
  .exact⟨EqAt.none_bool _,RcAt.none_bool _,RcNeAt.none_bool _⟩
  .exact⟨EqAt.none_int _ _,RcAt.none_int _ _,RcNeAt.none_int _ _⟩
  .exact⟨EqAt.none_str _ _,RcAt.none_str _ _,RcNeAt.none_str _ _⟩
  .exact⟨EqAt.bool_none _,RcAt.bool_none _,RcNeAt.bool_none _⟩
  .exact⟨EqAt.bool_bool _ _,RcAt.bool_bool _ _,RcNeAt.bool_bool _ _⟩
  .exact⟨EqAt.bool_int _ _ _,RcAt.bool_int _ _ _,RcNeAt.bool_int _ _ _⟩
  .exact⟨EqAt.bool_str _ _ _,RcAt.bool_str _ _ _,RcNeAt.bool_str _ _ _⟩
  .exact⟨EqAt.int_none _ _,RcAt.int_none _ _,RcNeAt.int_none _ _⟩
  .exact⟨EqAt.int_bool _ _ _,RcAt.int_bool _ _ _,RcNeAt.int_bool _ _ _⟩
  .exact⟨EqAt.int_int _ _ _ _,RcAt.int_int _ _ _ _,RcNeAt.int_int _ _ _ _⟩
  .exact⟨EqAt.int_str _ _ _ _,RcAt.int_str _ _ _ _,RcNeAt.int_str _ _ _ _⟩
  .exact⟨EqAt.str_none _ _,RcAt.str_none _ _,RcNeAt.str_none _ _⟩
  .exact⟨EqAt.str_bool _ _ _,RcAt.str_bool _ _ _,RcNeAt.str_bool _ _ _⟩
  .exact⟨EqAt.str_int _ _ _ _,RcAt.str_int _ _ _ _,RcNeAt.str_int _ _ _ _⟩
  .exact⟨EqAt.str_str _ _ _ _,RcAt.str_str _ _ _ _,RcNeAt.str_str _ _ _ _⟩
 |succ n ih=>
  intro A d e x y v u hu h1 h2 rx ry s1 s2;have hu0:A.units<zr:=by omega
  have hu1:A.in1.units+n<zr:=by show A.units+1+n<zr;omega
  have same:=λ(ee:x=y)=>WK I (n+1) h1 (ee▸h2) s1 s2;rcases h1.view I rx s1 with⟨rfl,rfl⟩|⟨b,rfl,rfl⟩|⟨b,t,rfl,rfl⟩|⟨b,t,rfl,rfl⟩|⟨ds,a,xs,its,m,z,rfl,rfl,rfl,r,rv,p,g⟩|⟨ds,a,xs,its,m,z,rfl,rfl,rfl,r,rv,p,g⟩<;>
  rcases h2.view I ry s2 with⟨rfl,rfl⟩|⟨c,rfl,rfl⟩|⟨c,t',rfl,rfl⟩|⟨c,t',rfl,rfl⟩|⟨es,a',ys,its',m',z',rfl,rfl,rfl,r',rv',p2,g'⟩|⟨es,a',ys,its',m',z',rfl,rfl,rfl,r',rv',p2,g'⟩
  all_goals first|cases z|skip
  all_goals first|cases z'|skip
  .exact⟨EqAt.same _,RcAt.none_none,RcNeAt.none_none⟩
  .exact⟨EqAt.none_bool _,RcAt.none_bool _,RcNeAt.none_bool _⟩
  .exact⟨EqAt.none_int _ _,RcAt.none_int _ _,RcNeAt.none_int _ _⟩
  .exact⟨EqAt.none_str _ _,RcAt.none_str _ _,RcNeAt.none_str _ _⟩
  .exact⟨EqAt.none_tuple p2 hu0,RcAt.none_tuple p2 hu0,RcNeAt.none_tuple p2 hu0⟩
  .exact⟨EqAt.none_list p2 hu0,RcAt.none_list p2 hu0,RcNeAt.none_list p2 hu0⟩
  .exact⟨EqAt.bool_none _,RcAt.bool_none _,RcNeAt.bool_none _⟩
  .exact⟨EqAt.bool_bool _ _,RcAt.bool_bool _ _,RcNeAt.bool_bool _ _⟩
  .exact⟨EqAt.bool_int _ _ _,RcAt.bool_int _ _ _,RcNeAt.bool_int _ _ _⟩
  .exact⟨EqAt.bool_str _ _ _,RcAt.bool_str _ _ _,RcNeAt.bool_str _ _ _⟩
  .exact⟨EqAt.bool_tuple _ p2 hu0,RcAt.bool_tuple _ p2 hu0,RcNeAt.bool_tuple _ p2 hu0⟩
  .exact⟨EqAt.bool_list _ p2 hu0,RcAt.bool_list _ p2 hu0,RcNeAt.bool_list _ p2 hu0⟩
  .exact⟨EqAt.int_none _ _,RcAt.int_none _ _,RcNeAt.int_none _ _⟩
  .exact⟨EqAt.int_bool _ _ _,RcAt.int_bool _ _ _,RcNeAt.int_bool _ _ _⟩
  .exact⟨EqAt.int_int _ _ _ _,RcAt.int_int _ _ _ _,RcNeAt.int_int _ _ _ _⟩
  .exact⟨EqAt.int_str _ _ _ _,RcAt.int_str _ _ _ _,RcNeAt.int_str _ _ _ _⟩
  .exact⟨EqAt.int_tuple _ _ p2 hu0,RcAt.int_tuple _ _ p2 hu0,RcNeAt.int_tuple _ _ p2 hu0⟩
  .exact⟨EqAt.int_list _ _ p2 hu0,RcAt.int_list _ _ p2 hu0,RcNeAt.int_list _ _ p2 hu0⟩
  .exact⟨EqAt.str_none _ _,RcAt.str_none _ _,RcNeAt.str_none _ _⟩
  .exact⟨EqAt.str_bool _ _ _,RcAt.str_bool _ _ _,RcNeAt.str_bool _ _ _⟩
  .exact⟨EqAt.str_int _ _ _ _,RcAt.str_int _ _ _ _,RcNeAt.str_int _ _ _ _⟩
  .exact⟨EqAt.str_str _ _ _ _,RcAt.str_str _ _ _ _,RcNeAt.str_str _ _ _ _⟩
  .exact⟨EqAt.str_tuple _ _ p2 hu0,RcAt.str_tuple _ _ p2 hu0,RcNeAt.str_tuple _ _ p2 hu0⟩
  .exact⟨EqAt.str_list _ _ p2 hu0,RcAt.str_list _ _ p2 hu0,RcNeAt.str_list _ _ p2 hu0⟩
  .exact⟨EqAt.tuple_none p hu0,RcAt.tuple_none p hu0,RcNeAt.tuple_none p hu0⟩
  .exact⟨EqAt.tuple_bool _ p hu0,RcAt.tuple_bool _ p hu0,RcNeAt.tuple_bool _ p hu0⟩
  .exact⟨EqAt.tuple_int _ _ p hu0,RcAt.tuple_int _ _ p hu0,RcNeAt.tuple_int _ _ p hu0⟩
  .exact⟨EqAt.tuple_str _ _ p hu0,RcAt.tuple_str _ _ p hu0,RcNeAt.tuple_str _ _ p hu0⟩
  .have he:=items_eqAt (A:=A.in1) n (λh1 h2 rx ry s1 s2=>(ih A.in1 hu1 h1 h2 rx ry s1 s2).1) r r' rv rv' g g';have l1:its.toArray.size=ds.length:=by rw[jc,<-rv.length,r.length]
   have l2:its'.toArray.size=es.length:=by rw[jc,<-rv'.length,r'.length]
   have ee:((qb (min its.toArray.size its'.toArray.size)).all (λj=>Tf (ds.getD j .non) (es.getD j .non))&&its.toArray.size==its'.toArray.size)=Tf (.tup ds) (.tup es):=by
    rw[Tf,l1,l2];by_cases hl:ds.length=es.length
    .rw[So ds es hl,<-hl];simp
    .rw[Gw ds es hl];simp[hl]
   have rc:=RcAt.tuples p p2 hu0 he;rw[ee]at rc
   refine⟨?_,rc,?_⟩
   .by_cases ha:a=a'
    .subst ha;rw[same rfl];exact EqAt.same _
    .exact EqAt.of_refs ha rc
   .have rn:=RcNeAt.tuples p p2 hu0 he;rw[ee]at rn
    exact rn
  .exact⟨EqAt.tuple_list p p2 hu0,RcAt.tuple_list p p2 hu0,RcNeAt.tuple_list p p2 hu0⟩
  .exact⟨EqAt.list_none p hu0,RcAt.list_none p hu0,RcNeAt.list_none p hu0⟩
  .exact⟨EqAt.list_bool _ p hu0,RcAt.list_bool _ p hu0,RcNeAt.list_bool _ p hu0⟩
  .exact⟨EqAt.list_int _ _ p hu0,RcAt.list_int _ _ p hu0,RcNeAt.list_int _ _ p hu0⟩
  .exact⟨EqAt.list_str _ _ p hu0,RcAt.list_str _ _ p hu0,RcNeAt.list_str _ _ p hu0⟩
  .exact⟨EqAt.list_tuple p p2 hu0,RcAt.list_tuple p p2 hu0,RcNeAt.list_tuple p p2 hu0⟩
  .have he:=items_eqAt (A:=A.in1) n (λh1 h2 rx ry s1 s2=>(ih A.in1 hu1 h1 h2 rx ry s1 s2).1) r r' rv rv' g g';have l1:its.toArray.size=ds.length:=by rw[jc,<-rv.length,r.length]
   have l2:its'.toArray.size=es.length:=by rw[jc,<-rv'.length,r'.length]
   have both:RcAt A s (.ref a) (.ref a') (Tf (.lst ds) (.lst es))/\RcNeAt A s (.ref a) (.ref a') (!Tf (.lst ds) (.lst es)):=by
    by_cases hl:ds.length=es.length
    .have hsz:its.toArray.size=its'.toArray.size:=by rw[l1,l2,hl]
     have rc:=RcAt.lists p p2 hsz hu0 he;have rn:=RcNeAt.lists p p2 hsz hu0 he;rw[l1,<-So ds es hl]at rc rn
     rw[Tf];exact⟨rc,rn⟩
    .have hsz:(its.toArray.size != its'.toArray.size)=true:=by rw[l1,l2];simpa using hl
     rw[Tf,Gw ds es hl];exact⟨RcAt.lists_lengths p p2 hsz hu0,RcNeAt.lists_lengths p p2 hsz hu0⟩
   refine⟨?_,both⟩;by_cases ha:a=a'
   .subst ha;rw[same rfl];exact EqAt.same _
   .exact EqAt.of_refs ha both.1
theorem RE.int(h:RE K xw W H (.ok (.int i)) Q):Q (.int i) H:=h _ H (Same.refl H) (by rw[Has])
theorem RE.bl{i:Bool}(h:RE K xw W H (.ok (.bl i)) Q):Q (.bl i) H:=h _ H (Same.refl H) (by rw[Has])
theorem RE.str{i:xa}(h:RE K xw W H (.ok (.str i)) Q):Q (.str i) H:=h _ H (Same.refl H) (by rw[Has])
theorem RE.non(h:RE K xw W H (.ok .non) Q):Q .non H:=h _ H (Same.refl H) (by rw[Has])
theorem Ec{o:HO}(h:H a=none):Same H (Pb H a o):=λb u e=>by rw[Ha (Ua e h)];exact e
theorem RE.newT{p:ca}(h:RE K xw W H (.ok (.tup ds)) Q)(w:WL W H)(hp:H p=none)(q:HasL K W H ds xs):Q (.ref p) (Pb H p (.tup xs)):=
 h _ _ (Ec hp) (by rw[Has];exact⟨p,xs,rfl,.of Ta,q.same (Ec hp) w⟩)
theorem JF(w:WL W H)(h:H a=none):¬ W a:=λz=>by
 obtain⟨xs,e,_⟩:=w a z;rw[h]at e;cases e
variable{a b:qc}{es:List qc}{R:V->Hp->Prop}{o:CmpOp}{fa fb f:Ca->Res D}{ga:Ca->Res Bool}{lo hi:Option qc}{fl fh:Ca->Res (Option Int)}{p2:vg}{op:D->D->Res D}
section
variable {fc:Ca->Res D}
theorem DE.p(h:DE X xw e f):DP X xw e f:=PE.weak h λσ H Q ⟨W₀,H₀,W,δ,st,q⟩=>⟨W₀,H₀,W,δ,st,by
 cases hf:f δ with
 |ok d=>rw[hf]at q;exact λv H' k h=>q v H' k (.inl h)
 |ex c fs=>rw[hf]at q;exact q
 |stuck=>rw[hf]at q;exact q⟩
theorem DF.de{f:Ca->Res (List D)}(h:DF X xw e f):DE X xw e (λδ=>(f δ).bind λds=>.ok (.lst ds)):=PE.weak h λσ H Q ⟨W₀,H₀,W,δ,st,q⟩=>⟨W₀,H₀,W,δ,st,by
 dsimp only at q;cases hf:f δ with
 |ok d=>
  rw[hf]at q
  refine λa xs H1 k n r=>q _ _ (k.trans (Ec n)) ?_;have w1:=st.fr.wl.same k;rw[Has];exact⟨a,xs,rfl,.inl ⟨Ta,JF w1 n⟩,r.same (Ec n) w1⟩
 |ex c fs=>rw[hf]at q;exact q
 |stuck=>rw[hf]at q;exact q⟩
def Ea(i:Nat)(δ:Ca):Res D:=match δ[i]? with
 |some (some (.d x))=>.ok x
 |_=>.stuck
def Ga(i:Nat)(δ:Ca):Res D:=match δ[i]? with
 |some (some (.d x))=>.ok x
 |some (some (.o ds))=>.ok (.lst ds)
 |_=>.stuck
theorem CZ(i:Nat)(hN:X.N[i]? =some x:=by rfl)(hv:Wx X.env.scope x:=by first|exact Or.inl rfl|exact Or.inr (Or.inl rfl)|exact Or.inr (Or.inr rfl))(hd:(x==("__debug__":xa))=false:=by decide)(hcd:(x==("__classdict__":xa))=false:=by decide):DE X xw (.Name x pos) (Ea i):=PE.weak (Bi hN hv hd hcd) λσ H Q ⟨W₀,H₀,W,δ,st,q⟩=>by
 unfold Ea at q;split at q
 .rename_i d h;obtain⟨v,e,r⟩:=st.at' i _ h;exact⟨v,e,q v H (Same.refl H) r⟩
 .exact q.elim
theorem HZ(i:Nat)(hN:X.N[i]? =some x:=by rfl)(hv:Wx X.env.scope x:=by first|exact Or.inl rfl|exact Or.inr (Or.inl rfl)|exact Or.inr (Or.inr rfl))(hd:(x==("__debug__":xa))=false:=by decide)(hcd:(x==("__classdict__":xa))=false:=by decide):DP X xw (.Name x pos) (Ga i):=PE.weak (Bi hN hv hd hcd) λσ H Q ⟨W₀,H₀,W,δ,st,q⟩=>by
 unfold Ga at q;split at q
 .rename_i d h;obtain⟨v,e,r⟩:=st.at' i _ h;exact⟨v,e,q v H (Same.refl H) (.inl r)⟩
 .rename_i ds h;obtain⟨v,e,a,xs,r1,r2,r3,r4,r5⟩:=st.at' i _ h;exact⟨v,e,q v H (Same.refl H) (.inr ⟨ds,a,xs,rfl,r1,r4,r5⟩)⟩
 .exact q.elim
theorem RY{j}:DE X xw (.Constant (.int i) j pos) (λ_=>.ok (.int i)):=PE.weak F2 λσ H Q ⟨_,_,_,_,_,q⟩=>q.int
theorem Q5{i:Bool}{j}:DE X xw (.Constant (.bool i) j pos) (λ_=>.ok (.bl i)):=PE.weak S6 λσ H Q ⟨_,_,_,_,_,q⟩=>q.bl
theorem ZY{i:xa}{j}:DE X xw (.Constant (.str i) j pos) (λ_=>.ok (.str i)):=PE.weak M2 λσ H Q ⟨_,_,_,_,_,q⟩=>q.str
theorem XY{j}:DE X xw (.Constant .none j pos) (λ_=>.ok .non):=PE.weak K2 λσ H Q ⟨_,_,_,_,_,q⟩=>q.non
def L8(X:Cx)(xw:XW)(r:R2)(op:D->D->Res D):Prop:=∀ (W:WS) (H:Hp) (d e:D) (v u:V) (Q:VK),WL W H->HasT X.K W H d v->HasT X.K W H e u->RE X.K xw W H (op d e) Q->r v u H Q
theorem Qj{R:V->V->Hp->Prop}(st:StHas X.K W₀ H₀ W H σ δ)(q:RE X.K xw W H ((fa δ).bind λx=>(fb δ).bind λy=>op x y) Q)(h:∀ H2 d e v u,Same H H2->WL W H2->HasT X.K W H2 d v->HasT X.K W H2 e u->fa δ= .ok d->fb δ= .ok e->RE X.K xw W H2 (op d e) Q->R v u H2):
  FQ X.K xw fa σ H λx H1=>FQ X.K xw fb σ H1 λy H2=>R x y H2:=by
 refine⟨W₀,H₀,W,δ,st,?_⟩;cases h1:fa δ with
 |stuck=>rw[h1]at q;exact q
 |ex c fs=>rw[h1]at q;exact q
 |ok d=>
  rw[h1]at q
  intro v H1 k1 hv;refine⟨W₀,H₀,W,δ,st.same k1,?_⟩;have q':RE X.K xw W H ((fb δ).bind λy=>op d y) Q:=q;cases h2:fb δ with
  |stuck=>rw[h2]at q';exact q'
  |ex c fs=>rw[h2]at q';exact λH2 k2=>q' H2 (k1.trans k2)
  |ok e=>
   rw[h2]at q'
   intro u H2 k2 hu;have q2:RE X.K xw W H (op d e) Q:=q';exact h H2 d e v u (k1.trans k2) (st.fr.wl.same (k1.trans k2)) (hv.same k2 (st.fr.wl.same k1)) hu h1 h2 (q2.same (k1.trans k2))
theorem Wm{o:Operator}{r:R2}(ho:OpR X (zj o) r)(hr:L8 X xw r op)(ha:DP X xw a fa)(hb:DP X xw b fb):
  DE X xw (.BinOp a o b pos) (λδ=>(fa δ).bind λx=>(fb δ).bind λy=>op x y):=
 PE.weak (QX ho ha hb) λσ H Q ⟨W₀,H₀,W,δ,st,q⟩=>Qj st q λH2 d e v u k w hv hu _ _ q2=>hr W H2 d e v u Q w hv hu q2
theorem QN:OpR X (zj .Add) (λx y H Q=>∃ a b ys,x=.ref a/\y=.ref b/\SqT X.K H a []/\SqT X.K H b ys/\Q (.ref b) H):=by
 intro pins s σ H x y v u Q I rx ry h;obtain⟨a,b,ys,rfl,rfl,ha,hb,q⟩:=h;cases rx;cases ry;obtain⟨its,r1,p1,_⟩:=I.tuple ha;obtain⟨its2,r2,p2,_⟩:=I.tuple hb;have e0:its= []:=r1.nil_iff.mpr rfl;subst e0;obtain⟨⟨cls,dd,data,sl⟩,ho,hc,n,hd⟩:=id p1;obtain⟨⟨cls2,dd2,data2,sl2⟩,ho2,hc2,n2,hd2⟩:=id p2;simp only at hc hd hc2 hd2;subst hc hd hc2 hd2
 exact concat_meets ⟨_,ho,rfl⟩ ⟨_,ho2,rfl⟩ xu seq_tuple_add jp bo (zm _ _)
   (tuple_addW0 a b _ its2.toArray n n2 dd dd2 sl sl2 (by simp)) ⟨ho,ho2,⟨.ref b,H,I,rfl,q⟩⟩
def Pc:D->D->Res D
 | .int i,.int j=>.ok (.int (i+j))
 | .str x,.str y=>@ite (Res D) (x.length+y.length<=sizeLine) (xc _) (.ok (.str (x++y))) .stuck
 | .tup xs,.tup ys=>@ite (Res D) (xs.length+ys.length<=sizeLine) (xc _) (.ok (.tup (xs++ys))) .stuck
 |_,_=>.stuck
theorem PY(ha:DP X xw a fa)(hb:DP X xw b fb):DE X xw (.BinOp a .Add b pos) (λδ=>(fa δ).bind λx=>(fb δ).bind λy=>Pc x y):=by
 refine Wm ((O1.or CD).or (QN.or NU)) (λW H d e v u Q w hv hu q=>?_) ha hb;unfold Pc at q;split at q
 .exact .inl (.inl ⟨_,_,hv.int,hu.int,q.int⟩)
 .split at q
  .rename_i hz;exact .inl (.inr ⟨_,_,hv.str,hu.str,hz,q.str⟩)
  .exact q.elim
 .rename_i ds es;split at q
  .rename_i hz;obtain⟨a1,xs,e1,s1,r1⟩:=hv.tup;obtain⟨a2,ys,e2,s2,r2⟩:=hu.tup;by_cases hx:xs= []
   .subst hx
    have hd:ds= []:=by
     have:=r1.length;exact si (by simpa using this)
    subst hd;refine .inr (.inl ⟨a1,a2,ys,e1,e2,s1,s2,q _ H (Same.refl H) ?_⟩);rw[Has];exact⟨a2,ys,rfl,s2,r2⟩
   .refine .inr (.inr ⟨a1,a2,xs,ys,e1,e2,s1,s2,hx,by rw[<-r1.length,<-r2.length];exact hz,λhy=>?_,λ_ p hp=>q.newT w hp (r1.append r2)⟩);subst hy
    have he:es= []:=by
     have:=r2.length;exact si (by simpa using this)
    subst he;refine q _ H (Same.refl H) ?_;rw[Has,bj];exact⟨a1,xs,rfl,s1,r1⟩
  .exact q.elim
 .exact q.elim
def Fp:D->D->Res D
 | .int i,.int j=>.ok (.int (i-j))
 |_,_=>.stuck
theorem AZ(ha:DP X xw a fa)(hb:DP X xw b fb):DE X xw (.BinOp a .Sub b pos) (λδ=>(fa δ).bind λx=>(fb δ).bind λy=>Fp x y):=by
 refine Wm Z1 (λW H d e v u Q w hv hu q=>?_) ha hb;unfold Fp at q;split at q
 .exact⟨_,_,hv.int,hu.int,q.int⟩
 .exact q.elim
def Zc:D->D->Res D
 | .int i,.int j=>@ite (Res D) (0<j) (xc _) (.ok (.int (i%j))) .stuck
 |_,_=>.stuck
theorem VY(ha:DP X xw a fa)(hb:DP X xw b fb):DE X xw (.BinOp a .Mod b pos) (λδ=>(fa δ).bind λx=>(fb δ).bind λy=>Zc x y):=by
 refine Wm T1 (λW H d e v u Q w hv hu q=>?_) ha hb;unfold Zc at q;split at q
 .split at q
  .rename_i hj;exact⟨_,_,hv.int,hu.int,hj,q.int⟩
  .exact q.elim
 .exact q.elim
def Kl:D->D->Res D
 | .int i,.int j=>@ite (Res D) (0<j/\j<1073741824) (xc _) (.ok (.int (i / j))) .stuck
 |_,_=>.stuck
theorem FR(ha:DP X xw a fa)(hb:DP X xw b fb):DE X xw (.BinOp a .FloorDiv b pos) (λδ=>(fa δ).bind λx=>(fb δ).bind λy=>Kl x y):=by
 refine Wm OU (λW H d e v u Q w hv hu q=>?_) ha hb;unfold Kl at q;split at q
 .split at q
  .rename_i hj;exact⟨_,_,hv.int,hu.int,hj,q.int⟩
  .exact q.elim
 .exact q.elim
def ZI:D->D->Res D
 | .int i,.int j=>@ite (Res D) (0<=j/\j<=1000/\i.natAbs<2^64) (xc _) (.ok (.int (i^j.toNat))) .stuck
 |_,_=>.stuck
theorem YY(ha:DP X xw a fa)(hb:DP X xw b fb):DE X xw (.BinOp a .Pow b pos) (λδ=>(fa δ).bind λx=>(fb δ).bind λy=>ZI x y):=by
 refine Wm Y1 (λW H d e v u Q w hv hu q=>?_) ha hb;unfold ZI at q;split at q
 .split at q
  .rename_i hj;exact⟨_,_,hv.int,hu.int,⟨hj.1,by omega,hj.2.2⟩,q.int⟩
  .exact q.elim
 .exact q.elim
def L6:D->D->Res D
 | .int i,.int j=>@ite (Res D) ((-(2^64)<i/\i<2^64)\/(-(2^64)<j/\j<2^64)) (xc _) (.ok (.int (i*j))) .stuck
 |_,_=>.stuck
def Sw:D->Res D
 | .int i=>.ok (.int (-i))
 |_=>.stuck
theorem Ai{op:D->Res D}(st:StHas X.K W₀ H₀ W H σ δ)(q:RE X.K xw W H ((fa δ).bind op) Q)(h:∀ H2 d v,Same H H2->WL W H2->StHas X.K W₀ H₀ W H2 σ δ->HasT X.K W H2 d v->fa δ= .ok d->RE X.K xw W H2 (op d) Q->R v H2):
  FQ X.K xw fa σ H λx H1=>R x H1:=by
 refine⟨W₀,H₀,W,δ,st,?_⟩;cases h1:fa δ with
 |stuck=>rw[h1]at q;exact q
 |ex c fs=>rw[h1]at q;exact q
 |ok d=>
  rw[h1]at q
  intro v H1 k1 hv;exact h H1 d v k1 (st.fr.wl.same k1) (st.same k1) hv h1 (RE.same (r:=op d) q k1)
theorem WY(ha:DP X xw a fa):DE X xw (.UnaryOp .USub a pos) (λδ=>(fa δ).bind Sw):=
 PE.weak (T6 L4 ha) λσ H Q ⟨W₀,H₀,W,δ,st,q⟩=>Ai st q λH2 d v k w st2 hv _ q2=>by
  unfold Sw at q2;split at q2
  .exact⟨_,hv.int,q2.int⟩
  .exact q2.elim
def Al(d e:D):Res D:=if(Qb 40 d&&Qb 40 e)=true then .ok (.bl (Tf d e)) else .stuck
def FU(d e:D):Res D:=if(Qb 40 d&&Qb 40 e)=true then .ok (.bl (!Tf d e)) else .stuck
def W0:D->D->Res D
 | .int i,.int j=>.ok (.bl (decide (i<j)))
 |_,_=>.stuck
def ZP:D->D->Res D
 | .int i,.int j=>.ok (.bl (decide (i<=j)))
 |_,_=>.stuck
def JL:D->D->Res D
 | .int i,.int j=>.ok (.bl (decide (j<i)))
 |_,_=>.stuck
def GX:D->D->Res D
 | .int i,.int j=>.ok (.bl (decide (j<=i)))
 |_,_=>.stuck
structure CmpR(X:Cx)(xw:XW)(o:CmpOp)(op:D->D->Res D):Prop where
 ex:∃ r,OpR X (zh o) r/\L8 X xw r op
 bl:∀ d e z,op d e=.ok z->∃ k,z=.bl k
 nm:o≠ .In/\o≠ .NotIn
theorem Q1(hu:X.A.units+40<zr):OpR X (zh .Eq) (λx y H Q=>∃ W d e,HasT X.K W H d x/\HasT X.K W H e y/\Qb 40 d=true/\Qb 40 e=true/\Q (.bl (Tf d e)) H):=by
 intro pins s σ H x y v u Q I rx ry h;obtain⟨W,d,e,h1,h2,s1,s2,q⟩:=h;exact(VB I 40 X.A hu h1 h2 rx ry s1 s2).2.1 _ _ _ _ ⟨.bl _,H,I,rfl,q⟩
theorem V1(hu:X.A.units+40<zr):OpR X (zh .NotEq) (λx y H Q=>∃ W d e,HasT X.K W H d x/\HasT X.K W H e y/\Qb 40 d=true/\Qb 40 e=true/\Q (.bl (!Tf d e)) H):=by
 intro pins s σ H x y v u Q I rx ry h;obtain⟨W,d,e,h1,h2,s1,s2,q⟩:=h;exact(VB I 40 X.A hu h1 h2 rx ry s1 s2).2.2 _ _ _ _ ⟨.bl _,H,I,rfl,q⟩
theorem Um(hu:X.A.units+40<zr):CmpR X xw .Eq Al:=⟨⟨_,Q1 hu,λW H d e v u Q w hv hu q=>by
  unfold Al at q;split at q
  .rename_i hs;rw[ze]at hs
   exact⟨W,d,e,hv,hu,hs.1,hs.2,q.bl⟩
  .exact q.elim⟩,λd e z h=>by unfold Al at h;split at h<;>cases h;exact⟨_,rfl⟩,by decide,by decide⟩
theorem O9(hu:X.A.units+40<zr):CmpR X xw .NotEq FU:=⟨⟨_,V1 hu,λW H d e v u Q w hv hu q=>by
  unfold FU at q;split at q
  .rename_i hs;rw[ze]at hs
   exact⟨W,d,e,hv,hu,hs.1,hs.2,q.bl⟩
  .exact q.elim⟩,λd e z h=>by unfold FU at h;split at h<;>cases h;exact⟨_,rfl⟩,by decide,by decide⟩
theorem N9:CmpR X xw .Lt W0:=⟨⟨_,R6,λW H d e v u Q w hv hu q=>by
  unfold W0 at q;split at q
  .exact⟨_,_,hv.int,hu.int,q.bl⟩
  .exact q.elim⟩,λd e z h=>by unfold W0 at h;split at h<;>cases h;exact⟨_,rfl⟩,by decide,by decide⟩
theorem M9:CmpR X xw .LtE ZP:=⟨⟨_,Q6,λW H d e v u Q w hv hu q=>by
  unfold ZP at q;split at q
  .exact⟨_,_,hv.int,hu.int,q.bl⟩
  .exact q.elim⟩,λd e z h=>by unfold ZP at h;split at h<;>cases h;exact⟨_,rfl⟩,by decide,by decide⟩
theorem UQ:CmpR X xw .Gt JL:=⟨⟨_,P6,λW H d e v u Q w hv hu q=>by
  unfold JL at q;split at q
  .exact⟨_,_,hv.int,hu.int,q.bl⟩
  .exact q.elim⟩,λd e z h=>by unfold JL at h;split at h<;>cases h;exact⟨_,rfl⟩,by decide,by decide⟩
theorem O5:CmpR X xw .GtE GX:=⟨⟨_,O6,λW H d e v u Q w hv hu q=>by
  unfold GX at q;split at q
  .exact⟨_,_,hv.int,hu.int,q.bl⟩
  .exact q.elim⟩,λd e z h=>by unfold GX at h;split at h<;>cases h;exact⟨_,rfl⟩,by decide,by decide⟩
def Yn(d:D):Res D:=match d with
 | .non=>.ok (.bl true)
 |_=>.ok (.bl false)
theorem HasT.isN(h:HasT K W H d v)(hd:d≠ .non):v≠ .non:=by
 rintro rfl;rcases h with h|⟨ds,a,xs,h1,h2,_⟩
 .cases d with
  |non=>exact hd rfl
  |bl b=>rw[Has]at h;cases h
  |int b=>rw[Has]at h;cases h
  |str b=>rw[Has]at h;cases h
  |tup b=>rw[Has]at h;obtain⟨_,_,z,_⟩:=h;cases z
  |lst b=>rw[Has]at h;obtain⟨_,_,z,_⟩:=h;cases z
  |dct k b=>rw[Has]at h;obtain⟨_,_,z,_⟩:=h;cases z
  |exc k b=>rw[Has]at h;obtain⟨_,_,_,z,_⟩:=h;cases z
  |obj c k b=>rw[Has]at h;obtain⟨_,_,_,_,z,_⟩:=h;cases z
 .cases h2
theorem SY{j pos'}(ha:DP X xw a fa):DE X xw (.Compare a [.Is] [.Constant .none j pos'] pos) (λδ=>(fa δ).bind Yn):=
 PE.weak (C2 (SN ha)) λσ H Q ⟨W₀,H₀,W,δ,st,q⟩=>Ai st q λH2 d v k w st2 hv _ q2=>by
  unfold Yn at q2;split at q2
  .rw[hv.non];exact q2.bl
  .rename_i hd;rw[decide_eq_false (hv.isN hd)];exact q2.bl
theorem QY(hc:CmpR X xw o op)(ha:DP X xw a fa)(hb:DP X xw b fb):DE X xw (.Compare a [o] [b] pos) (λδ=>(fa δ).bind λx=>(fb δ).bind λy=>op x y):=by
 obtain⟨⟨r,ho,hr⟩,_,h1,h2⟩:=hc;exact PE.weak (VU ho ha hb (KN b h1 h2)) λσ H Q ⟨W₀,H₀,W,δ,st,q⟩=>Qj st q λH2 d e v u k w hv hu _ _ q2=>hr W H2 d e v u Q w hv hu q2
def Pp:D->Res Bool
 | .bl k=>.ok k
 |_=>.stuck
theorem DE.t_of(ht:PT X e (tB (DQ X.K xw f))):DT X xw e (λδ=>(f δ).bind Pp):=PT.weak ht λσ H Q ⟨W₀,H₀,W,δ,st,q⟩=>by
 dsimp only at q;refine⟨W₀,H₀,W,δ,st,?_⟩;cases h1:f δ with
 |stuck=>rw[h1]at q;exact q
 |ex c fs=>rw[h1]at q;exact q
 |ok d=>
  rw[h1]at q
  intro v H1 k1 hv;have q':RT xw H (Pp d) Q:=q;unfold Pp at q';split at q'
  .rw[Has]at hv
   exact⟨_,hv,q' H1 k1⟩
  .exact q'.elim
theorem DE.t(h:DE X xw e f)(he:∀ whole,isTrue e X.env whole=(do let v <-whole;standAt e.pos;yo [v] (truthy v)):=by intro _;rfl):DT X xw e (λδ=>(f δ).bind Pp):=DE.t_of (X2 h he)
theorem OZ(hc:CmpR X xw o op)(ha:DP X xw a fa)(hb:DP X xw b fb):DT X xw (.Compare a [o] [b] pos) (λδ=>((fa δ).bind λx=>(fb δ).bind λy=>op x y).bind Pp):=by
 obtain⟨⟨r,ho,hr⟩,_,h1,h2⟩:=hc;refine DE.t_of (f:=λδ=>(fa δ).bind λx=>(fb δ).bind λy=>op x y) (PT.weak (Eo ho ha hb (KN b h1 h2)) λσ H Q q=>?_);obtain⟨W₀,H₀,W,δ,st,q⟩:=q;exact Qj st q λH2 d e v u k w hv hu _ _ q2=>hr W H2 d e v u _ w hv hu q2
theorem PZ{j pos'}(ha:DP X xw a fa):DT X xw (.Compare a [.Is] [.Constant .none j pos'] pos) (λδ=>((fa δ).bind Yn).bind Pp):=
 DE.t_of (f:=λδ=>(fa δ).bind Yn) (PT.weak (EO (SN ha)) λσ H Q q=>by
  obtain⟨W₀,H₀,W,δ,st,q⟩:=q
  exact Ai st q λH2 d v k w st2 hv _ q2=>by
   unfold Yn at q2;split at q2
   .rw[hv.non];exact q2.bl
   .rename_i hd
    rw[decide_eq_false (hv.isN hd)];exact q2.bl)
theorem DW.t{g:Ca->Res Bool}(h:DW X xw e g):DT X xw e g:=PW.pt h
def Tr(op op':D->D->Res D)(x y:D)(z:Res D):Res D:=(op x y).bind λk=>match k with
 | .bl true=>z.bind λw=>op' y w
 | .bl false=>.ok (.bl false)
 |_=>.stuck
def JY(x:Res Bool)(y:Res Bool):Res Bool:=x.bind λk=>if k=true then y else .ok false
def R8(x:Res Bool)(y:Res Bool):Res Bool:=x.bind λk=>if k=true then .ok true else y
variable {gb:Ca->Res Bool}{rest:List qc}
theorem Gp{k:Bool->Res Bool}{Q:Bool->Hp->Prop}{R:Bool->Hp->Prop}(st:StHas X.K W₀ H₀ W H σ δ)(q:RT xw H ((ga δ).bind k) Q)(h:∀ H2 c,Same H H2->StHas X.K W₀ H₀ W H2 σ δ->ga δ= .ok c->RT xw H2 (k c) Q->R c H2):Y3 X.K xw ga σ H R:=by
 refine⟨W₀,H₀,W,δ,st,?_⟩;cases h1:ga δ with
 |stuck=>rw[h1]at q;exact q
 |ex c fs=>rw[h1]at q;exact q
 |ok c=>
  rw[h1]at q
  exact λH1 k1=>h H1 c k1 (st.same k1) h1 (RT.same (r:=k c) q k1)
theorem ES(ha:DT X xw a ga):DW X xw (.BoolOp .And [a] pos) ga:=OV ha
theorem UZ(ha:DT X xw a ga):DW X xw (.BoolOp .Or [a] pos) ga:=A3 ha
theorem TZ(ha:DT X xw a ga)(hb:DW X xw (.BoolOp .And (b::rest) pos) gb):DW X xw (.BoolOp .And (a::b::rest) pos) (λδ=>JY (ga δ) (gb δ)):=
 PW.weak (Z2 ha hb) λσ H Q ⟨W₀,H₀,W,δ,st,q⟩=>Gp st q λH2 c k st2 _ q2=>by
  cases c with
  |true=>rw[if_pos rfl]at q2 ⊢;exact⟨W₀,H₀,W,δ,st2,q2⟩
  |false=>rw[if_neg Db]at q2 ⊢;exact q2 H2 (Same.refl _)
theorem V5(ha:DT X xw a ga)(hb:DW X xw (.BoolOp .Or (b::rest) pos) gb):DW X xw (.BoolOp .Or (a::b::rest) pos) (λδ=>R8 (ga δ) (gb δ)):=
 PW.weak (V6 ha hb) λσ H Q ⟨W₀,H₀,W,δ,st,q⟩=>Gp st q λH2 c k st2 _ q2=>by
  cases c with
  |true=>rw[if_pos rfl]at q2 ⊢;exact q2 H2 (Same.refl _)
  |false=>rw[if_neg Db]at q2 ⊢;exact⟨W₀,H₀,W,δ,st2,q2⟩
theorem QZ(ha:DT X xw a ga):DT X xw (.UnaryOp .Not a pos) (λδ=>(ga δ).bind λk=>.ok (!k)):=
 PT.weak (V2 ha) λσ H Q ⟨W₀,H₀,W,δ,st,q⟩=>Gp st q λH2 c k st2 _ q2=>q2 H2 (Same.refl _)
def N5(x:Res D)(y:Res D):Res D:=x.bind λk=>match k with
 | .bl true=>y
 | .bl false=>.ok (.bl false)
 |_=>.stuck
def orD(x:Res D)(y:Res D):Res D:=x.bind λk=>match k with
 | .bl true=>.ok (.bl true)
 | .bl false=>y
 |_=>.stuck
def Y9:D->Res D
 | .bl k=>.ok (.bl (!k))
 |_=>.stuck
theorem MI{op:D->Res D}(st:StHas X.K W₀ H₀ W H σ δ)(q:RE X.K xw W H ((fa δ).bind op) Q)(h:∀ H2 d v,Same H H2->WL W H2->StHas X.K W₀ H₀ W H2 σ δ->Has X.K W H2 d v->fa δ= .ok d->RE X.K xw W H2 (op d) Q->R v H2):
  DQ X.K xw fa σ H λx H1=>R x H1:=by
 refine⟨W₀,H₀,W,δ,st,?_⟩;cases h1:fa δ with
 |stuck=>rw[h1]at q;exact q
 |ex c fs=>rw[h1]at q;exact q
 |ok d=>
  rw[h1]at q
  intro v H1 k1 hv;exact h H1 d v k1 (st.fr.wl.same k1) (st.same k1) hv h1 (RE.same (r:=op d) q k1)
variable {fs:Ca->Res (List D)}
theorem NY:DA X xw [] (λ_=>.ok []):=PA.weak Hk λσ H Q ⟨W₀,H₀,W,δ,st,q⟩=>q [] H (Same.refl H) HasL.nil
def QE(x:Res D)(r:Res (List D)):Res (List D):=x.bind λd=>r.bind λds=>.ok (d::ds)
theorem AR(ha:DE X xw a fa)(hr:DA X xw es fs)(hs:aa (a::es) X.env=(false,eval a X.env)::aa es X.env:=by rfl):DA X xw (a::es) (λδ=>QE (fa δ) (fs δ)):=
 PA.weak (Xe ha hr hs) λσ H Q ⟨W₀,H₀,W,δ,st,q⟩=>by
  refine⟨W₀,H₀,W,δ,st,?_⟩;unfold QE at q;dsimp only at q;cases h1:fa δ with
  |stuck=>rw[h1]at q;exact q
  |ex c fs=>rw[h1]at q;exact q
  |ok d=>
   rw[h1]at q
   intro v H1 k1 hv;refine⟨W₀,H₀,W,δ,st.same k1,?_⟩;have q':RA X.K xw W H ((fs δ).bind λds=>.ok (d::ds)) Q:=q;cases h2:fs δ with
   |stuck=>rw[h2]at q';exact q'
   |ex c gs=>rw[h2]at q';exact λH2 k2=>q' H2 (k1.trans k2)
   |ok ds=>
    rw[h2]at q'
    intro vs H2 k2 hvs;have q2:RA X.K xw W H (.ok (d::ds)) Q:=q';exact q2 (v::vs) H2 (k1.trans k2) (HasL.cons (hv.same k2 (st.fr.wl.same k1)) hvs)
theorem Yl{op:List D->Res D}{R:List V->Hp->Prop}(st:StHas X.K W₀ H₀ W H σ δ)(q:RE X.K xw W H ((fs δ).bind op) Q)(h:∀ H2 ds vs,Same H H2->WL W H2->StHas X.K W₀ H₀ W H2 σ δ->HasL X.K W H2 ds vs->fs δ= .ok ds->RE X.K xw W H2 (op ds) Q->R vs H2):
  tDA X.K xw fs σ H λx H1=>R x H1:=by
 refine⟨W₀,H₀,W,δ,st,?_⟩;cases h1:fs δ with
 |stuck=>rw[h1]at q;exact q
 |ex c gs=>rw[h1]at q;exact q
 |ok d=>
  rw[h1]at q
  intro v H1 k1 hv;exact h H1 d v k1 (st.fr.wl.same k1) (st.same k1) hv h1 (RE.same (r:=op d) q k1)
def Ef(ds:List D):Res D:=@ite (Res D) (ds.length<=1000) (xc _) (.ok (.tup ds)) .stuck
theorem Jz:(1000:Nat)<=sizeLine:=by rw[se];decide
theorem BZ{x1}(h:DA X xw es fs):DE X xw (.Tuple es x1 pos) (λδ=>(fs δ).bind Ef):=
 PE.weak (VN h) λσ H Q ⟨W₀,H₀,W,δ,st,q⟩=>Yl st q λH2 ds vs k w st2 hv _ q2=>by
  unfold Ef at q2;split at q2
  .rename_i hz;exact⟨by rw[<-hv.length];exact uf hz Jz,λp hp=>q2.newT w hp hv⟩
  .exact q2.elim
def Me(ds:List D):Res (List D):=@ite (Res (List D)) (ds.length<=1000) (xc _) (.ok ds) .stuck
theorem DZ(h:DA X xw es fs):DF X xw (.List es pos) (λδ=>(fs δ).bind Me):=
 PE.weak (G2 h) λσ H Q ⟨W₀,H₀,W,δ,st,q⟩=>by
  dsimp only at q;refine⟨W₀,H₀,W,δ,st,?_⟩;cases h1:fs δ with
  |stuck=>rw[h1]at q;exact q
  |ex c gs=>rw[h1]at q;exact q
  |ok ds=>
   rw[h1]at q
   intro vs H1 k1 hv;have q':RF X.K xw W H (Me ds) Q:=q;unfold Me at q';split at q'
   .rename_i hz;exact⟨by rw[<-hv.length];exact uf hz Jz,λp hp=>q' p vs H1 k1 hp hv⟩
   .exact q'.elim
def Qe:D->D->Res D
 | .tup ds,.int i=>match Ir ds i with
  |some d=>.ok d
  |none=>.stuck
 | .lst ds,.int i=>match Ir ds i with
  |some d=>.ok d
  |none=>.stuck
 | .str z,.int i=>@ite (Res D) (z.length<=sizeLine) (xc _) (match Ir z.cps.toList i with
  |some c=>.ok (.str ⟨#[c]⟩)
  |none=>.stuck) .stuck
 |_,_=>.stuck
theorem HE(r:HasL K W H ds xs)(h:Ir ds i=some d):∃ x,Ir xs i=some x/\Has K W H d x:=by
 unfold Ir at h ⊢;rw[r.length]at h
 cases e:JT xs.length i with
 |none=>rw[e]at h;cases h
 |some j=>
  rw[e]at h
  obtain⟨x,h1,h2⟩:=r.get (show ds[j]? =some d from h);exact⟨x,h1,h2⟩
theorem R5(ha:DP X xw a fa)(hb:DP X xw b fb)(hs:Xl b:=by intro _ _;rfl):DE X xw (.Subscript a b pos) (λδ=>(fa δ).bind λx=>(fb δ).bind λy=>Qe x y):=
 PE.weak (PX K0 ha hb hs) λσ H Q ⟨W₀,H₀,W,δ,st,q⟩=>Qj st q λH2 d e v u k w hv hu _ _ q2=>by
  unfold Qe at q2;split at q2
  .split at q2
   .rename_i d' hd;obtain⟨p,xs,e1,sq,r⟩:=hv.tup;obtain⟨x,h1,h2⟩:=HE r hd;exact .inr (.inl ⟨p,xs,_,x,e1,hu.int,sq,h1,q2 x H2 (Same.refl _) h2⟩)
   .exact q2.elim
  .split at q2
   .rename_i d' hd;obtain⟨p,xs,e1,sq,r⟩:=hv.lst;obtain⟨x,h1,h2⟩:=HE r hd;exact .inl ⟨p,xs,_,x,e1,hu.int,sq,h1,q2 x H2 (Same.refl _) h2⟩
   .exact q2.elim
  .split at q2
   .rename_i hz;split at q2
    .rename_i cc hc;exact .inr (.inr ⟨_,_,cc,hv.str,hu.int,hz,hc,q2.str⟩)
    .exact q2.elim
   .exact q2.elim
  .exact q2.elim
def DO(X:Cx)(xw:XW)(e:Option qc)(f:Ca->Res (Option Int)):Prop:=PO X e (λσ H Q=>∃ W₀ H₀ W δ,StHas X.K W₀ H₀ W H σ δ/\match f δ with
 | .ok o=>∀ H',Same H H'->Q o H'
 | .ex c fs=>∀ H',Same H H'->xw c fs H'
 | .stuck=>False)
theorem PO.weak{X:Cx}{e:Option qc}{t t':TO}(h:PO X e t)(k:∀ σ H Q,t' σ H Q->t σ H Q):PO X e t':=λpins s σ H Q I q=>h pins s σ H Q I (k σ H Q q)
theorem QR:DO X xw none (λ_=>.ok none):=PO.weak GV λσ H Q ⟨_,_,_,_,_,q⟩=>q H (Same.refl H)
def Bo:D->Res (Option Int)
 | .int i=>.ok (some i)
 |_=>.stuck
theorem SR(h:DE X xw e f):DO X xw (some e) (λδ=>(f δ).bind Bo):=PO.weak (HV h) λσ H Q ⟨W₀,H₀,W,δ,st,q⟩=>by
 dsimp only at q;refine⟨W₀,H₀,W,δ,st,?_⟩;cases h1:f δ with
 |stuck=>rw[h1]at q;exact q
 |ex c fs=>rw[h1]at q;exact q
 |ok d=>
  rw[h1]at q
  intro v H1 k1 hv;cases d with
  |int i=>rw[Has]at hv;exact⟨i,hv,q H1 k1⟩
  |_=>exact q.elim
def cutD(xs:List D)(lo hi:Option Int):List D:=(xs.drop (HT.sIx xs.length 0 lo)).take (HT.sIx xs.length xs.length hi-HT.sIx xs.length 0 lo)
theorem Ew(r:HasL K W H ds xs)(lo hi:Option Int):HasL K W H (cutD ds lo hi) (Qy xs lo hi):=by
 unfold cutD Qy;rw[r.length];exact(r.drop _).take _
def whole(n:Nat)(lo hi:Option Int):Prop:=HT.sIx n 0 lo=0/\HT.sIx n n hi=n
instance {n:Nat}{lo hi:Option Int}:Decidable (whole n lo hi):=inferInstanceAs (Decidable (_/\_))
theorem Px{op:D->Option Int->Option Int->Res α}{R:V->Option Int->Option Int->Hp->Prop}{G:Hp->Res α->Prop}(st:StHas X.K W₀ H₀ W H σ δ)(hex:∀ H c gs,G H (.ex c gs)->∀ H',Same H H'->xw c gs H')(hst:∀ H,G H .stuck->False)(hG:∀ H H' r,Same H H'->G H r->G H' r)(q:G H ((fa δ).bind λx=>(fl δ).bind λl=>(fh δ).bind λu=>op x l u))(h:∀ H2 d v l u,Same H H2->WL W H2->HasT X.K W H2 d v->G H2 (op d l u)->R v l u H2):
  FQ X.K xw fa σ H λx H1=>(λσ H Q=>∃ W₀ H₀ W δ,StHas X.K W₀ H₀ W H σ δ/\match fl δ with
 | .ok o=>∀ H',Same H H'->Q o H'
 | .ex c fs=>∀ H',Same H H'->xw c fs H'
 | .stuck=>False:TO) σ H1 λl H2=>(λσ H Q=>∃ W₀ H₀ W δ,StHas X.K W₀ H₀ W H σ δ/\match fh δ with
 | .ok o=>∀ H',Same H H'->Q o H'
 | .ex c fs=>∀ H',Same H H'->xw c fs H'
 | .stuck=>False:TO) σ H2 λu H3=>R x l u H3:=by
 refine⟨W₀,H₀,W,δ,st,?_⟩;cases h1:fa δ with
 |stuck=>rw[h1]at q;exact hst _ q
 |ex c fs=>rw[h1]at q;exact hex _ _ _ q
 |ok d=>
  rw[h1]at q
  intro v H1 k1 hv;refine⟨W₀,H₀,W,δ,st.same k1,?_⟩;have q':G H ((fl δ).bind λl=>(fh δ).bind λu=>op d l u):=q;cases h2:fl δ with
  |stuck=>rw[h2]at q';exact hst _ q'
  |ex c fs=>rw[h2]at q';exact λH2 k2=>hex _ _ _ q' H2 (k1.trans k2)
  |ok l=>
   rw[h2]at q'
   intro H2 k2;refine⟨W₀,H₀,W,δ,(st.same k1).same k2,?_⟩;have q2:G H ((fh δ).bind λu=>op d l u):=q';cases h3:fh δ with
   |stuck=>rw[h3]at q2;exact hst _ q2
   |ex c fs=>rw[h3]at q2;exact λH3 k3=>hex _ _ _ q2 H3 ((k1.trans k2).trans k3)
   |ok u=>
    rw[h3]at q2
    intro H3 k3;have w1:=st.fr.wl.same k1;exact h H3 d v l u ((k1.trans k2).trans k3) (st.fr.wl.same ((k1.trans k2).trans k3)) (hv.same (k2.trans k3) w1) (hG _ _ _ ((k1.trans k2).trans k3) q2)
def X4(d:D)(lo hi:Option Int):Res (List D):=match d with
 | .lst ds=>.ok (cutD ds lo hi)
 |_=>.stuck
theorem EZ(ha:DP X xw a fa)(hl:DO X xw lo fl)(hh:DO X xw hi fh):DF X xw (.Subscript a (.Slice lo hi none p2) pos) (λδ=>(fa δ).bind λx=>(fl δ).bind λl=>(fh δ).bind λu=>X4 x l u):=
 PE.weak (IA BG ha hl hh) λσ H Q ⟨W₀,H₀,W,δ,st,q⟩=>Px (G:=λH r=>RF X.K xw W H r Q) st (λ_ _ _ q=>q) (λ_ q=>q) (λ_ _ _ k q=>RF.same q k) q λH2 d v l u k w hv q2=>by
  unfold X4 at q2;split at q2
  .obtain⟨a1,xs,e1,sq,r⟩:=hv.lst;exact⟨a1,xs,e1,sq,λp hp=>q2 p _ H2 (Same.refl _) hp (Ew r l u)⟩
  .exact q2.elim
end
inductive Out where
 |nx (δ:Ca)|rt (d:D)|bk (δ:Ca)|ct (δ:Ca)|ex (c:xa) (fs:List D)|stuck
structure Step(W:WS)(H:Hp)(W':WS)(H':Hp):Prop where
 keep:Pg W H H'
 new:∀ b,W' b->W b\/H b=none
variable{W1:WS}{H2:Hp}
section
variable {W2:WS}
theorem Step.refl:Step W H W H:=⟨λ_ _ e _=>e,λ_ z=>.inl z⟩
theorem Step.same(k:Same H H1):Step W H W H1:=⟨Same.keep k,λ_ z=>.inl z⟩
theorem Step.trans(a:Step W H W1 H1)(b:Step W1 H1 W2 H2):Step W H W2 H2:=by
 refine⟨λc o e n=>b.keep c o (a.keep c o e n) λz=>?_,λc z=>?_⟩
 .rcases a.new c z with q|q
  .exact n q
  .rw[e]at q;cases q
 .rcases b.new c z with q|q
  .exact a.new c q
  .by_cases hw:W c
   .exact .inl hw
   .right;cases e:H c with
    |none=>rfl
    |some o=>rw[a.keep c o e hw]at q;cases q
end
section
variable (K:td)(xw:XW)
def RS(W₀:WS)(H₀:Hp)(W:WS)(H:Hp)(o:Out)(Dn:Ends):Prop:=match o with
 | .nx δ=>∀ W' H' σ,Step W H W' H'->StHas K W₀ H₀ W' H' σ δ->Dn.nx σ H'
 | .bk δ=>∀ W' H' σ,Step W H W' H'->StHas K W₀ H₀ W' H' σ δ->Dn.bk σ H'
 | .ct δ=>∀ W' H' σ,Step W H W' H'->StHas K W₀ H₀ W' H' σ δ->Dn.ct σ H'
 | .rt d=>∀ v H',Same H₀ H'->Has K W₀ H' d v->Dn.rt v H'
 | .ex c fs=>∀ H',Same H₀ H'->xw c fs H'
 | .stuck=>False
def GQ(g:Ca->Out):TS:=λDn σ H=>∃ W₀ H₀ W δ,StHas K W₀ H₀ W H σ δ/\RS K xw W₀ H₀ W H (g δ) Dn
end
def DS(X:Cx)(xw:XW)(st:sf)(g:Ca->Out):Prop:=PS X st (GQ X.K xw g)
def RJ(X:Cx)(xw:XW)(sts:List sf)(g:Ca->Out):Prop:=PSs X sts (GQ X.K xw g)
variable{t':TS}{st:sf}
theorem PS.weak{t:TS}(h:PS X st t)(k:∀ Dn σ H,t' Dn σ H->t Dn σ H):PS X st t':=λpins s σ H Dn I q=>h pins s σ H Dn I (k Dn σ H q)
theorem PSs.weak{st:List sf}{t:TS}(h:PSs X st t)(k:∀ Dn σ H,t' Dn σ H->t Dn σ H):PSs X st t':=λpins s σ H Dn I q=>h pins s σ H Dn I (k Dn σ H q)
variable{Dn:Ends}
section
variable {o:Out}
theorem RS.step(h:RS K xw W₀ H₀ W H o Dn)(k:Step W H W1 H1):RS K xw W₀ H₀ W1 H1 o Dn:=by
 cases o with
 |nx δ=>exact λW' H' σ k' st=>h W' H' σ (k.trans k') st
 |bk δ=>exact λW' H' σ k' st=>h W' H' σ (k.trans k') st
 |ct δ=>exact λW' H' σ k' st=>h W' H' σ (k.trans k') st
 |rt d=>exact h
 |ex c fs=>exact h
 |stuck=>exact h
end
def Kj(r:Res α)(k:α->Out):Out:=match r with
 | .ok a=>k a
 | .ex c fs=>.ex c fs
 | .stuck=>.stuck
def Em(o:Out)(g:Ca->Out):Out:=match o with
 | .nx δ=>g δ
 |o=>o
variable{vs:List V}{k:Nat}{g:Ca->Out}{pos':vg}{ff fi:Ca->Res (List D)}
section
variable {sts:List sf}{g1 g2:Ca->Out}
theorem YR:RJ X xw [] .nx:=PSs.weak Jx λDn σ H ⟨W₀,H₀,W,δ,st,q⟩=>q W H σ Step.refl st
theorem TK(h1:DS X xw st g1)(h2:RJ X xw sts g2):RJ X xw (st::sts) (λδ=>Em (g1 δ) g2):=PSs.weak (Co h1 h2) λDn σ H ⟨W₀,H₀,W,δ,st,q⟩=>by
 refine⟨W₀,H₀,W,δ,st,?_⟩;dsimp only at q;cases h:g1 δ with
 |nx δ'=>
  rw[h]at q
  exact λW' H' σ' k st'=>⟨W₀,H₀,W',δ',st',RS.step (o:=g2 δ') q k⟩
 |bk δ'=>rw[h]at q;exact q
 |ct δ'=>rw[h]at q;exact q
 |rt d=>rw[h]at q;exact q
 |ex c fs=>rw[h]at q;exact q
 |stuck=>rw[h]at q;exact q
theorem ZR(h1:DS X xw st g1):RJ X xw [st] g1:=Ar h1
theorem Rj{k:D->Out}(st:StHas X.K W₀ H₀ W H σ δ)(q:RS X.K xw W₀ H₀ W H (Kj (f δ) k) Dn)(h:∀ H2 d v,StHas X.K W₀ H₀ W H2 σ δ->Has X.K W H2 d v->RS X.K xw W₀ H₀ W H2 (k d) Dn->R v H2):DQ X.K xw f σ H R:=by
 refine⟨W₀,H₀,W,δ,st,?_⟩;cases h1:f δ with
 |stuck=>rw[h1]at q;exact q
 |ex c fs=>rw[h1]at q;exact λH' k'=>q H' (st.fr.ext.trans k')
 |ok d=>
  rw[h1]at q
  exact λv H1 k1 hv=>h H1 d v (st.same k1) hv (RS.step (o:=k d) q (Step.same k1))
theorem MZ(he:DE X xw e f):DS X xw (.Return (some e) pos) (λδ=>Kj (f δ) λd=>.rt d):=PS.weak (Cp he) λDn σ H ⟨W₀,H₀,W,δ,st,q⟩=>
 Rj st q λH2 d v st2 hv q2=>q2 v H2 st2.fr.ext (Has.keep (λ_ _ e _=>e) st2.fr.wl (λb z=>.inl (st2.fr.sub b z)) hv)
theorem XR(i:Nat)(hN:X.N[i]? =some x:=by rfl)(hv:Wx X.env.scope x:=by first|exact Or.inl rfl|exact Or.inr (Or.inl rfl)|exact Or.inr (Or.inr rfl))(hd:(x==("__debug__":xa))=false:=by decide)(hcd:(x==("__classdict__":xa))=false:=by decide):DS X xw (.Return (some (.Name x pos')) pos) (λδ=>Kj (Ga i δ) λd=>.rt d):=PS.weak (Cp (Bi hN hv hd hcd)) λDn σ H ⟨W₀,H₀,W,δ,st,q⟩=>by
 have up:∀ b,W₀ b->W b\/H b=none:=λb z=>.inl (st.fr.sub b z);unfold Ga at q;dsimp only at q;split at q
 .rename_i d h;obtain⟨v,e,r⟩:=st.at' i _ h;exact⟨v,e,q v H st.fr.ext (Has.keep (λ_ _ e _=>e) st.fr.wl up r)⟩
 .rename_i ds h;obtain⟨v,e,a,xs,r1,r2,r3,r4,r5⟩:=st.at' i _ h;refine⟨v,e,q v H st.fr.ext ?_⟩;rw[Has];refine⟨a,xs,r1,.inl ⟨r4,λz=>?_⟩,HasL.keep (λ_ _ e _=>e) st.fr.wl up r5⟩;obtain⟨ys,z',_⟩:=st.fr.wl0 a z;rw[r3]at z';cases z'
 .exact q.elim
theorem NZ(i:Nat)(hN:X.N.Nodup)(he:DE X xw e f)(hi:X.N[i]? =some x:=by rfl)(hx:Loc X.env.scope x:=by first|exact Or.inl rfl|exact Or.inr rfl)(hs:ph e (some (.Name x pos')) pos.line X.env=pure false:=by rfl)(hf:X.fn x=true\/X.env.scope.names.lookup x=some .local:=by first|exact .inl rfl|exact .inr rfl|assumption):DS X xw (.Assign [.Name x pos'] e pos) (λδ=>Kj (f δ) λd=>.nx (δ.set i (some (.d d)))):=
 PS.weak (Ht hN hi hx he hs hf) λDn σ H ⟨W₀,H₀,W,δ,st,q⟩=>Rj st q λH2 d v st2 hv q2=>q2 W H2 _ Step.refl (st2.set hv)
theorem Sz{i:Nat}(st:StHas X.K W₀ H₀ W H σ δ)(q:RS X.K xw W₀ H₀ W H (Kj (ff δ) λds=>.nx (δ.set i (some (.o ds)))) Dn):
  tDF X.K xw ff σ H λx H1=>Az i x σ H1 Dn.nx:=by
 refine⟨W₀,H₀,W,δ,st,?_⟩;cases h1:ff δ with
 |stuck=>rw[h1]at q;exact q
 |ex c fs=>rw[h1]at q;exact λH' k'=>q H' (st.fr.ext.trans k')
 |ok ds=>
  rw[h1]at q
  intro a xs H1 k n r;have st1:=(st.same k).own (i:=i) n r;refine q _ _ _ ⟨λb o e nb=>?_,λb z=>z.elim .inl λz=>.inr (by rw[z];exact Same.free k n)⟩ st1;rw[Ha (Ua (k b o e) n)];exact k b o e
theorem LZ(i:Nat)(hN:X.N.Nodup)(he:DF X xw e ff)(hi:X.N[i]? =some x:=by rfl)(hx:Loc X.env.scope x:=by first|exact Or.inl rfl|exact Or.inr rfl)(hs:ph e (some (.Name x pos')) pos.line X.env=pure false:=by rfl)(hf:X.fn x=true\/X.env.scope.names.lookup x=some .local:=by first|exact .inl rfl|exact .inr rfl|assumption):DS X xw (.Assign [.Name x pos'] e pos) (λδ=>Kj (ff δ) λds=>.nx (δ.set i (some (.o ds)))):=
 PS.weak (Ht hN hi hx he hs hf) λDn σ H ⟨W₀,H₀,W,δ,st,q⟩=>Sz st q
def W4(c:Res Bool)(a b:Out):Out:=Kj c λk=>if k=true then a else b
variable {as bs:List sf}
theorem T5(hc:DT X xw c ga)(ha:RJ X xw as g1)(hb:RJ X xw bs g2):DS X xw (.If c as bs pos) (λδ=>W4 (ga δ) (g1 δ) (g2 δ)):=PS.weak (RX hc ha hb) λDn σ H ⟨W₀,H₀,W,δ,st,q⟩=>by
 refine⟨W₀,H₀,W,δ,st,?_⟩;unfold W4 at q;dsimp only at q;cases h1:ga δ with
 |stuck=>rw[h1]at q;exact q
 |ex c fs=>rw[h1]at q;exact λH' k'=>q H' (st.fr.ext.trans k')
 |ok k=>
  rw[h1]at q
  intro H1 k1;have q':RS X.K xw W₀ H₀ W H (if k=true then g1 δ else g2 δ) Dn:=q;cases k with
  |true=>rw[if_pos rfl]at q' ⊢;exact⟨W₀,H₀,W,δ,st.same k1,q'.step (Step.same k1)⟩
  |false=>rw[if_neg Db]at q' ⊢;exact⟨W₀,H₀,W,δ,st.same k1,q'.step (Step.same k1)⟩
def U8(K:td)(t:D->Ca->Res Ca):TG:=λv σ H Q=>∃ W₀ H₀ W δ d,StHas K W₀ H₀ W H σ δ/\Has K W H d v/\match t d δ with
 | .ok δ'=>∀ σ',StHas K W₀ H₀ W H σ' δ'->Q σ' H
 |_=>False
def DG(X:Cx)(tg:qc)(t:D->Ca->Res Ca):Prop:=PG X tg (U8 X.K t)
theorem PG.weak{X:Cx}{tg:qc}{t t':TG}(h:PG X tg t)(k:∀ v σ H Q,t' v σ H Q->t v σ H Q):PG X tg t':=λpins s σ H v u Q I r q=>h pins s σ H v u Q I r (k v σ H Q q)
def Za(i:Nat)(d:D)(δ:Ca):Res Ca:=.ok (δ.set i (some (.d d)))
theorem MR(i:Nat)(hN:X.N.Nodup)(hi:X.N[i]? =some x:=by rfl)(hx:Loc X.env.scope x:=by first|exact Or.inl rfl|exact Or.inr rfl)(hf:X.fn x=true\/X.env.scope.names.lookup x=some .local:=by first|exact .inl rfl|exact .inr rfl|assumption):
  DG X (.Name x pos) (Za i):=PG.weak (CV hN hi hx hf) λv σ H Q ⟨W₀,H₀,W,δ,d,st,hv,q⟩=>q _ (st.set hv)
def Ua0(K:td)(t:List D->Ca->Res Ca):KQ:=λvs σ H Q=>∃ W₀ H₀ W δ ds,StHas K W₀ H₀ W H σ δ/\HasL K W H ds vs/\match t ds δ with
 | .ok δ'=>∀ σ',StHas K W₀ H₀ W H σ' δ'->Q σ' H
 |_=>False
def C5(X:Cx)(tgs:List qc)(t:List D->Ca->Res Ca):Prop:=PGs X tgs (Ua0 X.K t)
theorem PGs.weak{X:Cx}{tg:List qc}{t t':KQ}(h:PGs X tg t)(k:∀ v σ H Q,t' v σ H Q->t v σ H Q):PGs X tg t':=λpins s σ H v u Q I r q=>h pins s σ H v u Q I r (k v σ H Q q)
def Wb(ds:List D)(δ:Ca):Res Ca:=match ds with
 | []=>.ok δ
 |_=>.stuck
def Ka(t:D->Ca->Res Ca)(r:List D->Ca->Res Ca)(ds:List D)(δ:Ca):Res Ca:=match ds with
 |d::ds=>(t d δ).bind λδ'=>r ds δ'
 | []=>.stuck
variable {tgs:List qc}{t:D->Ca->Res Ca}{ts:List D->Ca->Res Ca}
theorem NR:C5 X [] Wb:=PGs.weak DV λvs σ H Q ⟨W₀,H₀,W,δ,ds,st,hv,q⟩=>by
 unfold Wb at q;cases ds with
 |nil=>rw[HasL]at hv;exact⟨hv,q σ st⟩
 |cons=>exact q.elim
theorem LK(h1:DG X tg t)(h2:C5 X tgs ts)(hs:(gg (tg::tgs) X.env).map (·.2)=mn tg X.env::(gg tgs X.env).map (·.2):=by rfl):C5 X (tg::tgs) (Ka t ts):=
 PGs.weak (WN h1 h2 hs) λvs σ H Q ⟨W₀,H₀,W,δ,ds,st,hv,q⟩=>by
  unfold Ka at q;cases ds with
  |nil=>exact q.elim
  |cons d ds=>
   rw[HasL]at hv
   obtain⟨x,r,e,h,hr⟩:=hv;refine⟨x,r,e,W₀,H₀,W,δ,d,st,h,?_⟩;dsimp only at q;cases h1:t d δ with
   |stuck=>rw[h1]at q;exact q
   |ex c fs=>rw[h1]at q;exact q
   |ok δ'=>
    rw[h1]at q
    exact λσ' st'=>⟨W₀,H₀,W,δ',ds,st',hr,q⟩
def Xb(n:Nat)(ts:List D->Ca->Res Ca)(d:D)(δ:Ca):Res Ca:=match d with
 | .tup ds=>if ds.length=n then ts ds δ else .stuck
 |_=>.stuck
theorem FZ(hc:X.calm=true)(h:C5 X tgs ts)(hn:(gg tgs X.env).length=n:=by rfl)(hst:(gg tgs X.env).findIdx? (·.1)=none:=by rfl):DG X (.Tuple tgs k pos) (Xb n ts):=
 PG.weak (O2 hc h hn hst) λv σ H Q ⟨W₀,H₀,W,δ,d,st,hv,q⟩=>by
  unfold Xb at q;cases d with
  |tup ds=>
   dsimp only at q;split at q
   .rename_i hl;split at hl
    .rename_i hl';rw[Has]at hv
     obtain⟨a,xs,e,sq,r⟩:=hv;refine⟨a,xs,e,sq,by rw[<-r.length];exact hl',W₀,H₀,W,δ,ds,st,r,?_⟩;rw[hl];exact q
    .cases hl
   .exact q.elim
  |_=>exact q.elim
theorem JZ(he:DE X xw e f)(hg:DG X tg t)(hs:kq [tg] e pos.line X.env=pure false:=by rfl)(hw:lq [tg] e X.env=pure none:=by rfl)(h1:(gg [tg] X.env).map (·.2)= [mn tg X.env]:=by rfl):DS X xw (.Assign [tg] e pos) (λδ=>Kj (f δ) λd=>match t d δ with| .ok δ'=>.nx δ'|_=>.stuck):=
 PS.weak (YN he hg hs hw h1) λDn σ H ⟨W₀,H₀,W,δ,st,q⟩=>Rj st q λH2 d v st2 hv q2=>by
  refine⟨W₀,H₀,W,δ,d,st2,hv,?_⟩;split at q2
  .exact λσ' st'=>q2 W H2 σ' Step.refl st'
  .exact q2.elim
def SJ(K:td)(W:WS)(H:Hp)(J:It)(ds:List D):Prop:=∀ W' H2,Step W H W' H2->WL W' H2->
 (∀ i d,ds[i]? =some d->J.go i H2/\∀ x H3,J.yld i H2 x H3->Same H2 H3/\Has K W' H3 d x)/\J.stop ds.length H2
def tDI(K:td)(xw:XW)(f:Ca->Res (List D)):TI:=λσ H R=>∃ W₀ H₀ W δ,StHas K W₀ H₀ W H σ δ/\match f δ with
 | .ok ds=>∀ J H',Same H H'->SJ K W H' J ds->R J H'
 | .ex c fs=>∀ H',Same H H'->xw c fs H'
 | .stuck=>False
def DI(X:Cx)(xw:XW)(tg iter:qc)(f:Ca->Res (List D)):Prop:=PI X tg iter (tDI X.K xw f)
theorem PI.weak{X:Cx}{tg:qc}{t t':TI}(h:PI X tg iter t)(k:∀ σ H R,t' σ H R->t σ H R):PI X tg iter t':=λpins s σ H R I q=>h pins s σ H R I (k σ H R q)
theorem SqL.lr{a:ca}(h:LR K W H a xs)(k:Step W H W' H2)(w:WL W H):LR K W' H2 a xs:=h.keep k.keep w k.new
theorem I0{a:ca}(w:WL W H)(h:LR K W H a xs)(r:HasL K W H ds xs):SJ K W H (D9 K a) ds:=by
 intro W' H2 k w2;have h2:=(SqL.lr h k w).sq;refine⟨λi d e=>?_,xs,h2,by rw[r.length];exact jd _⟩;obtain⟨x,e1,hx⟩:=r.get e;refine⟨⟨xs,x,h2,e1⟩,λy H3 z=>?_⟩;obtain⟨rfl,z⟩:=z
 have:y=x:=by
  have q:=z xs h2;rw[e1]at q;exact(yb q).symm
 subst this;exact⟨Same.refl _,Has.keep k.keep w k.new hx⟩
theorem J0{a:ca}(w:WL W H)(h:SqT K H a xs)(r:HasL K W H ds xs):SJ K W H (E9 K a) ds:=by
 intro W' H2 k w2;have h2:=Pt k.keep w h;refine⟨λi d e=>?_,xs,h2,by rw[r.length];exact jd _⟩;obtain⟨x,e1,hx⟩:=r.get e;refine⟨⟨xs,x,h2,e1⟩,λy H3 z=>?_⟩;obtain⟨rfl,z⟩:=z
 have:y=x:=by
  have q:=z xs h2;rw[e1]at q;exact(yb q).symm
 subst this;exact⟨Same.refl _,Has.keep k.keep w k.new hx⟩
def Nj(lo:Int)(n:Nat):List D:=(qb n).map λ(i:Nat)=>D.int (lo+i)
theorem EM(lo:Int)(n:Nat):SJ K W H (Itr lo n) (Nj lo n):=by
 intro W' H2 k w2;unfold Nj;refine⟨λi d e=>?_,by simp[Itr]⟩;rw[wc]at e
 have hi:i<n:=by
  refine Ev λz=>?_;rw[zf (by simpa using z)]at e;cases e
 rw[jg hi]at e
 have e':D.int (lo+(i:Nat))=d:=yb e;subst e';refine⟨hi,λx H3 z=>?_⟩;obtain⟨rfl,rfl⟩:=z;exact⟨Same.refl _,by rw[Has]⟩
def Gq(ds:List D):Res (List D):=match ds with
 | [.int j]=>@ite (Res (List D)) (-(2^62)<=j/\j<2^62) (xc _) (.ok (Nj 0 j.toNat)) .stuck
 |_=>.stuck
def LA(ds:List D):Res (List D):=match ds with
 | [.int i,.int j]=>@ite (Res (List D)) ((-(2^62)<=i/\i<2^62)/\ -(2^62)<=j/\j<2^62) (xc _) (.ok (Nj i (j-i).toNat)) .stuck
 |_=>.stuck
theorem HasL.one(h:HasL K W H [.int i] vs):vs= [.int i]:=by
 rw[HasL]at h
 obtain⟨x,r,rfl,h1,h2⟩:=h;rw[HasL]at h2
 rw[Has]at h1
 rw[h1,h2]
theorem HasL.two{j:Int}(h:HasL K W H [.int i,.int j] vs):vs= [.int i,.int j]:=by
 rw[HasL]at h
 obtain⟨x,r,rfl,h1,h2⟩:=h;rw[Has]at h1
 rw[h1,h2.one]
variable {fs:Ca->Res (List D)}{p:vg}
theorem FH(hm:X.mg "range"=none)(ha:DA X xw [a] fs)(hg:Gl X "range":=by rfl)(hs:aa [a] X.env= [(false,eval a X.env)]:=by rfl):DI X xw tg (.Call (.Name "range" p) [a] [] pos) (λδ=>(fs δ).bind Gq):=
 PI.weak (QI hg hm ha hs) λσ H R ⟨W₀,H₀,W,δ,st,q⟩=>by
  refine⟨W₀,H₀,W,δ,st,?_⟩;dsimp only at q;cases h1:fs δ with
  |stuck=>rw[h1]at q;exact q
  |ex c fs=>rw[h1]at q;exact q
  |ok ds=>
   rw[h1]at q
   intro vs H1 k1 hv;dsimp only[Res.bind]at q;unfold Gq at q;split at q
   .rename_i ds' hq;split at hq
    .rename_i j;split at hq
     .rename_i hj;have e':Nj 0 j.toNat=ds':=by cases hq;rfl
      subst e';exact⟨j,hv.one,hj.1,hj.2,q _ H1 k1 (EM 0 _)⟩
     .cases hq
    .cases hq
   .rename_i hq;split at hq
    .split at hq<;>cases hq
    .cases hq
   .exact q.elim
theorem GH(hm:X.mg "range"=none)(ha:DA X xw [a,b] fs)(hg:Gl X "range":=by rfl)(hs:aa [a,b] X.env= [(false,eval a X.env),(false,eval b X.env)]:=by rfl)(hs2:aa [b] X.env= [(false,eval b X.env)]:=by rfl):
  DI X xw tg (.Call (.Name "range" p) [a,b] [] pos) (λδ=>(fs δ).bind LA):=
 PI.weak (UI hg hm ha hs hs2) λσ H R ⟨W₀,H₀,W,δ,st,q⟩=>by
  refine⟨W₀,H₀,W,δ,st,?_⟩;dsimp only at q;cases h1:fs δ with
  |stuck=>rw[h1]at q;exact q
  |ex c fs=>rw[h1]at q;exact q
  |ok ds=>
   rw[h1]at q
   intro vs H1 k1 hv;dsimp only[Res.bind]at q;unfold LA at q;split at q
   .rename_i ds' hq;split at hq
    .rename_i i j;split at hq
     .rename_i hj;have e':Nj i (j-i).toNat=ds':=by cases hq;rfl
      subst e';exact⟨i,j,hv.two,⟨hj.1.1,hj.1.2,hj.2.1,hj.2.2⟩,q _ H1 k1 (EM i _)⟩
     .cases hq
    .cases hq
   .rename_i hq;split at hq
    .split at hq<;>cases hq
    .cases hq
   .exact q.elim
def Te(t:D->Ca->Res Ca)(body:Ca->Out):List D->Ca->Out
 | [],δ=>.nx δ
 |d::ds,δ=>match t d δ with
  | .ok δ'=>match body δ' with
   | .nx δ2=>Te t body ds δ2
   | .ct δ2=>Te t body ds δ2
   | .bk δ2=>.nx δ2
   | .rt d=>.rt d
   | .ex c fs=>.ex c fs
   | .stuck=>.stuck
  |_=>.stuck
theorem KZ(hp:sr (pb X.prog X.w) X.A X.env X.xe)(hc:X.calm=true)(hi:DI X xw tg iter fi)(hg:DG X tg t)(hb:RJ X xw sts g)(hs:∀ x,dg iter X.env x=pure x:=by intro _;rfl):DS X xw (.For tg iter sts [] pos) (λδ=>Kj (fi δ) λds=>Te t g ds δ):=
 PS.weak (AO hp hc hi hg hb hs) λDn σ H ⟨W₀,H₀,W,δ,st,q⟩=>by
  refine⟨W₀,H₀,W,δ,st,?_⟩;dsimp only at q;cases h1:fi δ with
  |stuck=>rw[h1]at q;exact q
  |ex c fs=>rw[h1]at q;exact λH' k'=>q H' (st.fr.ext.trans k')
  |ok ds=>
   rw[h1]at q
   intro J H1 k1 it;have q1:RS X.K xw W₀ H₀ W H1 (Te t g ds δ) Dn:=RS.step (o:=Te t g ds δ) q (Step.same k1)
   refine⟨λi m σ' H'=>∃ W' δ',m=ds.length-i/\i<=ds.length/\StHas X.K W₀ H₀ W' H' σ' δ'/\Step W H1 W' H'/\RS X.K xw W₀ H₀ W' H' (Te t g (ds.drop i) δ') Dn,
    ⟨_,W,δ,rfl,vh _,st.same k1,Step.refl,q1⟩,?_⟩
   rintro i m σ' H' ⟨W',δ',rfl,hi,st',k',q'⟩;obtain⟨items,stop⟩:=it W' H' k' st'.fr.wl;by_cases hl:i<ds.length
   .right;have e:ds[i]? =some ds[i]:=oa hl;obtain⟨go,yld⟩:=items i _ e;have ed:ds.drop i=ds[i]::ds.drop (i+1):=vm hl;rw[ed]at q'
    unfold Te at q';refine⟨go,λσ2 H2=>∃ W2 δ2,StHas X.K W₀ H₀ W2 H2 σ2 δ2/\Step W H1 W2 H2/\RS X.K xw W₀ H₀ W2 H2 (Te t g (ds.drop (i+1)) δ2) Dn,λσ2 H2 ⟨W2,δ2,a1,a2,a3⟩=>⟨ds.length-(i+1),by omega,W2,δ2,rfl,hl,a1,a2,a3⟩,λx H3 z=>?_⟩;obtain⟨k3,hx⟩:=yld x H3 z;refine⟨W₀,H₀,W',δ',ds[i],st'.same k3,hx,?_⟩;cases h2:t ds[i] δ' with
    |stuck=>rw[h2]at q';exact q'
    |ex c fs=>rw[h2]at q';exact q'
    |ok δ2=>
     rw[h2]at q'
     intro σ2 st2;refine⟨W₀,H₀,W',δ2,st2,?_⟩;dsimp only at q';have kk:Step W' H' W' H3:=Step.same k3;cases h3:g δ2 with
     |nx δ3=>rw[h3]at q';exact λW3 H4 σ3 k4 st3=>⟨W3,δ3,st3,(k'.trans kk).trans k4,RS.step (o:=Te t g (ds.drop (i+1)) δ3) q' (kk.trans k4)⟩
     |ct δ3=>rw[h3]at q';exact λW3 H4 σ3 k4 st3=>⟨W3,δ3,st3,(k'.trans kk).trans k4,RS.step (o:=Te t g (ds.drop (i+1)) δ3) q' (kk.trans k4)⟩
     |bk δ3=>rw[h3]at q';exact λW3 H4 σ3 k4 st3=>q' W3 H4 σ3 (kk.trans k4) st3
     |rt d=>rw[h3]at q';exact q'
     |ex c fs=>rw[h3]at q';exact q'
     |stuck=>rw[h3]at q';exact q'
   .left;have ei:i=ds.length:=by omega
    subst ei;rw[Pv]at q'
    exact⟨stop,q' W' H' σ' Step.refl st'⟩
def Pe(c:Ca->Res Bool)(body:Ca->Out):Nat->Ca->Out
 |0,_=>.stuck
 |n+1,δ=>match c δ with
  | .ok true=>match body δ with
   | .nx δ2=>Pe c body n δ2
   | .ct δ2=>Pe c body n δ2
   | .bk δ2=>.nx δ2
   | .rt d=>.rt d
   | .ex c fs=>.ex c fs
   | .stuck=>.stuck
  | .ok false=>.nx δ
  | .ex c fs=>.ex c fs
  | .stuck=>.stuck
theorem SK(n:Nat)(hp:sr (pb X.prog X.w) X.A X.env X.xe)(hc:DT X xw c ga)(hb:RJ X xw sts g):DS X xw (.While c sts [] pos) (λδ=>Pe ga g n δ):=
 PS.weak (CO hp hc hb) λDn σ H ⟨W₀,H₀,W,δ,st,q⟩=>by
  refine⟨λm σ' H'=>∃ W' δ',StHas X.K W₀ H₀ W' H' σ' δ'/\RS X.K xw W₀ H₀ W' H' (Pe ga g m δ') Dn,⟨n,W,δ,st,q⟩,?_⟩;rintro m σ' H' ⟨W',δ',st',q'⟩;cases m with
  |zero=>exact q'.elim
  |succ m=>
   unfold Pe at q';refine⟨W₀,H₀,W',δ',st',?_⟩;cases h1:ga δ' with
   |stuck=>rw[h1]at q';exact q'
   |ex c fs=>rw[h1]at q';exact λH2 k2=>q' H2 (st'.fr.ext.trans k2)
   |ok k=>
    rw[h1]at q'
    intro H2 k2;cases k with
    |false=>rw[if_neg Db];exact q' W' H2 σ' (Step.same k2) (st'.same k2)
    |true=>
     rw[if_pos rfl];refine⟨λσ3 H3=>∃ W3 δ3,StHas X.K W₀ H₀ W3 H3 σ3 δ3/\RS X.K xw W₀ H₀ W3 H3 (Pe ga g m δ3) Dn,λσ3 H3 z=>⟨m,Tk m,z⟩,W₀,H₀,W',δ',st'.same k2,?_⟩;dsimp only at q';have kk:Step W' H' W' H2:=Step.same k2;cases h3:g δ' with
     |nx δ3=>rw[h3]at q';exact λW3 H4 σ3 k4 st3=>⟨W3,δ3,st3,RS.step (o:=Pe ga g m δ3) q' (kk.trans k4)⟩
     |ct δ3=>rw[h3]at q';exact λW3 H4 σ3 k4 st3=>⟨W3,δ3,st3,RS.step (o:=Pe ga g m δ3) q' (kk.trans k4)⟩
     |bk δ3=>rw[h3]at q';exact λW3 H4 σ3 k4 st3=>q' W3 H4 σ3 (kk.trans k4) st3
     |rt d=>rw[h3]at q';exact q'
     |ex c fs=>rw[h3]at q';exact q'
     |stuck=>rw[h3]at q';exact q'
end
def noex:Res α->Res α
 | .ok a=>.ok a
 |_=>.stuck
def Ud(t:D->Ca->Res Ca)(c:Ca->Res Bool)(fe:Ca->Res D):List D->Ca->Res (List D)
 | [],_=>.ok []
 |d::ds,δ=>match t d δ with
  | .ok δ'=>(noex (c δ')).bind λk=>if k=true then(noex (fe δ')).bind λx=>(Ud t c fe ds δ').bind λr=>.ok (x::r) else Ud t c fe ds δ'
  |_=>.stuck
abbrev Jq:XW:=λ_ _ _=>False
section
variable {a:ca}
theorem StHas.acc(h:StHas K W₀ (Pb H₀ a (.lst xs)) W H σ δ)(ha:H a=some (.lst xs))(hW:W a):StHas K W₀ (Pb H₀ a (.lst ys)) W (Pb H a (.lst ys)) σ δ:=by
 have kk:Pg W H (Pb H a (.lst ys)):=λb o e n=>by
  rw[Ha (λz=>n (by rw[z];exact hW))];exact e
 have hw:∀ b,W b->W b\/H b=none:=λb z=>.inl z
 have fr':FrOk W₀ (Pb H₀ a (.lst ys)) W (Pb H a (.lst ys)):=by
  refine⟨λb o e=>?_,h.fr.sub,⟨λb z=>?_,λq hq=>by rw[Ha (h.fr.wl.noW hW hq)];exact h.fr.wl.tab q hq⟩,⟨λb z=>?_,λq hq=>by have:=h.fr.wl0.tab q hq;rw[Ha (h.fr.wl.noW hW hq)]at this ⊢;exact this⟩⟩
  .by_cases hb:b=a
   .subst hb;rw[Ta]at e ⊢;exact e
   .rw[Ha hb]at e ⊢
    exact h.fr.ext b o (by rw[Ha hb];exact e)
  .by_cases hb:b=a
   .rw[hb];exact⟨_,Ta,trivial⟩
   .rw[Ha hb];exact h.fr.wl b z
  .by_cases hb:b=a
   .rw[hb];exact⟨_,Ta,trivial⟩
   .have:=h.fr.wl0 b z;rw[Ha hb]at this ⊢;exact this
 have na:∀ (j:Nat) (s:S) (v:V) (b:ca),δ[j]? =some (some s)->σ[j]? =some (some v)->Owns H s v b->b≠a:=λj s v b e e' o z=>by
  obtain⟨v',h1,h2⟩:=h.at' j s e;rw[e']at h1;cases h1
  obtain⟨_,g,_⟩:=h2.owns o;rw[z,Ta]at g;cases g
 have bk:∀ (j:Nat) (s:S) (v:V) (b:ca),δ[j]? =some (some s)->σ[j]? =some (some v)->Owns (Pb H a (.lst ys)) s v b->Owns H s v b:=λj s v b e e' o=>by
  obtain⟨v',h1,h2⟩:=h.at' j s e;rw[e']at h1;cases h1
  refine Owns.back h2 (λc o ec z y=>?_) o;rcases y with⟨y,_⟩|⟨zs,y⟩
  .rw[Ha (na j _ _ c e e' y)];exact z
  .rw[Ha (λq=>by rw[q,ha]at z;cases z;cases y)];exact z
 refine⟨fr',h.len,λj s e=>?_,λi j s t u v b ij e1 e2 e3 e4 o1 o2=>h.ap i j s t u v b ij e1 e2 e3 e4 (bk i s u b e1 e3 o1) (bk j t v b e2 e4 o2)⟩;obtain⟨v,h1,h2⟩:=h.at' j s e;refine⟨v,h1,?_⟩;cases s with
 |d x=>exact Has.keep kk h.fr.wl hw h2
 |o ds'=>
  obtain⟨b,zs,e',g1,g2,g3,g4⟩:=h2
  have hb:b≠a:=λz=>by
   rw[z,Ta]at g2;cases g2
  rw[Ha hb]at g2
  exact⟨b,zs,e',g1,by rw[Ha hb];exact g2,by rw[Ha hb];exact g3,HasL.keep kk h.fr.wl hw g4⟩
 |q ks' ds'=>
  obtain⟨b,zs,e',g1,g2,g3,g4,g5⟩:=h2
  have hb:b≠a:=λz=>by
   rw[z,Ta]at g2;cases g2
  rw[Ha hb]at g2
  exact⟨b,zs,e',g1,by rw[Ha hb];exact g2,by rw[Ha hb];exact g3,g4,HasL.keep kk h.fr.wl hw g5⟩
 |w dss=>
  obtain⟨b,bs,e',g1,g2,g3,g4,g5,g6,g7⟩:=h2
  have hb:b≠a:=λz=>by
   rw[z,Ta]at g2;cases g2
  rw[Ha hb]at g2
  refine⟨b,bs,e',g1,by rw[Ha hb];exact g2,by rw[Ha hb];exact g3,g4,g5,g6,λi c ds e1 e2=>?_⟩;obtain⟨f1,f2,xs',f3,f4⟩:=g7 i c ds e1 e2
  have hc:c≠a:=λz=>by
   rw[z,Ta]at f2;cases f2
  rw[Ha hc]at f2
  exact⟨f1,by rw[Ha hc];exact f2,xs',by rw[Ha hc];exact f3,HasL.keep kk h.fr.wl hw f4⟩
 |m l=>
  obtain⟨b,e',g1,g2,g3⟩:=h2
  have hb:b≠a:=λz=>by
   rw[z,Ta]at g2;cases g2
  rw[Ha hb]at g2
  exact⟨b,e',g1,by rw[Ha hb];exact g2,by rw[Ha hb];exact g3⟩
 |k t cs=>
  obtain⟨b,ob,e',g1,g2,g3,g4,g5,g6⟩:=h2
  have hb:b≠a:=λz=>by
   by_cases m:LQ t
   .have:=(g3 m).2;rw[z,Ta]at this;cases this
   .obtain⟨zs,rfl⟩:=g2.tup m;rw[z,ha]at g1;cases g1
  refine⟨b,ob,e',by rw[Ha hb];exact g1,g2,λm=>⟨(g3 m).1,by have:=(g3 m).2;rw[Ha hb]at this ⊢;exact this⟩,g4,g5,λi c x e1 e2=>?_⟩;have hc:=g6 i c x e1 e2;cases c with
  |d y=>exact Has.keep kk h.fr.wl hw hc
  |l ds'=>
   obtain⟨b,zs,e',g1,g2,g3,g4⟩:=hc
   have hb:b≠a:=λz=>by
    rw[z,Ta]at g2;cases g2
   rw[Ha hb]at g2
   exact⟨b,zs,e',g1,by rw[Ha hb];exact g2,by rw[Ha hb];exact g3,HasL.keep kk h.fr.wl hw g4⟩
  |q ks' ds'=>
   obtain⟨b,zs,e',g1,g2,g3,g4,g5⟩:=hc
   have hb:b≠a:=λz=>by
    rw[z,Ta]at g2;cases g2
   rw[Ha hb]at g2
   exact⟨b,zs,e',g1,by rw[Ha hb];exact g2,by rw[Ha hb];exact g3,g4,HasL.keep kk h.fr.wl hw g5⟩
theorem StHas.block(n:Nat)(h:StHas K W₀ H₀ W H σ δ)(ha:H a=none):StHas K W₀ (Pb H₀ a (.lst [])) (λb=>W b\/b=a) (Pb H a (.lst [])) (kc n none++σ) (kc n none++δ):=by
 have hw:∀ b,(W b\/b=a)->W b\/H b=none:=λb z=>z.elim .inl λz=>.inr (by rw[z];exact ha);have k:Same H (Pb H a (.lst [])):=Ec ha;have kk:Pg W H (Pb H a (.lst [])):=Same.keep k;have ha0:H₀ a=none:=Same.free h.fr.ext ha
 have fr':FrOk W₀ (Pb H₀ a (.lst [])) (λb=>W b\/b=a) (Pb H a (.lst [])):=by
  refine⟨λb o e=>?_,λb z=>.inl (h.fr.sub b z),⟨λb z=>z.elim ((h.fr.wl.same k).own b) λz=>by rw[z];exact⟨_,Ta,trivial⟩,(h.fr.wl.same k).tab⟩,h.fr.wl0.same (Ec ha0)⟩;by_cases hb:b=a
  .subst hb;rw[Ta]at e ⊢;exact e
  .rw[Ha hb]at e ⊢
   exact h.fr.ext b o e
 have idx:∀ {α:Type} (l:List (Option α)) (j:Nat) (x:α),(kc n none++l)[j]? =some (some x)->n<=j/\l[j-n]? =some (some x):=λl j x e=>by
  by_cases hj:j<n
  .rw[ug (by simpa using hj),uk]at e
   split at e<;>cases e
  .refine⟨tm hj,?_⟩;rw[ah (by simpa using hj),pj]at e;exact e
 have back:∀ {α:Type} (l:List (Option α)) (j:Nat) (x:Option α),n<=j->l[j-n]? =some x->(kc n none++l)[j]? =some x:=λl j x hj e=>by
  rw[ah (by simpa using hj),pj];exact e
 refine⟨fr',by simp[h.len],λj s e=>?_,λi j s1 s2 u u' b hij e1 e2 e3 e4 os ot=>?_⟩
 .obtain⟨hj,e⟩:=idx _ _ _ e;obtain⟨v,h1,h2⟩:=h.at' _ s e;refine⟨v,back _ _ _ hj h1,?_⟩;cases s with
  |d x=>exact Has.keep kk h.fr.wl hw h2
  |o ds'=>
   obtain⟨b,ys,e',g1,g2,g3,g4⟩:=h2;have hb:b≠a:=Ua g3 ha;exact⟨b,ys,e',.inl g1,by rw[Ha hb];exact g2,k _ _ g3,HasL.keep kk h.fr.wl hw g4⟩
  |q ks' ds'=>
   obtain⟨b,ys,e',g1,g2,g3,g4,g5⟩:=h2;have hb:b≠a:=Ua g3 ha;exact⟨b,ys,e',.inl g1,by rw[Ha hb];exact g2,k _ _ g3,g4,HasL.keep kk h.fr.wl hw g5⟩
  |w dss=>
   obtain⟨b,bs,e',g1,g2,g3,g4,g5,g6,g7⟩:=h2;have hb:b≠a:=Ua g3 ha;refine⟨b,bs,e',.inl g1,by rw[Ha hb];exact g2,k _ _ g3,g4,g5,g6,λi c ds e1 e2=>?_⟩;obtain⟨f1,f2,xs',f3,f4⟩:=g7 i c ds e1 e2;have hc:c≠a:=Ua f3 ha;exact⟨.inl f1,by rw[Ha hc];exact f2,xs',k _ _ f3,HasL.keep kk h.fr.wl hw f4⟩
  |m l=>
   obtain⟨b,e',g1,g2,g3⟩:=h2;have hb:b≠a:=Ua g3 ha;exact⟨b,e',.inl g1,by rw[Ha hb];exact g2,k _ _ g3⟩
  |k t cs=>
   obtain⟨b,ob,e',g1,g2,g3,g4,g5,g6⟩:=h2;have hb:b≠a:=Ua g1 ha;refine⟨b,ob,e',k _ _ g1,g2,λm=>⟨.inl (g3 m).1,by rw[Ha hb];exact(g3 m).2⟩,g4,g5,λi c x e1 e2=>?_⟩;have hc:=g6 i c x e1 e2;cases c with
   |d y=>exact Has.keep kk h.fr.wl hw hc
   |l ds'=>
    obtain⟨b,ys,e',g1,g2,g3,g4⟩:=hc;have hb:b≠a:=Ua g3 ha;exact⟨b,ys,e',.inl g1,by rw[Ha hb];exact g2,k _ _ g3,HasL.keep kk h.fr.wl hw g4⟩
   |q ks' ds'=>
    obtain⟨b,ys,e',g1,g2,g3,g4,g5⟩:=hc;have hb:b≠a:=Ua g3 ha;exact⟨b,ys,e',.inl g1,by rw[Ha hb];exact g2,k _ _ g3,g4,HasL.keep kk h.fr.wl hw g5⟩
 .obtain⟨hi,e1⟩:=idx _ _ _ e1;obtain⟨hj,e2⟩:=idx _ _ _ e2;obtain⟨_,e3⟩:=idx _ _ _ e3;obtain⟨_,e4⟩:=idx _ _ _ e4
  have bk:∀ (j:Nat) (s:S) (v:V),δ[j]? =some (some s)->σ[j]? =some (some v)->Owns _ s v b->Owns H s v b:=λj s v e e' o=>by
   obtain⟨v',h1,h2⟩:=h.at' j s e;rw[e']at h1;cases h1
   exact Owns.back h2 (λc o _ z _=>k _ _ z) o
  exact h.ap (i-n) (j-n) s1 s2 u u' b (by omega) e1 e2 e3 e4 (bk _ _ _ e1 e3 os) (bk _ _ _ e2 e4 ot)
end
variable{r:List V->Hp->VK->Prop}{op:D->Res D}{P:ic}{mg:xa->Option Fa}{base:ke}{m:List D->Res D}{fd:wf}{ps:List xa}
section
variable {t:D->Ca->Res Ca}{gc:Ca->Res Bool}{fe:Ca->Res D}
def Yc(n:Nat)(t:D->Ca->Res Ca)(gc:Ca->Res Bool)(fe:Ca->Res D)(δ:Ca)(ds:List D):Res (List D):=@ite (Res (List D)) (ds.length<=100000) (xc _) (noex (Ud t gc fe ds (kc n none++δ))) .stuck
def D5(X:Cx)(ifs:List qc)(g:Ca->Res Bool):Prop:=V4 X ifs (Y3 X.K Jq g)
theorem AS:D5 X [] (λ_=>.ok true):=λpins s σ H Q I ⟨_,_,_,_,_,q⟩=>JV pins s σ H Q I (q H (Same.refl H))
theorem BS(h:DT X Jq c gc):D5 X [c] gc:=LV h
theorem Vu{Nc:Nat}(q:tDF X.K xw (λδ=>(fi δ).bind λds=>Yc Nc t gc fe δ ds) σ H Q):
  FP Nc (tDI X.K xw fi) (U8 X.K t) (Y3 X.K Jq gc) (DQ X.K Jq fe) σ H Q:=by
 obtain⟨W₀,H₀,W,δ,st,q⟩:=q;refine⟨W₀,H₀,W,δ,st,?_⟩;dsimp only at q;cases h1:fi δ with
 |stuck=>rw[h1]at q;exact q
 |ex c fs=>rw[h1]at q;exact q
 |ok ds=>
  rw[h1]at q
  intro J H1 k1 it a ha;have q1:RF X.K xw W H (Yc Nc t gc fe δ ds) Q:=q;unfold Yc at q1;split at q1
  case isFalse=>exact q1.elim
  rename_i hlen;have st1:=st.same k1;cases hc:Ud t gc fe ds (kc Nc none++δ) with
  |stuck=>rw[hc]at q1;exact q1.elim
  |ex c fs=>rw[hc]at q1;exact q1.elim
  |ok all=>
  rw[hc]at q1
  have q2:∀ a xs H1,Same H H1->H1 a=none->HasL X.K W H1 all xs->Q (.ref a) (Pb H1 a (.lst xs)):=q1
  refine⟨λi m xs σ' H'=>∃ δ' acc rest,m=ds.length-i/\i<=ds.length/\StHas X.K W₀ (Pb H₀ a (.lst xs)) (λb=>W b\/b=a) H' σ' δ'/\H' a=some (.lst xs)/\(∀ b o,H1 b=some o->H' b=some o)/\
    HasL X.K (λb=>W b\/b=a) H' acc xs/\Ud t gc fe (ds.drop i) δ'=.ok rest/\acc++rest=all/\xs.length<=i,
   ⟨_,kc Nc none++δ,[],all,rfl,vh _,st1.block Nc ha,Ta,λb o e=>by rw[Ha (Ua e ha)];exact e,HasL.nil,hc,rfl,vh _⟩,?_⟩
  rintro i m xs σ' H' ⟨δ',acc,rest,rfl,hi,st',hxs,ks,hacc,hrest,hall,hxl⟩;refine⟨hxs,?_⟩;have k':Step W H1 (λb=>W b\/b=a) H':=⟨λb o e _=>ks b o e,λb z=>z.elim .inl λz=>.inr (by rw[z];exact ha)⟩
  obtain⟨items,stop⟩:=it _ H' k' st'.fr.wl;by_cases hl:i<ds.length
  .right;have e:ds[i]? =some ds[i]:=oa hl;obtain⟨go,yld⟩:=items i _ e;have ed:ds.drop i=ds[i]::ds.drop (i+1):=vm hl;rw[ed]at hrest
   unfold Ud at hrest;refine⟨go,λx H3 z=>?_⟩;obtain⟨k3,hx⟩:=yld x H3 z;refine⟨W₀,_,_,δ',ds[i],st'.same k3,hx,?_⟩;cases h2:t ds[i] δ' with
   |stuck=>rw[h2]at hrest;cases hrest
   |ex c fs=>rw[h2]at hrest;cases hrest
   |ok δ2=>
    rw[h2]at hrest
    dsimp only at hrest;intro σ2 st2;refine⟨W₀,_,_,δ2,st2,?_⟩;cases h3:gc δ2 with
    |stuck=>rw[h3]at hrest;cases hrest
    |ex c fs=>rw[h3]at hrest;cases hrest
    |ok k=>
     rw[h3]at hrest
     intro H4 k4;cases k with
     |false=>
      rw[if_neg Db];have hr':Ud t gc fe (ds.drop (i+1)) δ2=.ok rest:=hrest;exact⟨ds.length-(i+1),by omega,δ2,acc,rest,rfl,hl,st2.same k4,k4 _ _ (k3 _ _ hxs),λb o e=>k4 _ _ (k3 _ _ (ks b o e)),(hacc.same k3 st'.fr.wl).same k4 (st'.fr.wl.same k3),hr',hall,by omega⟩
     |true=>
      rw[if_pos rfl];have hr':(noex (fe δ2)).bind (λx=>(Ud t gc fe (ds.drop (i+1)) δ2).bind λr=>.ok (x::r))=.ok rest:=hrest;refine⟨W₀,_,_,δ2,st2.same k4,?_⟩;cases h5:fe δ2 with
      |stuck=>rw[h5]at hr';cases hr'
      |ex c fs=>rw[h5]at hr';cases hr'
      |ok y=>
       rw[h5]at hr'
       intro v H5 k5 hv;have hr2:(Ud t gc fe (ds.drop (i+1)) δ2).bind (λr=>.ok (y::r))=.ok rest:=hr';cases h6:Ud t gc fe (ds.drop (i+1)) δ2 with
       |stuck=>rw[h6]at hr2;cases hr2
       |ex c fs=>rw[h6]at hr2;cases hr2
       |ok r=>
        rw[h6]at hr2
        have er:y::r=rest:=by cases hr2;rfl
        have h5a:H5 a=some (.lst xs):=k5 _ _ (k4 _ _ (k3 _ _ hxs));have w3:=st'.fr.wl.same k3;have w4:=w3.same k4;have w5:=w4.same k5;have acc5:=((hacc.same k3 st'.fr.wl).same k4 w3).same k5 w4
        have kk:Pg (λb=>W b\/b=a) H5 (Pb H5 a (.lst (xs++ [v]))):=λb o e n=>by
         rw[Ha (λz=>n (.inr z))];exact e
        have sz:sizeLine=16777216:=se;refine⟨h5a,by omega,ds.length-(i+1),by omega,δ2,acc++ [y],r,rfl,hl,((st2.same k4).same k5).acc h5a (.inr rfl),Ta,λb o e=>?_,HasL.keep kk w5 (λb z=>.inl z) (acc5.snoc hv),h6,?_,?_⟩
        .rw[Ha (Ua e ha)];exact k5 _ _ (k4 _ _ (k3 _ _ (ks b o e)))
        .rw[ak];show acc++(y::r)=all;rw[er];exact hall
        .rw[ud,qg];omega
  .left;have ei:i=ds.length:=by omega
   subst ei;rw[Pv]at hrest
   unfold Ud at hrest;have er:rest= []:=by cases hrest;rfl
   subst er;rw[bj]at hall
   subst hall;refine⟨stop,?_⟩;have hm:(λb=>if b=a then none else H' b:Hp) a=none:=if_pos rfl
   have eu:Pb (λb=>if b=a then none else H' b:Hp) a (.lst xs)=H':=by
    funext b;by_cases hb:b=a
    .rw[hb,Ta,hxs]
    .rw[Ha hb,if_neg hb]
   have r:=q2 a xs (λb=>if b=a then none else H' b) (λb o e=>by
    have e1:=k1 b o e;show(if b=a then none else H' b)=some o
    rw[if_neg (Ua e1 ha)];exact ks b o e1) hm (HasL.keep (W:=λb=>W b\/b=a) (W':=W) (λb o e n=>by show(if b=a then none else H' b)=some o;rw[if_neg (λz=>n (.inr z))];exact e) st'.fr.wl (λb z=>.inl (.inl z)) hacc)
   rw[eu]at r
   exact r
theorem KR(Nc Nx:List xa)(c:CompOk X scope Nc Nx)(hcalm:X.calm=true)(hi:DI X xw tg iter fi)(hY:∀ (C:ca) (fp:List ca) (pins:List (ca×ki)) (s:Shared) (H:Hp),DG (Yb X scope Nc Nx C fp pins s H) tg t/\D5 (Yb X scope Nc Nx C fp pins s H) ifs gc/\DE (Yb X scope Nc Nx C fp pins s H) Jq elt fe)(hs:∀ x,dg iter X.env x=pure x:=by intro _;rfl):
  DF X xw (.ListComp elt [⟨tg,iter,ifs,0⟩] scope pos) (λδ=>(fi δ).bind λds=>Yc Nc.length t gc fe δ ds):=
 PE.weak (WU (g:=U8 X.K t) (tt:=Y3 X.K Jq gc) (te:=DQ X.K Jq fe) c hcalm hi hY hs) λσ H Q q=>Vu q
theorem WR(i:Nat)(hN:X.N.Nodup)(Nc Nx:List xa)(c:CompOk X scope Nc Nx)(hcalm:X.calm=true)(hi:DI X xw tg iter fi)(hY:∀ (C:ca) (fp:List ca) (pins:List (ca×ki)) (s:Shared) (H:Hp),DG (Yb X scope Nc Nx C fp pins s H) tg t/\D5 (Yb X scope Nc Nx C fp pins s H) ifs gc/\DE (Yb X scope Nc Nx C fp pins s H) Jq elt fe)(hiN:X.N[i]? =some x:=by rfl)(hx:Loc X.env.scope x:=by first|exact Or.inl rfl|exact Or.inr rfl)(hsw:ph (.ListComp elt [⟨tg,iter,ifs,0⟩] scope pos) (some (.Name x py)) spos.line X.env=pure true:=by rfl)(hf:X.fn x=true\/X.env.scope.names.lookup x=some .local:=by first|exact .inl rfl|exact .inr rfl|assumption)(hs:∀ x,dg iter X.env x=pure x:=by intro _;rfl):
  DS X xw (.Assign [.Name x py] (.ListComp elt [⟨tg,iter,ifs,0⟩] scope pos) spos) (λδ=>Kj ((fi δ).bind λds=>Yc Nc.length t gc fe δ ds) λds=>.nx (δ.set i (some (.o ds)))):=
 PS.weak (IV (g:=U8 X.K t) (tt:=Y3 X.K Jq gc) (te:=DQ X.K Jq fe) c hcalm hi hY hN hiN hx hsw hf hs) λDn σ H ⟨W₀,H₀,W,δ,st,q⟩=>Vu (Sz st q)
def Yv(i:Nat)(δ:Ca)(r:Res D):Out:=match δ[i]? with
 |some (some (.o ds))=>@ite Out (ds.length<=100000) (xc _) (Kj r λd=>.nx (δ.set i (some (.o (ds++ [d]))))) .stuck
 |_=>.stuck
theorem HH(i:Nat){p1 p3:vg}(he:DE X xw e f)(hN:X.N[i]? =some x:=by rfl)(hv:Wx X.env.scope x:=by first|exact Or.inl rfl|exact Or.inr (Or.inl rfl)|exact Or.inr (Or.inr rfl))(hd:(x==("__debug__":xa))=false:=by decide)(hcd:(x==("__classdict__":xa))=false:=by decide)(hsE:aa [e] X.env=(false,eval e X.env)::aa [] X.env:=by rfl)(hbase:ye (.Name x p1) "append" X.env (eval (.Name x p1) X.env)=eval (.Name x p1) X.env:=by rfl)(hfew:((zd p3 (aa [e] X.env)).all (λx=> !x.1)&&(ms p3 (om [] X.env)).all (λx=>x.1.isSome)
   &&decide (([e]:List qc).length+([]:List rk).length+(if([]:List rk).isEmpty then 0 else 1)<30))=true:=by rfl)(hline:(p2.endLine==p3.line)=true:=by rfl)(hplain:(zd p3 (aa [] X.env)).any (·.1)=false:=by rfl)(hsw:ph (.Call (.Attribute (.Name x p1) "append" p2) [e] [] p3) none pos.line X.env=pure false:=by rfl):
  DS X xw (.Expr (.Call (.Attribute (.Name x p1) "append" p2) [e] [] p3) pos) (λδ=>Yv i δ (f δ)):=
 PS.weak (Hx (OF aj lu nu Zo (Bi hN hv hd hcd) (Xe he Hk hsE) hbase hfew hline hsE hplain) hsw) λDn σ H ⟨W₀,H₀,W,δ,st,q⟩=>by
  unfold Yv at q;dsimp only at q;split at q
  .rename_i ds h;split at q
   .rename_i hlen;obtain⟨v,e1,a,xs,rfl,r2,r3,r4,r5⟩:=st.at' i _ h;refine⟨_,e1,.inl ⟨rfl,xs,.of r4⟩,?_⟩;refine Rj st q λH2 d u st2 hu q2=>?_;obtain⟨v',e1',a',ys,e',r2',r3',r4',r5'⟩:=st2.at' i _ h;rw[e1]at e1'
    cases e1';cases e';have sz:sizeLine=16777216:=se;refine⟨a,ys,u,rfl,rfl,r4',?_,?_⟩
    .rw[<-r5'.length];omega
    .refine q2 W _ σ ⟨λb o e n=>?_,λ_ z=>.inl z⟩ (st2.change h e1 r4' r2' (r5'.snoc hu));rw[Ha (λz=>n (by rw[z];exact r2'))];exact e
   .exact q.elim
  .exact q.elim
def VX(K:td)(n:Nat)(m:List D->Res D):Sp:=λvs H Q _=>vs.length=n/\∃ W ds,WL W H/\HasL K W H ds vs/\match m ds with
 | .ok d=>∀ v H',Same H H'->Has K W H' d v->Q v H'
 |_=>False
structure Fn(P:ic)(w:vd)(K:td)(mg:xa->Option Fa)(base:ke)(k:Nat)(x:xa)(n:Nat)(m:List D->Res D):Prop where
 ex:∃ f fd ps,FnOk P w K mg base Oo k f fd ps (VX K n m)/\mg x=some (.ref f)/\mf K (.ref f)=true/\Binds K fd ps []
theorem Fn.mono(F:Fn P w K mg base j x n m)(h:j<=k):Fn P w K mg base k x n m:=by
 obtain⟨f,fd,ps,a,b⟩:=F.ex;exact⟨f,fd,ps,a.mono h,b⟩
def Sb(n:Nat)(ds:List D):Ca:=ds.map (λd=>some (.d d))++kc (n-ds.length) none
def Xc(n:Nat)(g:Ca->Out)(ds:List D):Res D:=match g (Sb n ds) with
 | .rt d=>.ok d
 | .nx _=>.ok .non
 |_=>.stuck
theorem Pj{N:List xa}(w:WL W H)(r:HasL K W H ds vs):StHas K W H W H (L2.start N vs) (Sb N.length ds):=by
 have hl:=r.length
 have idx:∀ {α:Type} (l:List α) (j:Nat) (x:α) (m:Nat),(l.map some++kc m none)[j]? =some (some x)->l[j]? =some x:=λl j x m e=>by
  by_cases hj:j<l.length
  .rw[ug (by simpa using hj),wc]at e
   cases q:l[j]? with
   |none=>rw[q]at e;cases e
   |some z=>rw[q]at e;cases e;rfl
  .rw[ah (by simpa using hj),uk]at e
   split at e<;>cases e
 have eS:Sb N.length ds=(ds.map S.d).map some++kc (N.length-ds.length) none:=by
  unfold Sb;rw[xh];rfl
 refine⟨⟨Same.refl _,λ_ z=>z,w,w⟩,?_,λi s e=>?_,λi j s1 s2 u u' a _ e1 _ _ _ os _=>?_⟩
 .unfold L2.start Sb;simp[hl]
 .rw[eS]at e
  have e':=idx _ _ _ _ e;rw[wc]at e'
  cases q:ds[i]? with
  |none=>rw[q]at e';cases e'
  |some d=>
   rw[q]at e'
   cases e';obtain⟨x,h1,h2⟩:=r.get q;refine⟨x,?_,h2⟩;unfold L2.start;have hi:i<vs.length:=(ya.mp h1).1;rw[ug (by simpa using hi),wc,h1];rfl
 .rw[eS]at e1
  have e':=idx _ _ _ _ e1;rw[wc]at e'
  cases q:ds[i]? with
  |none=>rw[q]at e';cases e'
  |some d=>rw[q]at e';cases e';exact os
theorem KS{fa:ca}{N:List xa}(F:Fun K x qual st fa fd)(S:FnScope N ps (Pa st))(hm:mg x=some (.ref fa))(hb:Binds K fd ps [])(body:∀ (cdv:Fa) (A:je) (outer:List tu) (s:Shared) (H:Hp) (E:XK),Room k (A.deeper (wn qual (Pa st) s.heap.objs.size fa cdv))->
   RJ (Qo Oo P w K mg base N qual (Pa st) fa cdv A outer s H E).nox Jq (Ad st) g):Fn P w K mg base (k+1) x ps.length (Xc N.length g):=by
 refine⟨fa,fd,ps,F.ok S (λvs H Q E h=>h.1) (λcdv A outer s H vs Q E hr h=>?_),hm,F.kp,hb⟩;obtain⟨hl,W,ds,hw,hd,q⟩:=h;refine⟨_,body cdv A outer s H E hr,W,H,W,Sb N.length ds,Pj hw hd,?_⟩;unfold Xc at q;cases h:g (Sb N.length ds) with
 |rt d=>rw[h]at q;exact λv H' k hv=>q v H' k hv
 |nx δ=>rw[h]at q;exact λW' H' σ' k st'=>q .non H' st'.fr.ext (by rw[Has])
 |bk δ=>rw[h]at q;exact q.elim
 |ct δ=>rw[h]at q;exact q.elim
 |ex c fs=>rw[h]at q;exact q.elim
 |stuck=>rw[h]at q;exact q.elim
def La(n:Nat)(m:List D->Res D)(ds:List D):Res D:=if ds.length=n then noex (m ds) else .stuck
theorem ER{a:qc}{fs:Ca->Res (List D)}{p:vg}(F:Fn X.prog X.w X.K X.mg X.base k x n m)(hr:Room k X.A)(ha:DA X xw (a::es) fs)(hg:Gl X x:=by rfl)(hdb:(x==("__debug__":xa))=false:=by decide)(he:aa (a::es) X.env=(false,eval a X.env)::aa es X.env:=by rfl)(hpl:(zd pos (aa es X.env)).any (·.1)=false:=by rfl):
  DE X xw (.Call (.Name x p) (a::es) [] pos) (λδ=>(fs δ).bind λds=>La n m ds):=by
 obtain⟨fa,fd,ps,G,hm,hk,hb⟩:=F.ex;refine PE.weak (Zq G hr hg hm hk hb .nil HA ha hdb he hpl) λσ H Q ⟨W₀,H₀,W,δ,st,q⟩=>?_;refine Yl st q λH2 ds vs k w st2 hv _ q2=>?_;unfold La at q2;split at q2
 .rename_i hn;rw[bj];refine⟨by rw[<-hv.length];exact hn,W,ds,w,hv,?_⟩;cases h:m ds with
  |ok d=>rw[h]at q2;exact q2
  |ex c fs=>rw[h]at q2;exact q2
  |stuck=>rw[h]at q2;exact q2
 .exact q2.elim
theorem Xu{a:qc}{fa:Ca->Res D}{id:String}{p:vg}(hc:Di X (.builtin id) r)(hop:∀ W H d v Q,WL W H->HasT X.K W H d v->RE X.K xw W H (op d) Q->r [v] H Q)(hm:X.mg x=none)(hv:vf x=some (.builtin id))(ha:DP X xw a fa)(hg:Gl X x)(hn:x≠"__name__")(hdb:(x==("__debug__":xa))=false)(he:aa [a] X.env=(false,eval a X.env)::aa [] X.env)(hpl:(zd pos (aa [] X.env)).any (·.1)=false):DE X xw (.Call (.Name x p) [a] [] pos) (λδ=>(fa δ).bind op):=
 PE.weak (Dt hc hg hm hv (Xe ha Hk he) hn hdb he hpl) λσ H Q ⟨W₀,H₀,W,δ,st,q⟩=>Ai st q λH2 d v k w st2 hv _ q2=>hop W H2 d v Q w hv q2
theorem Ro{a:qc}{fa:Ca->Res D}{id:String}{p:vg}(hc:Di X (.type id) r)(hop:∀ W H d v Q,WL W H->HasT X.K W H d v->RE X.K xw W H (op d) Q->r [v] H Q)(hm:X.mg x=none)(hv:vf x=some (.type id))(ha:DP X xw a fa)(hg:Gl X x)(hn:x≠"__name__")(hdb:(x==("__debug__":xa))=false)(he:aa [a] X.env=(false,eval a X.env)::aa [] X.env)(hpl:(zd pos (aa [] X.env)).any (·.1)=false):DE X xw (.Call (.Name x p) [a] [] pos) (λδ=>(fa δ).bind op):=
 PE.weak (Nv hc hg hm hv (Xe ha Hk he) hn hdb he hpl) λσ H Q ⟨W₀,H₀,W,δ,st,q⟩=>Ai st q λH2 d v k w st2 hv _ q2=>hop W H2 d v Q w hv q2
def Dm:D->Res D
 | .tup ds=>.ok (.int ds.length)
 | .lst ds=>.ok (.int ds.length)
 | .str z=>@ite (Res D) (z.length<=sizeLine) (xc _) (.ok (.int z.length)) .stuck
 |_=>.stuck
variable {p:vg}
theorem UY(hm:X.mg "len"=none)(ha:DP X xw a fa)(hg:Gl X "len":=by rfl)(he:aa [a] X.env=(false,eval a X.env)::aa [] X.env:=by rfl)(hpl:(zd pos (aa [] X.env)).any (·.1)=false:=by rfl):
  DE X xw (.Call (.Name "len" p) [a] [] pos) (λδ=>(fa δ).bind Dm):=
 Xu AK (λW H d v Q w hv q=>by
  unfold Dm at q;split at q
  .obtain⟨p,xs,e,sq,r⟩:=hv.tup;rw[e];exact⟨_,xs.length,rfl,.inr ⟨xs,sq,rfl⟩,by rw[<-r.length];exact q.int⟩
  .obtain⟨p,xs,e,sq,r⟩:=hv.lst;rw[e];exact⟨_,xs.length,rfl,.inl ⟨xs,sq,rfl⟩,by rw[<-r.length];exact q.int⟩
  .split at q
   .rename_i hz;rw[hv.str];exact⟨_,_,rfl,⟨hz,rfl⟩,q.int⟩
   .exact q.elim
  .exact q.elim) hm PySem.boot_len ha hg (by decide) (by decide) he hpl
def tyD:D->Option String
 | .non=>some "NoneType"
 | .bl _=>some "bool"
 | .int _=>some "int"
 | .str _=>some "str"
 | .tup _=>some "tuple"
 | .lst _=>some "list"
 | .dct _ _=>some "dict"
 | .exc _ _=>none
 | .obj _ _ _=>none
def IT(T C:String):Bool:=T==C||(T=="bool"&&C=="int")
def LC(C:String)(d:D):Res D:=match tyD d with
 |some T=>.ok (.bl (IT T C))
 |none=>.stuck
def Iz(C:String):Prop:=∀ (K:td),∀ T∈ ["NoneType","bool","int","str","tuple","list","dict"],PySem.W.kitOne K (.type T) (.type C)=some (IT T C)
theorem SH:Iz "tuple":=by intro K T hT;simp only[zc,pf,or_false]at hT;rcases hT with rfl|rfl|rfl|rfl|rfl|rfl|rfl<;>kernel_rfl
theorem AM:Iz "list":=by intro K T hT;simp only[zc,pf,or_false]at hT;rcases hT with rfl|rfl|rfl|rfl|rfl|rfl|rfl<;>kernel_rfl
theorem ZJ{C:String}(hC:Iz C):Di X (.builtin "isinstance") (λxs H Q=>∃ W d x T,xs= [x,.ty C]/\HasT X.K W H d x/\tyD d=some T/\Q (.bl (IT T C)) H):=by
 intro pins s σ H xs us Q I r h;obtain⟨W,d,x,T,rfl,hd,ht,q⟩:=h;obtain⟨u,u2,rfl,rx,rc⟩:=r.two;obtain rfl:u2=Value.type C:=rc;have hk:=hC X.K T (by cases d<;>cases ht<;>simp);have fin:∀ tk,EP X pins σ Q (.bool (IT T C)) {s with toks:=tk}:=λtk=>⟨.bl _,H,I.tok tk,rfl,q⟩;cases d with
 |non=>
  cases ht;have:=hd.non;subst this;cases (show u=Value.none from rx);exact kia_one PySem.W.kitx_none I.kIn True.intro hk (λz=>nomatch z) fin
 |bl b=>
  cases ht;have:=hd.bl;subst this;cases (show u=Value.bool b from rx);exact kia_one PySem.W.kitx_bool I.kIn True.intro hk (λz=>nomatch z) fin
 |int b=>
  cases ht;have:=hd.int;subst this;obtain⟨t,rfl⟩:=(show ∃ t,u=Value.int b t from rx)
  exact kia_one PySem.W.kitx_int I.kIn True.intro hk (λz=>nomatch z) fin
 |str b=>
  cases ht;have:=hd.str;subst this;obtain⟨t,rfl⟩:=(show ∃ t,u=Value.str b t from rx)
  exact kia_one PySem.W.kitx_str I.kIn True.intro hk (λz=>nomatch z) fin
 |tup ds=>
  cases ht;obtain⟨a,xs,rfl,sq,_⟩:=hd.tup;cases (show u=Value.ref a from rx);obtain⟨its,_,⟨o,h1,h2,_⟩,_⟩:=I.tuple sq;exact kia_one PySem.W.kitx_tuple I.kIn ⟨o,h1,h2⟩ hk (λz=>nomatch z) fin
 |lst ds=>
  cases ht;obtain⟨a,xs,rfl,sq,_⟩:=hd.lst;cases (show u=Value.ref a from rx);obtain⟨its,_,⟨o,n,h1,h2,_⟩,_⟩:=I.list sq;exact kia_one PySem.W.kitx_list I.kIn ⟨o,h1,h2⟩ hk (λz=>nomatch z) fin
 |dct ks ds=>
  cases ht;rcases hd with hd|⟨_,_,_,z,_⟩
  .rw[Has]at hd
   obtain⟨a,kvs,rfl,⟨ob,ea⟩,_⟩:=hd;cases (show u=Value.ref a from rx);obtain⟨_,_,_,vs,_,p⟩:=(show ObjOk X.prog X.w H s.heap a (.frz ob (.dK kvs)) from I.hok a _ ea)
   obtain⟨o,es,ep,h1,h2,_⟩:=p;exact kia_one PySem.W.kitx_dict I.kIn ⟨o,h1,h2.1⟩ hk (λz=>nomatch z) fin
  .cases z
 |exc c ds=>cases ht
 |obj c k ds=>cases ht
theorem TY{C:String}{c:xa}(hC:Iz C)(hbc:vf c=some (.type C))(hm:X.mg "isinstance"=none)(hmc:X.mg c=none)(ha:DP X xw a fa)(hg:Gl X "isinstance":=by rfl)(hgc:Gl X c:=by rfl)(hcn:c≠"__name__":=by decide)(hcd:(c==("__debug__":xa))=false:=by decide)(he:aa [a, .Name c p2] X.env=(false,eval a X.env)::aa [.Name c p2] X.env:=by rfl)(he2:aa [.Name c p2] X.env=(false,eval (.Name c p2) X.env)::aa [] X.env:=by rfl)(hpl:(zd pos (aa [.Name c p2] X.env)).any (·.1)=false:=by rfl):
  DE X xw (.Call (.Name "isinstance" p) [a, .Name c p2] [] pos) (λδ=>(fa δ).bind (LC C)):=
 PE.weak (Dt (ZJ hC) hg hm (by decide +kernel) (Xe ha (Xe (UU (v:=.ty C) hgc hmc hbc rfl hcn hcd) Hk he2) he) (by decide) (by decide) he hpl) λσ H Q ⟨W₀,H₀,W,δ,st,q⟩=>Ai st q λH2 d v k w st2 hv _ q2=>by
  unfold LC at q2;split at q2
  .rename_i T hT;exact⟨W,d,v,T,rfl,hv,hT,q2.bl⟩
  .exact q2.elim
end
def kD(d:D):Ca->Res D:=λ_=>.ok d
def b1(op:α->Res β)(f:Ca->Res α):Ca->Res β:=λδ=>(f δ).bind op
def b2(op:D->D->Res D)(f g:Ca->Res D):Ca->Res D:=λδ=>(f δ).bind λx=>(g δ).bind λy=>op x y
def b3(op:D->Option Int->Option Int->Res β)(f:Ca->Res D)(g h:Ca->Res (Option Int)):Ca->Res β:=λδ=>(f δ).bind λx=>(g δ).bind λl=>(h δ).bind λu=>op x l u
def L9(op op':D->D->Res D)(fa fb fc:Ca->Res D):Ca->Res D:=λδ=>(fa δ).bind λx=>(fb δ).bind λy=>Tr op op' x y (fc δ)
def tR(f:Ca->Res D):Ca->Res Bool:=λδ=>(f δ).bind Pp
def Cf(a b:Ca->Res Bool):Ca->Res Bool:=λδ=>JY (a δ) (b δ)
def Ci(a b:Ca->Res Bool):Ca->Res Bool:=λδ=>R8 (a δ) (b δ)
def Qt(a:Ca->Res Bool):Ca->Res Bool:=λδ=>(a δ).bind λk=>.ok (!k)
def N4(a b:Ca->Res D):Ca->Res D:=λδ=>N5 (a δ) (b δ)
def vOr(a b:Ca->Res D):Ca->Res D:=λδ=>orD (a δ) (b δ)
def vIf(c:Ca->Res Bool)(a b:Ca->Res D):Ca->Res D:=λδ=>(c δ).bind λk=>if k=true then a δ else b δ
def Ra:Ca->Res (List D):=λ_=>.ok []
def Aa(f:Ca->Res D)(fs:Ca->Res (List D)):Ca->Res (List D):=λδ=>QE (f δ) (fs δ)
def Tg:Ca->Res (Option Int):=λ_=>.ok none
def De(f:Ca->Res (List D)):Ca->Res D:=λδ=>(f δ).bind λds=>.ok (.lst ds)
def Rb(n:Nat)(t:D->Ca->Res Ca)(gc:Ca->Res Bool)(fe:Ca->Res D)(fi:Ca->Res (List D)):Ca->Res (List D):=λδ=>(fi δ).bind λds=>Yc n t gc fe δ ds
def Bb(g1 g2:Ca->Out):Ca->Out:=λδ=>Em (g1 δ) g2
def Vb(i:Nat)(f:Ca->Res D):Ca->Out:=λδ=>Kj (f δ) λd=>.nx (δ.set i (some (.d d)))
def Oe(i:Nat)(f:Ca->Res (List D)):Ca->Out:=λδ=>Kj (f δ) λds=>.nx (δ.set i (some (.o ds)))
def Of(c:Ca->Res Bool)(a b:Ca->Out):Ca->Out:=λδ=>W4 (c δ) (a δ) (b δ)
def Df(t:D->Ca->Res Ca)(g:Ca->Out)(fi:Ca->Res (List D)):Ca->Out:=λδ=>Kj (fi δ) λds=>Te t g ds δ
def Dp(n:Nat)(c:Ca->Res Bool)(g:Ca->Out):Ca->Out:=λδ=>Pe c g n δ
def Ho(i:Nat)(f:Ca->Res D):Ca->Out:=λδ=>Yv i δ (f δ)
def Tb(f:Ca->Res D):Ca->Out:=λδ=>Kj (f δ) λd=>.rt d
def NO:Ca->Out:=λ_=>.rt .non
def KO(f:Ca->Res D):Ca->Out:=λδ=>Kj (f δ) λ_=>.nx δ
def SG(t:D->Ca->Res Ca)(δ:Ca)(d:D):Out:=match t d δ with
 | .ok δ'=>.nx δ'
 |_=>.stuck
def Ku(t:D->Ca->Res Ca)(f:Ca->Res D):Ca->Out:=λδ=>Kj (f δ) (SG t δ)
section
variable {p:vg}{t:D->Ca->Res Ca}{fs:Ca->Res (List D)}
theorem VR(he:DE X xw e f)(hg:DG X tg t)(hs:kq [tg] e pos.line X.env=pure false:=by rfl)(hw:lq [tg] e X.env=pure none:=by rfl)(h1:(gg [tg] X.env).map (·.2)= [mn tg X.env]:=by rfl):DS X xw (.Assign [tg] e pos) (Ku t f):=
 PS.weak (JZ he hg hs hw h1) λDn σ H ⟨W₀,H₀,W,δ,st,q⟩=>⟨W₀,H₀,W,δ,st,by
  change RS X.K xw W₀ H₀ W H (Kj (f δ) (SG t δ)) Dn at q;dsimp only;cases hf:f δ with
  |stuck=>rw[hf]at q;exact q
  |ex c fs=>rw[hf]at q;exact q
  |ok d=>
   rw[hf]at q
   have q':RS X.K xw W₀ H₀ W H (SG t δ d) Dn:=q;unfold SG at q';show RS X.K xw W₀ H₀ W H (match t d δ with| .ok δ'=>.nx δ'|_=>.stuck) Dn;cases ht:t d δ with
   |ok δ'=>rw[ht]at q';exact q'
   |ex c fs=>rw[ht]at q';exact q'
   |stuck=>rw[ht]at q';exact q'⟩
theorem U5:DS X xw st (λ_=>.stuck):=PS.weak BO λDn σ H ⟨W₀,H₀,W,δ,st,q⟩=>q
theorem Kv{op:D->Res (List D)}(st:StHas X.K W₀ H₀ W H σ δ)(q:RF X.K xw W H ((fa δ).bind op) Q)(h:∀ H2 d v,Same H H2->WL W H2->StHas X.K W₀ H₀ W H2 σ δ->HasT X.K W H2 d v->fa δ= .ok d->RF X.K xw W H2 (op d) Q->R v H2):
  FQ X.K xw fa σ H λx H1=>R x H1:=by
 refine⟨W₀,H₀,W,δ,st,?_⟩;cases h1:fa δ with
 |stuck=>rw[h1]at q;exact q
 |ex c fs=>rw[h1]at q;exact q
 |ok d=>
  rw[h1]at q
  intro v H1 k1 hv;exact h H1 d v k1 (st.fr.wl.same k1) (st.same k1) hv h1 (RF.same (r:=op d) q k1)
def Oc:D->Res (List D)
 | .tup ds=>.ok ds
 | .lst ds=>.ok ds
 |_=>.stuck
theorem EH(hm:X.mg "list"=none)(ha:DP X xw a fa)(hg:Gl X "list":=by rfl)(he:aa [a] X.env=(false,eval a X.env)::aa [] X.env:=by rfl)(hpl:(zd pos (aa [] X.env)).any (·.1)=false:=by rfl):
  DF X xw (.Call (.Name "list" p) [a] [] pos) (b1 Oc fa):=
 PE.weak (Nv Bw hg hm (by decide +kernel) (Xe ha Hk he) (by decide) (by decide) he hpl) λσ H Q ⟨W₀,H₀,W,δ,st,q⟩=>Kv st q λH2 d v k w st2 hv _ q2=>by
  unfold Oc at q2;split at q2
  .obtain⟨p,xs,e,sq,r⟩:=hv.tup;rw[e];exact⟨p,xs,rfl,.inr sq,λl hl=>q2 l xs H2 (Same.refl _) hl r⟩
  .obtain⟨p,xs,e,sq,r⟩:=hv.lst;rw[e];exact⟨p,xs,rfl,.inl sq,λl hl=>q2 l xs H2 (Same.refl _) hl r⟩
  .exact q2.elim
def Bj:D->Res D
 | .tup ds=>.ok (.tup ds)
 | .lst ds=>.ok (.tup ds)
 |_=>.stuck
theorem JK(hm:X.mg "tuple"=none)(ha:DP X xw a fa)(hg:Gl X "tuple":=by rfl)(he:aa [a] X.env=(false,eval a X.env)::aa [] X.env:=by rfl)(hpl:(zd pos (aa [] X.env)).any (·.1)=false:=by rfl):
  DE X xw (.Call (.Name "tuple" p) [a] [] pos) (b1 Bj fa):=
 Ro Zt (λW H d v Q w hv q2=>by
  unfold Bj at q2;split at q2
  .obtain⟨p,xs,e,sq,r⟩:=hv.tup;rw[e];exact⟨p,xs,rfl,.inr ⟨sq,q2 _ H (Same.refl _) (by rw[Has];exact⟨p,xs,rfl,sq,r⟩)⟩⟩
  .obtain⟨p,xs,e,sq,r⟩:=hv.lst;rw[e];exact⟨p,xs,rfl,.inl ⟨sq,λl hl=>q2.newT w hl r⟩⟩
  .exact q2.elim) hm (by decide +kernel) ha hg (by decide) (by decide) he hpl
theorem Yu{id:String}{op:List D->Res D}(hc:Di X (.builtin id) r)(hop:∀ W H ds vs Q,WL W H->HasL X.K W H ds vs->RE X.K xw W H (op ds) Q->r vs H Q)(hm:X.mg x=none)(hv:vf x=some (.builtin id))(ha:DA X xw (a::es) fs)(hg:Gl X x)(hn:x≠"__name__")(hdb:(x==("__debug__":xa))=false)(he:aa (a::es) X.env=(false,eval a X.env)::aa es X.env)(hpl:(zd pos (aa es X.env)).any (·.1)=false):DE X xw (.Call (.Name x p) (a::es) [] pos) (b1 op fs):=
 PE.weak (Dt hc hg hm hv ha hn hdb he hpl) λσ H Q ⟨W₀,H₀,W,δ,st,q⟩=>Yl st q λH2 ds vs k w st2 hv _ q2=>hop W H2 ds vs Q w hv q2
def XM:List D->Res D
 | [.int i,.int j]=>.ok (.int (max i j))
 |_=>.stuck
def BN:List D->Res D
 | [.int i,.int j]=>.ok (.int (min i j))
 |_=>.stuck
theorem HR{b:qc}(hc:X.calm=true)(hm:X.mg "max"=none)(ha:DA X xw [a,b] fs)(hg:Gl X "max":=by rfl)(he:aa [a,b] X.env=(false,eval a X.env)::aa [b] X.env:=by rfl)(hpl:(zd pos (aa [b] X.env)).any (·.1)=false:=by rfl):
  DE X xw (.Call (.Name "max" p) [a,b] [] pos) (b1 XM fs):=
 Yu (YG hc) (λW H ds vs Q w hv q=>by
  unfold XM at q;split at q
  .rename_i i j;refine⟨i,j,hv.two,?_⟩;have e:(if j>i then j else i)=max i j:=by split<;>omega
   rw[e];exact q.int
  .exact q.elim) hm (by decide +kernel) ha hg (by decide) (by decide) he hpl
theorem JR{b:qc}(hc:X.calm=true)(hm:X.mg "min"=none)(ha:DA X xw [a,b] fs)(hg:Gl X "min":=by rfl)(he:aa [a,b] X.env=(false,eval a X.env)::aa [b] X.env:=by rfl)(hpl:(zd pos (aa [b] X.env)).any (·.1)=false:=by rfl):
  DE X xw (.Call (.Name "min" p) [a,b] [] pos) (b1 BN fs):=
 Yu (AH hc) (λW H ds vs Q w hv q=>by
  unfold BN at q;split at q
  .rename_i i j;refine⟨i,j,hv.two,?_⟩;have e:(if j<i then j else i)=min i j:=by split<;>omega
   rw[e];exact q.int
  .exact q.elim) hm (by decide +kernel) ha hg (by decide) (by decide) he hpl
def HB:D->Res D
 | .int i=>.ok (.int (if i<0 then -i else i))
 |_=>.stuck
theorem OY(hm:X.mg "abs"=none)(ha:DP X xw a fa)(hg:Gl X "abs":=by rfl)(he:aa [a] X.env=(false,eval a X.env)::aa [] X.env:=by rfl)(hpl:(zd pos (aa [] X.env)).any (·.1)=false:=by rfl):
  DE X xw (.Call (.Name "abs" p) [a] [] pos) (b1 HB fa):=
 Xu YJ (λW H d v Q w hv q=>by
  unfold HB at q;split at q
  .exact⟨_,by rw[hv.int],q.int⟩
  .exact q.elim) hm (by decide +kernel) ha hg (by decide) (by decide) he hpl
def slD(d:D)(lo hi:Option Int):Res D:=match d with
 | .tup ds=>if whole ds.length lo hi then .stuck else .ok (.tup (cutD ds lo hi))
 | .lst ds=>.ok (.lst (cutD ds lo hi))
 |_=>.stuck
def W9(K:td)(tl:TE):TI:=λσ H R=>tl σ H λx H1=>∃ a,x=.ref a/\(((∃ xs,SqL K H1 a xs)/\R (D9 K a) H1)\/((∃ xs,SqT K H1 a xs)/\R (E9 K a) H1))
theorem Q2{l:qc}{tl:TE}(hl:PE X l tl):PI X tg l (W9 X.K tl):=by
 intro pins s σ H R I h;refine thn (hl pins s σ H _ I h) λv s1 ⟨x,H1,I1,r1,q1⟩=>?_;obtain⟨a,e,q1⟩:=q1;subst e;cases r1;rcases q1 with⟨⟨xs,hq⟩,q⟩|⟨⟨xs,hq⟩,q⟩
 .obtain⟨its,rv,p,hz⟩:=I1.list hq;refine xp p.isList ?_;refine⟨s1.heap.objs.size,[s1.heap.objs.size],_,_,H1,rfl,I1.kept (t':=s1.toks) λb o e=>ja _ e,IJ a _,⟨_,yc _ rfl,rfl,rfl⟩,λb hb=>?_,q⟩;have e:b=s1.heap.objs.size:=by simpa using hb
  subst e;exact I1.fpOk (jd _) (I1.hok.fresh (jd _))
 .obtain⟨its,rv,p,hz⟩:=I1.tuple hq;refine rs (show s1.heap.IsTuple a its.toArray from p) ?_;refine⟨s1.heap.objs.size,[s1.heap.objs.size],_,_,H1,rfl,I1.kept (t':=s1.toks) λb o e=>ja _ e,AE a _,⟨_,yc _ rfl,rfl,rfl⟩,λb hb=>?_,q⟩;have e:b=s1.heap.objs.size:=by simpa using hb
  subst e;exact I1.fpOk (jd _) (I1.hok.fresh (jd _))
theorem GZ(h:DE X xw e f):DI X xw tg e (b1 Oc f):=PI.weak (Q2 h) λσ H R ⟨W₀,H₀,W,δ,st,q⟩=>by
 refine⟨W₀,H₀,W,δ,st,?_⟩;simp only[b1]at q;cases h1:f δ with
 |stuck=>rw[h1]at q;exact q
 |ex c fs=>rw[h1]at q;exact q
 |ok d=>
  rw[h1]at q
  intro v H1 k1 hv;cases d with
  |lst ds=>
   rw[Has]at hv
   obtain⟨a,xs,e,sq,r⟩:=hv;exact⟨a,e,.inl ⟨⟨xs,sq.sq⟩,q _ H1 k1 (I0 (st.fr.wl.same k1) sq r)⟩⟩
  |tup ds=>
   rw[Has]at hv
   obtain⟨a,xs,e,sq,r⟩:=hv;exact⟨a,e,.inr ⟨⟨xs,sq⟩,q _ H1 k1 (J0 (st.fr.wl.same k1) sq r)⟩⟩
  |_=>exact q.elim
theorem NK(h:ke)(hb:Tl<h.objs.size):ObjOk P w H (h.push {cls:=.type "dict",data:=.dict #[]}) h.objs.size (.dK []):=
 ⟨vh _,beq_eq_false_iff_ne.mpr (qk (Re hb)),[],.nil,Heap.DictOf.new h⟩
end
def Vs(d:D):Res D:=match d with
 | .non=>.ok (.bl false)
 |_=>.ok (.bl true)
theorem UK{j pos'}(ha:DP X xw a fa):DT X xw (.Compare a [.IsNot] [.Constant .none j pos'] pos) (tR (b1 Vs fa)):=
 DE.t_of (f:=b1 Vs fa) (PT.weak (EO (TU ha)) λσ H Q q=>by
  obtain⟨W₀,H₀,W,δ,st,q⟩:=q
  exact Ai st q λH2 d v k w st2 hv _ q2=>by
   unfold Vs at q2;split at q2
   .rw[hv.non];exact q2.bl
   .rename_i hd
    rw[decide_eq_false (hv.isN hd)];exact q2.bl)
theorem Ml(hr:Room k A):A.units+40<zr:=by have:=hr.units;omega
theorem EL{fa:ca}{N:List xa}(F:Fun K x qual st fa fd)(S:FnScope N ps (Pa st))(body:∀ (cdv:Fa) (A:je) (outer:List tu) (s:Shared) (H:Hp) (E:XK),Room k (A.deeper (wn qual (Pa st) s.heap.objs.size fa cdv))->
   RJ (Qo Oo P w K mg base N qual (Pa st) fa cdv A outer s H E).nox Jq (Ad st) g):FnOk P w K mg base Oo (k+1) fa fd ps (VX K ps.length (Xc N.length g)):=by
 refine F.ok S (λvs H Q E h=>h.1) (λcdv A outer s H vs Q E hr h=>?_);obtain⟨hl,W,ds,hw,hd,q⟩:=h;refine⟨_,body cdv A outer s H E hr,W,H,W,Sb N.length ds,Pj hw hd,?_⟩;unfold Xc at q;cases h:g (Sb N.length ds) with
 |rt d=>rw[h]at q;exact λv H' k hv=>q v H' k hv
 |nx δ=>rw[h]at q;exact λW' H' σ' k st'=>q .non H' st'.fr.ext (by rw[Has])
 |bk δ=>rw[h]at q;exact q.elim
 |ct δ=>rw[h]at q;exact q.elim
 |ex c fs=>rw[h]at q;exact q.elim
 |stuck=>rw[h]at q;exact q.elim
def J5(H:Hp):Prop:=∀ q∈E4,H q.1=some (.tab q.2.1 q.2.2)
def CG(K:td):Sp:=λvs H Q _=>∃ (a:ca) (ns:List Int),vs= [.ref a]/\SqL K H a (ns.map V.int)/\ns.length<=63/\J5 H/\∀ H',J5 H'->Q (.bl true) H'
theorem U0{f:ca}(G:FnOk P w K mg base Oo k f fd ps (VX K 1 m))(h:∀ ns:List Int,ns.length<=63->m [.lst (ns.map D.int)]=.ok (.bl true)):FnOk P w K mg base Oo k f fd ps (CG K):=by
 refine G.imp λvs H Q E q=>?_;obtain⟨a,ns,rfl,sq,hl,tb,q⟩:=q;refine⟨rfl,λ_=>False,[.lst (ns.map D.int)],⟨λb z=>z.elim,tb⟩,HasL.cons ?_ HasL.nil,?_⟩
 .rw[Has];refine⟨a,_,rfl,?_,HasL.ints⟩;rcases sq with(z|z)|z
  .exact .inl ⟨z,λz=>z⟩
  .exact .inr (.inl z)
  .exact .inr (.inr z)
 .rw[h ns hl];intro v H' k hv;rw[Has]at hv
  rw[hv];exact q H' λz hz=>k _ _ (tb z hz)
end L3
namespace L3
open PySem
variable{prog:ic}{w:vd}{A:je}{E Q:Fa->Shared->Prop}{s:Shared}{it:ca}{i:Nat}{items:Array Fa}{x:Fa}
theorem WC{t:ca}(hi:s.heap.IsTupleIter it t i)(ht:s.heap.IsTuple t items)(hx:items[i]? =some x)(hQ:∀ h',h'.IsTupleIter it t (i+1)->dm it s.heap h'->Q x {s with heap:=h'}):wa (pb prog w) A (xj (.ref it)) Q E s:=by
 obtain⟨o,h1,h2,h3⟩:=id hi;obtain⟨u,g1,g2,m,g3⟩:=ht;unfold xj;refine Da (zi (name:=jr "__next__") hi.typeIs F.slot_tuple_iterator_next (og F.slot_tuple_iterator_next hi.typeIs F.entry_tuple_iterator_next ?_ (F.args_tuple_iterator_next_1 _)));show wa _ _ (field (.ref it) 0 >>= _) _ _ s;refine Da (jo h1 h3 (x:=.ref t) rfl ?_);show wa _ _ (if(Value.ref t==Value.none)=true then _ else _) _ _ s;rw[if_neg (show ¬ ((Value.ref t==Value.none)=true) from Db)];show wa _ _ (field (.ref it) 1 >>= _) _ _ s;refine Da (jo h1 h3 (x:=.int i 0) rfl ?_);show wa _ _ (seqItems? (.ref t) >>= _) _ _ s;refine Da (ss g1 g3 ?_);simp only[lp,hx];refine Da (wpAny_setField h1 h3 (by simp) (ia ⟨x,rfl,ia (hQ _ ⟨_,uj _ h1 (Obj.isFreed_of_fields (zn h3 _)),(Obj.cls_mapFields ..).trans h2,?_⟩ (dm.update ..))⟩));rw[zn h3];simp[fg]
theorem HI{t:ca}(hh:A.handled=none)(hi:s.heap.IsTupleIter it t i)(ht:s.heap.IsTuple t items)(hx:items[i]? =none)(hE:∀ h' e,Heap.ExtBut it s.heap h'->(∃ o,h'.get? e=some o/\o.cls=.type "StopIteration")->E (.ref e) {s with heap:=h'}):wa (pb prog w) A (xj (.ref it)) Q E s:=by
 obtain⟨o,h1,h2,h3⟩:=id hi;obtain⟨u,g1,g2,m,g3⟩:=ht;unfold xj;refine Da (zi (name:=jr "__next__") hi.typeIs F.slot_tuple_iterator_next (og F.slot_tuple_iterator_next hi.typeIs F.entry_tuple_iterator_next ?_ (F.args_tuple_iterator_next_1 _)));show wa _ _ (field (.ref it) 0 >>= _) _ _ s;refine Da (jo h1 h3 (x:=.ref t) rfl ?_);show wa _ _ (if(Value.ref t==Value.none)=true then _ else _) _ _ s;rw[if_neg (show ¬ ((Value.ref t==Value.none)=true) from Db)];show wa _ _ (field (.ref it) 1 >>= _) _ _ s;refine Da (jo h1 h3 (x:=.int i 0) rfl ?_);show wa _ _ (seqItems? (.ref t) >>= _) _ _ s;refine Da (ss g1 g3 ?_);simp only[lp,hx];refine Da (dq (Da (wpAny_setField h1 h3 (by simp) ?_)));show wa _ _ (newExc (.type "StopIteration") [] >>= _) _ _ _;refine Da ?_;simp only[newExc,newTuple];refine Da (tf ?_ (by size_fits));refine Da (m:=ft _ _) (wpAny_of_eq (a:=Value.none) (by first|rfl|(simp only[ft];rfl)) ?_);refine tf ?_ (by size_fits);simp only[raiseNew];refine Da (wpAny_handled ?_);first|rw[show A.in1.handled=none from hh]|rw[hh]
 refine Da (ia (wpAny_throw (hE _ _ (((dm.update ..).extBut.push _).push _) ⟨_,yc _ rfl,rfl⟩)))
theorem IZ(hh:A.handled=none)(it t:ca)(hne:t≠it)(items:Array Fa):Draws prog w A it [it,t] items.size (λi v=>items[i]? =some v) (λi h=>h.IsTupleIter it t i/\h.IsTuple t items) where
 live:=λ_ _ st=>let ⟨o,ho,_⟩:=st.1;⟨o,ho⟩
 frame:=λ_ _ _ st hk=>⟨let ⟨o,e,r⟩:=st.1;⟨o,hk it (by simp) o e,r⟩,let ⟨o,e,r⟩:=st.2;⟨o,hk t (by simp) o e,r⟩⟩
 item:=λi s Q E hi st hQ=>WC st.1 st.2 (x:=items[i]) (by simp[hi]) λh' z hs=>hQ _ h' s.toks (by simp[hi]) ⟨z,let ⟨o,e,r⟩:=st.2;⟨o,hs.extBut _ _ hne e,r⟩⟩ hs
 done:=λs Q E st hE=>HI hh st.1 st.2 (by simp) hE
structure ZA(z TI TO i1 i2:ca)(f1 f2:List ca):Prop where
 a1:TI≠z
 a2:TO≠z
 a3:TI≠TO
 m1:i1∈f1
 m2:i2∈f2
 z1:z∉f1
 z2:z∉f2
 o1:TO∉f1
 o2:TO∉f2
 t1:TI∉f1
 t2:TI∉f2
 x1:i2∉f1
 x2:i1∉f2
variable{z i1 i2:ca}{k:Nat}{a b:Fa}
section
variable {TI TO:ca}{f1 f2:List ca}{n1 n2:Nat}{P1 P2:Nat->Fa->Prop}{S1 S2:Nat->ke->Prop}
end
def IsSq(tup:Bool)(h:ke)(l:ca)(xs:Array Fa):Prop:=match tup with
 |true=>h.IsTuple l xs
 |false=>h.IsList l xs
def P8(tup:Bool)(l:ca):ki:=match tup with
 |true=> {cls:=.type "tuple_iterator",data:=.fields #[.ref l,.int 0 0]}
 |false=> {cls:=.type "list_iterator",data:=.fields #[.ref l,.int 0 0]}
def SqI(tup:Bool)(h:ke)(i l:ca)(k:Nat):Prop:=match tup with
 |true=>h.IsTupleIter i l k
 |false=>h.IsListIter i l k
variable{i l:ca}{h h':ke}
theorem SqI.at'{tup:Bool}(q:SqI tup h i l k)(f:∀ o,h.get? i=some o->h'.get? i=some o):SqI tup h' i l k:=by
 cases tup with
 |true=>obtain⟨o,e,r⟩:=q;exact⟨o,f o e,r⟩
 |false=>obtain⟨o,e,r⟩:=q;exact⟨o,f o e,r⟩
theorem SqI.rec{tup:Bool}(q:SqI tup h i l k):∃ o vs,h.get? i=some o/\o.data=.fields vs:=by
 cases tup with
 |true=>obtain⟨o,e,_,r⟩:=q;exact⟨o,_,e,r⟩
 |false=>obtain⟨o,e,_,r⟩:=q;exact⟨o,_,e,r⟩
variable{xs:Array Fa}
theorem IsSq.lt{tup:Bool}(q:IsSq tup h l xs):l<h.objs.size:=by
 cases tup with
 |true=>obtain⟨o,e,_⟩:=q;exact qd e
 |false=>obtain⟨o,e,_⟩:=q;exact qd e
theorem RK(hh:A.handled=none)(tup:Bool)(it l:ca)(hne:l≠it)(xs:Array Fa):Draws prog w A it [it,l] xs.size (λi v=>xs[i]? =some v) (λi h=>SqI tup h it l i/\IsSq tup h l xs):=by
 cases tup with
 |true=>exact IZ hh it l hne xs
 |false=>exact Draws.list hh it l hne xs
theorem Rx{tup:Bool}(q:IsSq tup s.heap l xs)(h:Q (.ref s.heap.objs.size) {s with heap:=s.heap.push (P8 tup l)}):
  wa (pb prog w) A (pyIter (.ref l)) Q E s:=by
 cases tup with
 |true=>exact rs q h
 |false=>exact xp q h
section
variable {TI TO l1 l2:ca}{t1 t2:Bool}{ys:Array Fa}{y:Fa}
end
open PySem.Spec PyProof.Rows L2
def IQ(t:Bool)(K:td)(H:Hp)(l:ca)(xs:List V):Prop:=match t with
 |true=>SqT K H l xs
 |false=>SqL K H l xs
variable{xs:List V}{X:Cx}{H:Hp}{t':Nat}{ch:List ca}
section
variable {pins:List (ca×ki)}{σ:L2.St}
theorem Nw(I:Inv X pins σ H s){t:Bool}(h:IQ t X.K H l xs):∃ its:List Fa,Vals xs its/\IsSq t s.heap l its.toArray/\xs.length<=sizeLine:=by
 cases t with
 |true=>obtain⟨its,r,p,z⟩:=I.tuple h;exact⟨its,r,p,z⟩
 |false=>obtain⟨its,r,p,z⟩:=I.list h;exact⟨its,r,p.isList,z⟩
theorem KC(I:Inv X pins σ H s){t:Bool}{ys:List V}(h:IQ t X.K H l xs)(h':IQ t X.K H l ys):xs=ys:=by
 cases t with
 |true=>exact I.tuple_inj h h'
 |false=>exact I.list_inj h h'
theorem Cv{n:ca}{its:List Fa}(I:Inv X pins σ H s)(hf:∀ b∈ch,Pm X pins H b)(k:∀ b o,b∉ch->s.heap.get? b=some o->h'.get? b=some o)(hn:s.heap.objs.size<=n)(r:Vals xs its)(hz:xs.length<=sizeLine)(new:IsTup h' n its.toArray):Inv X pins σ (Pb H n (.tup xs)) {s with heap:=h',toks:=t'}:=by
 have hfree:=I.hok.fresh hn;have nch:∀ b u,H b=some u->b∉ch:=λb u e m=>by rw[(hf b m).1]at e;cases e
 have nn:∀ b o,s.heap.get? b=some o->b≠n:=λb o e=>Re (yd (qd e) hn)
 refine I.step (g':=s.gens) (d':=s.drawn) (ch:=ch) (λb hb=>⟨(hf b hb).2.2.2.1,(hf b hb).2.1,(hf b hb).2.2.2.2.1,(hf b hb).2.2.2.2.2⟩) (λb o _ _ hc e _=>k b o hc e) (λb o _ _ hc e _=>⟨o.slots,k b o hc e⟩)
  (λb o hc e q=>by rw[Ha (nn b o e)];exact q) (λb o hc e=>⟨o,k b o hc e⟩) (λb ys e=>by rw[Ha (Ua e hfree)];exact e) (λb o u e=>by rw[Ha (Ua e hfree)];exact e)
  (λb ps e=>⟨#[],by rw[Ha (Ua e hfree),e];simp⟩) (λm hm=>?_) (λb u e=>?_) I.bare
 .obtain⟨o,es,ep,ho,q⟩:=hm;exact⟨o,es,ep,k _ o (λz=>(hf _ z).2.1 rfl) ho,q⟩
 .by_cases hb:b=n
  .subst hb;rw[Ta]at e;cases e
   exact⟨hz,its,r,new⟩
  .rw[Ha hb]at e
   refine(I.hok b u e).stay (λc v hc q=>k c v ?_ q) (λc q=>by rw[Ha (Ua q hfree)];exact q) λc ys q=>by rw[Ha (Ua q hfree)];exact q
   rcases hc with z|z
   .rw[z];exact nch b u e
   .exact nch c _ z
theorem Dv(I:Inv X pins σ H s)(hf:∀ b∈ch,Pm X pins H b)(k:∀ b o,b∉ch->s.heap.get? b=some o->h'.get? b=some o):Inv X pins σ H {s with heap:=h',toks:=t'}:=by
 have nch:∀ b u,H b=some u->b∉ch:=λb u e m=>by rw[(hf b m).1]at e;cases e
 refine I.step (g':=s.gens) (d':=s.drawn) (ch:=ch) (λb hb=>⟨(hf b hb).2.2.2.1,(hf b hb).2.1,(hf b hb).2.2.2.2.1,(hf b hb).2.2.2.2.2⟩) (λb o _ _ hc e _=>k b o hc e) (λb o _ _ hc e _=>⟨o.slots,k b o hc e⟩)
  (λ_ _ _ _ q=>q) (λb o hc e=>⟨o,k b o hc e⟩) (λ_ _ e=>e) (λ_ _ _ e=>e) (λb ps e=>⟨#[],by rw[e];simp⟩) (λm hm=>?_) (λb u e=>?_) I.bare
 .obtain⟨o,es,ep,ho,q⟩:=hm;exact⟨o,es,ep,k _ o (λz=>(hf _ z).2.1 rfl) ho,q⟩
 .refine(I.hok b u e).stay (λc v hc q=>k c v ?_ q) (λ_ q=>q) λ_ _ q=>q;rcases hc with z|z
  .rw[z];exact nch b u e
  .exact nch c _ z
end
variable{a b:qc}{xw:XW}{pos:vg}{K:td}
section
variable {elts:List qc}{kt:Nat}{pt p:vg}{fs:Ca->Res (List D)}
def BM:D->Option (List D)
 | .tup ds=>some ds
 | .lst ds=>some ds
 |_=>none
theorem V3{W:WS}{d:D}{v:V}{ds:List D}(w:WL W H)(h:Has K W H d v)(e:BM d=some ds):
  ∃ t l xs,v=.ref l/\HasL K W H ds xs/\∀ W' H2,Step W H W' H2->IQ t K H2 l xs:=by
 cases d with
 |tup es=>
  cases e;rw[Has]at h
  obtain⟨a,xs,e1,sq,r⟩:=h;exact⟨true,a,xs,e1,r,λW' H2 k=>Pt k.keep w sq⟩
 |lst es=>
  cases e;rw[Has]at h
  obtain⟨a,xs,e1,sq,r⟩:=h;exact⟨false,a,xs,e1,r,λW' H2 k=>(sq.keep k.keep w k.new).sq⟩
 |_=>cases e
end
variable{i:Int}
section
variable {α β:Type}
theorem Eb(a:α)(k:α->Out):Kj (.ok a) k=k a:=rfl
theorem ZC(c:xa)(fs:List D)(k:α->Out):Kj (.ex c fs) k=.ex c fs:=rfl
theorem Ap(k:α->Out):Kj .stuck k=.stuck:=rfl
theorem Fb(δ:Ca)(g:Ca->Out):Em (.nx δ) g=g δ:=rfl
theorem Le(d:D)(g:Ca->Out):Em (.rt d) g=.rt d:=rfl
theorem En(g:Ca->Out):Em .stuck g=.stuck:=rfl
theorem Ub(c:Bool)(a b:Out):W4 (.ok c) a b=if c=true then a else b:=rfl
theorem Ve(c:Bool)(y:Res Bool):JY (.ok c) y=if c=true then y else .ok false:=rfl
theorem Dg(c:Bool)(y:Res Bool):R8 (.ok c) y=if c=true then .ok true else y:=rfl
theorem Xv(c:Bool)(y:Res D):N5 (.ok (.bl c)) y=if c=true then y else .ok (.bl false):=by cases c<;>rfl
theorem DD(c:Bool)(y:Res D):orD (.ok (.bl c)) y=if c=true then .ok (.bl true) else y:=by cases c<;>rfl
theorem Wa(c:Bool):Pp (.bl c)=.ok c:=rfl
theorem Tw(c:Bool):Y9 (.bl c)=.ok (.bl (!c)):=rfl
theorem Cd(i j:Int):Al (.int i) (.int j)=.ok (.bl (i==j)):=by simp[Al,Qb,Tf]
theorem VC(i j:Int):FU (.int i) (.int j)=.ok (.bl (!(i==j))):=by simp[FU,Qb,Tf]
theorem WB(i j:Bool):Al (.bl i) (.bl j)=.ok (.bl (i==j)):=by simp[Al,Qb,Tf]
theorem An(i j:Int):W0 (.int i) (.int j)=.ok (.bl (decide (i<j))):=rfl
theorem Pl(i j:Int):ZP (.int i) (.int j)=.ok (.bl (decide (i<=j))):=rfl
theorem Ll(i j:Int):JL (.int i) (.int j)=.ok (.bl (decide (j<i))):=rfl
theorem Bs(i j:Int):GX (.int i) (.int j)=.ok (.bl (decide (j<=i))):=rfl
theorem Lc(i j:Int):Pc (.int i) (.int j)=.ok (.int (i+j)):=rfl
theorem FE(xs ys:List D):Pc (.tup xs) (.tup ys)=@ite (Res D) (xs.length+ys.length<=sizeLine) (xc _) (.ok (.tup (xs++ys))) .stuck:=rfl
theorem Qm(xs ys:List D)(h:xs.length+ys.length<=1000):Pc (.tup xs) (.tup ys)=.ok (.tup (xs++ys)):=by
 rw[FE,if_pos (uf h Jz)]
theorem Ui(i j:Int):Fp (.int i) (.int j)=.ok (.int (i-j)):=rfl
theorem Rl(i:Int):Sw (.int i)=.ok (.int (-i)):=rfl
theorem Xq(i j:Int):Zc (.int i) (.int j)=@ite (Res D) (0<j) (xc _) (.ok (.int (i%j))) .stuck:=rfl
theorem Vn(i j:Int):Kl (.int i) (.int j)=@ite (Res D) (0<j/\j<1073741824) (xc _) (.ok (.int (i / j))) .stuck:=rfl
theorem Vq(i j:Int):XM [.int i,.int j]=.ok (.int (max i j)):=rfl
theorem Wq(i j:Int):BN [.int i,.int j]=.ok (.int (min i j)):=rfl
theorem IB(i:Int):HB (.int i)=.ok (.int (if i<0 then -i else i)):=rfl
theorem NC(ds:List D):Dm (.tup ds)=.ok (.int ds.length):=rfl
theorem Yh(ds:List D):Dm (.lst ds)=.ok (.int ds.length):=rfl
theorem SD(ds:List D):Oc (.tup ds)=.ok ds:=rfl
theorem Aj(ds:List D):Oc (.lst ds)=.ok ds:=rfl
theorem Tt(ds:List D):Bj (.tup ds)=.ok (.tup ds):=rfl
theorem Ko(ds:List D):Bj (.lst ds)=.ok (.tup ds):=rfl
theorem Fh(i:Int):Bo (.int i)=.ok (some i):=rfl
theorem Sa(d:D)(ds:List D):QE (.ok d) (.ok ds)=.ok (d::ds):=rfl
theorem Eh(a:α):noex (.ok a)=.ok a:=rfl
theorem WO(ds:List D)(lo hi:Option Int):slD (.lst ds) lo hi=.ok (.lst (cutD ds lo hi)):=rfl
theorem Va(x:D)(l:Ca):Ea 0 (some (.d x)::l)=.ok x:=rfl
theorem Gb(n:Nat)(a:Option S)(l:Ca):Ea (n+1) (a::l)=Ea n l:=by simp[Ea]
theorem Qa(x:D)(l:Ca):Ga 0 (some (.d x)::l)=.ok x:=rfl
theorem Nd(x:List D)(l:Ca):Ga 0 (some (.o x)::l)=.ok (.lst x):=rfl
theorem Ya(n:Nat)(a:Option S)(l:Ca):Ga (n+1) (a::l)=Ga n l:=by simp[Ga]
theorem Jb(n:Nat)(m:List D->Res D)(ds:List D)(d:D)(h:m ds=.ok d)(hn:ds.length=n):La n m ds=.ok d:=by
 unfold La;rw[if_pos hn,h];rfl
theorem HM(ds:List D)(i:Int)(d:D)(h:Ir ds i=some d):Qe (.tup ds) (.int i)=.ok d:=by show(match Ir ds i with|some d=>Res.ok d|none=>Res.stuck)=_;rw[h]
theorem Bq(ds:List D)(i:Int)(d:D)(h:Ir ds i=some d):Qe (.lst ds) (.int i)=.ok d:=by show(match Ir ds i with|some d=>Res.ok d|none=>Res.stuck)=_;rw[h]
theorem Ei{xs:List α}{d:α}(h0:0<=i)(h:xs[i.toNat]? =some d):Ir xs i=some d:=by
 have hl:=(ya.mp h).1;unfold Ir JT;rw[if_pos h0,if_pos (by omega)];exact h
theorem WJ{xs:List α}(h0:0<=i)(h1:i<xs.length):∃ d,Ir xs i=some d/\d∈xs:=by
 have hl:i.toNat<xs.length:=by omega
 exact⟨xs[i.toNat],Ei h0 (oa hl),iq hl⟩
end
section
variable {t:D->Ca->Res Ca}{body:Ca->Out}
theorem To(d:D)(ds:List D)(δ δ':Ca)(h:t d δ= .ok δ'):Te t body (d::ds) δ=(match body δ' with
   | .nx δ2=>Te t body ds δ2
   | .ct δ2=>Te t body ds δ2
   | .bk δ2=>.nx δ2
   | .rt d=>.rt d
   | .ex c fs=>.ex c fs
   | .stuck=>.stuck):=by
 rw[Te,h]
 first|done|rfl|dsimp only
end
variable{fe:Ca->Res D}
section
variable {c:Ca->Res Bool}
theorem Sh(t:D->Ca->Res Ca)(d:D)(ds:List D)(δ δ':Ca)(h:t d δ= .ok δ'):Ud t c fe (d::ds) δ=((noex (c δ')).bind λk=>if k=true then(noex (fe δ')).bind λx=>(Ud t c fe ds δ').bind λr=>.ok (x::r) else Ud t c fe ds δ'):=by
 rw[Ud];rw[h]
theorem Qp(p:D->Bool)(f:D->D)(δ:Ca):∀ (ds:List D) (x:Option S),(∀ d∈ds,c (some (.d d)::δ)=.ok (p d)/\(p d=true->fe (some (.d d)::δ)=.ok (f d)))->Ud (Za 0) c fe ds (x::δ)=.ok ((ds.filter p).map f)
 | [],_,_=>rfl
 |d::ds,x,h=>by
  obtain⟨h1,h2⟩:=h d ib;rw[Sh (Za 0) d ds (x::δ) (some (.d d)::δ) rfl,h1];have ih:=Qp p f δ ds (some (.d d)) λy hy=>h y (ua _ hy);rw[ih];cases hp:p d with
  |false=>rw[gf (by rw[hp];exact Db)];rfl
  |true=>rw[we hp,h2 hp];rfl
theorem Py(f:D->D)(δ:Ca)(ds:List D)(x:Option S)(h:∀ d∈ds,fe (some (.d d)::δ)=.ok (f d)):Ud (Za 0) (λ_=>.ok true) fe ds (x::δ)=.ok (ds.map f):=by
 rw[Qp (λ_=>true) f δ ds x λd hd=>⟨rfl,λ_=>h d hd⟩];rw[List.filter_eq_self.mpr λ_ _=>rfl]
end
theorem Ur(i j k:Int):Tr ZP ZP (.int i) (.int j) (.ok (.int k))=.ok (.bl (decide (i<=j/\j<=k))):=by
 unfold Tr;rw[Pl];by_cases h:i<=j
 .rw[decide_eq_true h];show ZP (.int j) (.int k)=_;rw[Pl];simp[h]
 .rw[decide_eq_false h];simp[h,Res.bind]
theorem Vm(i j k:Int):Tr ZP W0 (.int i) (.int j) (.ok (.int k))=.ok (.bl (decide (i<=j/\j<k))):=by
 unfold Tr;rw[Pl];by_cases h:i<=j
 .rw[decide_eq_true h];show W0 (.int j) (.int k)=_;rw[An];simp[h]
 .rw[decide_eq_false h];simp[h,Res.bind]
def Uy:Out->Res D
 | .rt d=>.ok d
 | .nx _=>.ok .non
 |_=>.stuck
theorem Pd(n:Nat)(g:Ca->Out)(ds:List D):Xc n g ds=Uy (g (Sb n ds)):=by
 unfold Xc Uy;cases g (Sb n ds)<;>rfl
theorem Lb(d:D):Uy (.rt d)=.ok d:=rfl
theorem Hw(δ:Ca):Uy (.nx δ)=.ok .non:=rfl
theorem YQ(xs:List D)(n:Nat):cutD xs none (some (n:Int))=xs.take n:=by
 unfold cutD;rw[HT.sIx_nat];show(xs.drop 0).take (min n xs.length-0)=_;rw[List.drop_zero,Nat.sub_zero,List.take_eq_take_iff];omega
open SeqAt
structure XE(X:Cx)(xw:XW)(e:qc)(f:Ca->Res D):Prop where
 h:DE X xw e f
structure XP(X:Cx)(xw:XW)(e:qc)(f:Ca->Res D):Prop where
 h:DP X xw e f
structure XF(X:Cx)(xw:XW)(e:qc)(f:Ca->Res (List D)):Prop where
 h:DF X xw e f
structure XT(X:Cx)(xw:XW)(e:qc)(f:Ca->Res Bool):Prop where
 h:DT X xw e f
structure XW'(X:Cx)(xw:XW)(e:qc)(f:Ca->Res Bool):Prop where
 h:DW X xw e f
structure XA(X:Cx)(xw:XW)(e:List qc)(f:Ca->Res (List D)):Prop where
 h:DA X xw e f
structure XO(X:Cx)(xw:XW)(e:Option qc)(f:Ca->Res (Option Int)):Prop where
 h:DO X xw e f
structure XG(X:Cx)(e:qc)(f:D->Ca->Res Ca):Prop where
 h:DG X e f
structure XGs(X:Cx)(e:List qc)(f:List D->Ca->Res Ca):Prop where
 h:C5 X e f
structure XTs(X:Cx)(e:List qc)(f:Ca->Res Bool):Prop where
 h:D5 X e f
structure XS(X:Cx)(xw:XW)(e:sf)(f:Ca->Out):Prop where
 h:DS X xw e f
structure XSs(X:Cx)(xw:XW)(e:List sf)(f:Ca->Out):Prop where
 h:RJ X xw e f
structure XI(X:Cx)(xw:XW)(tg e:qc)(f:Ca->Res (List D)):Prop where
 h:DI X xw tg e f
variable{x:xa}{n:Nat}{st:sf}{g:Ca->Out}{tgs:List qc}{ts:List D->Ca->Res Ca}{o:CmpOp}{op:D->D->Res D}{pos':vg}
section
variable {e c:qc}{f fa fb fc:Ca->Res D}{p p2:vg}{sts as bs:List sf}{tg iter elt:qc}{t:D->Ca->Res Ca}{fs:Ca->Res (List D)}{es rest:List qc}{ga gb gc:Ca->Res Bool}{g1 g2:Ca->Out}{lo hi:Option qc}{fl fh:Ca->Res (Option Int)}{fi:Ca->Res (List D)}{scope:xr}{ifs:List qc}
theorem Ja(i:Nat)(hN:X.N[i]? =some x:=by rfl)(hv:Wx X.env.scope x:=by first|exact Or.inl rfl|exact Or.inr (Or.inl rfl)|exact Or.inr (Or.inr rfl))(hd:(x==("__debug__":xa))=false:=by decide)(hcd:(x==("__classdict__":xa))=false:=by decide):XE X xw (.Name x pos) (Ea i):=⟨CZ i hN hv hd hcd⟩
theorem Ia(i:Nat)(hN:X.N[i]? =some x:=by rfl)(hv:Wx X.env.scope x:=by first|exact Or.inl rfl|exact Or.inr (Or.inl rfl)|exact Or.inr (Or.inr rfl))(hd:(x==("__debug__":xa))=false:=by decide)(hcd:(x==("__classdict__":xa))=false:=by decide):XP X xw (.Name x pos) (Ga i):=⟨HZ i hN hv hd hcd⟩
theorem Ma(h:XE X xw e f):XP X xw e f:=⟨DE.p h.h⟩
theorem BE(ha:XT X xw a ga):XW' X xw (.BoolOp .And [a] pos) ga:=⟨ES ha.h⟩
theorem Uv(ha:XT X xw a ga):XW' X xw (.BoolOp .Or [a] pos) ga:=⟨UZ ha.h⟩
theorem UW(h:XW' X xw e ga):XT X xw e ga:=⟨DW.t h.h⟩
theorem S4{j pos'}(ha:XP X xw a fa):XT X xw (.Compare a [.IsNot] [.Constant .none j pos'] pos) (tR (b1 Vs fa)):=⟨UK ha.h⟩
theorem Jl(hm:X.mg "list"=none)(ha:XP X xw a fa)(hg:Gl X "list":=by rfl)(he:aa [a] X.env=(false,eval a X.env)::aa [] X.env:=by rfl)(hpl:(zd pos (aa [] X.env)).any (·.1)=false:=by rfl):
  XF X xw (.Call (.Name "list" p) [a] [] pos) (b1 Oc fa):=⟨EH hm ha.h hg he hpl⟩
theorem Vx(hm:X.mg "tuple"=none)(ha:XP X xw a fa)(hg:Gl X "tuple":=by rfl)(he:aa [a] X.env=(false,eval a X.env)::aa [] X.env:=by rfl)(hpl:(zd pos (aa [] X.env)).any (·.1)=false:=by rfl):
  XE X xw (.Call (.Name "tuple" p) [a] [] pos) (b1 Bj fa):=⟨JK hm ha.h hg he hpl⟩
theorem D8(hc:X.calm=true)(hm:X.mg "max"=none)(ha:XA X xw [a,b] fs)(hg:Gl X "max":=by rfl)(he:aa [a,b] X.env=(false,eval a X.env)::aa [b] X.env:=by rfl)(hpl:(zd pos (aa [b] X.env)).any (·.1)=false:=by rfl):
  XE X xw (.Call (.Name "max" p) [a,b] [] pos) (b1 XM fs):=⟨HR hc hm ha.h hg he hpl⟩
theorem E8(hc:X.calm=true)(hm:X.mg "min"=none)(ha:XA X xw [a,b] fs)(hg:Gl X "min":=by rfl)(he:aa [a,b] X.env=(false,eval a X.env)::aa [b] X.env:=by rfl)(hpl:(zd pos (aa [b] X.env)).any (·.1)=false:=by rfl):
  XE X xw (.Call (.Name "min" p) [a,b] [] pos) (b1 BN fs):=⟨JR hc hm ha.h hg he hpl⟩
theorem B8(hm:X.mg "abs"=none)(ha:XP X xw a fa)(hg:Gl X "abs":=by rfl)(he:aa [a] X.env=(false,eval a X.env)::aa [] X.env:=by rfl)(hpl:(zd pos (aa [] X.env)).any (·.1)=false:=by rfl):
  XE X xw (.Call (.Name "abs" p) [a] [] pos) (b1 HB fa):=⟨OY hm ha.h hg he hpl⟩
theorem Kg(h:XE X xw e f):XI X xw tg e (b1 Oc f):=⟨GZ h.h⟩
theorem Cb(i:Nat)(hN:X.N.Nodup)(hi:X.N[i]? =some x:=by rfl)(hx:Loc X.env.scope x:=by first|exact Or.inl rfl|exact Or.inr rfl)(hf:X.fn x=true\/X.env.scope.names.lookup x=some .local:=by first|exact .inl rfl|exact .inr rfl|assumption):
  XG X (.Name x pos) (Za i):=⟨MR i hN hi hx hf⟩
theorem Vf:XGs X [] Wb:=⟨NR⟩
theorem Ob(h1:XG X tg t)(h2:XGs X tgs ts)(hs:(gg (tg::tgs) X.env).map (·.2)=mn tg X.env::(gg tgs X.env).map (·.2):=by rfl):XGs X (tg::tgs) (Ka t ts):=⟨LK h1.h h2.h hs⟩
theorem Wf(hc:X.calm=true)(h:XGs X tgs ts)(hn:(gg tgs X.env).length=n:=by rfl)(hst:(gg tgs X.env).findIdx? (·.1)=none:=by rfl):XG X (.Tuple tgs k pos) (Xb n ts):=⟨FZ hc h.h hn hst⟩
theorem Zk:XTs X [] (λ_=>.ok true):=⟨AS⟩
theorem Nm(h:XT X Jq c gc):XTs X [c] gc:=⟨BS h.h⟩
theorem UX(he:XE X xw e f)(hg:XG X tg t)(hs:kq [tg] e pos.line X.env=pure false:=by rfl)(hw:lq [tg] e X.env=pure none:=by rfl)(h1:(gg [tg] X.env).map (·.2)= [mn tg X.env]:=by rfl):XS X xw (.Assign [tg] e pos) (Ku t f):=⟨VR he.h hg.h hs hw h1⟩
theorem C7:XS X xw st (λ_=>.stuck):=⟨U5⟩
theorem Ed:XSs X xw [] .nx:=⟨YR⟩
theorem Ib(h1:XS X xw st g1):XSs X xw [st] g1:=⟨ZR h1.h⟩
theorem Xa{j}:XE X xw (.Constant (.int i) j pos) (kD (.int i)):=⟨RY⟩
theorem LJ{i:Bool}{j}:XE X xw (.Constant (.bool i) j pos) (kD (.bl i)):=⟨Q5⟩
theorem KG{i:xa}{j}:XE X xw (.Constant (.str i) j pos) (kD (.str i)):=⟨ZY⟩
theorem CB{j}:XE X xw (.Constant .none j pos) (kD .non):=⟨XY⟩
theorem Qd(ha:XP X xw a fa)(hb:XP X xw b fb):XE X xw (.BinOp a .Add b pos) (b2 Pc fa fb):=⟨PY ha.h hb.h⟩
theorem Vv(ha:XP X xw a fa)(hb:XP X xw b fb):XE X xw (.BinOp a .Sub b pos) (b2 Fp fa fb):=⟨AZ ha.h hb.h⟩
theorem Fd(ha:XP X xw a fa)(hb:XP X xw b fb):XE X xw (.BinOp a .Mod b pos) (b2 Zc fa fb):=⟨VY ha.h hb.h⟩
theorem Wt(ha:XP X xw a fa)(hb:XP X xw b fb):XE X xw (.BinOp a .FloorDiv b pos) (b2 Kl fa fb):=⟨FR ha.h hb.h⟩
theorem BY(ha:XP X xw a fa)(hb:XP X xw b fb):XE X xw (.BinOp a .Pow b pos) (b2 ZI fa fb):=⟨YY ha.h hb.h⟩
theorem JG(ha:XP X xw a fa):XE X xw (.UnaryOp .USub a pos) (b1 Sw fa):=⟨WY ha.h⟩
theorem C8(hc:CmpR X xw o op)(ha:XP X xw a fa)(hb:XP X xw b fb):XE X xw (.Compare a [o] [b] pos) (b2 op fa fb):=⟨QY hc ha.h hb.h⟩
theorem Sd(hc:CmpR X xw o op)(ha:XP X xw a fa)(hb:XP X xw b fb):XT X xw (.Compare a [o] [b] pos) (tR (b2 op fa fb)):=⟨OZ hc ha.h hb.h⟩
theorem ZX{j pos'}(ha:XP X xw a fa):XE X xw (.Compare a [.Is] [.Constant .none j pos'] pos) (b1 Yn fa):=⟨SY ha.h⟩
theorem F8{j pos'}(ha:XP X xw a fa):XT X xw (.Compare a [.Is] [.Constant .none j pos'] pos) (tR (b1 Yn fa)):=⟨PZ ha.h⟩
theorem NG(h:XE X xw e f)(he:∀ whole,isTrue e X.env whole=(do let v <-whole;standAt e.pos;yo [v] (truthy v)):=by intro _;rfl):XT X xw e (tR f):=⟨DE.t h.h he⟩
theorem DY(ha:XT X xw a ga):XT X xw (.UnaryOp .Not a pos) (Qt ga):=⟨QZ ha.h⟩
theorem w_and(ha:XT X xw a ga)(hb:XW' X xw (.BoolOp .And (b::rest) pos) gb):XW' X xw (.BoolOp .And (a::b::rest) pos) (Cf ga gb):=⟨TZ ha.h hb.h⟩
theorem w_or(ha:XT X xw a ga)(hb:XW' X xw (.BoolOp .Or (b::rest) pos) gb):XW' X xw (.BoolOp .Or (a::b::rest) pos) (Ci ga gb):=⟨V5 ha.h hb.h⟩
theorem Ab:XA X xw [] Ra:=⟨NY⟩
theorem Ba(ha:XE X xw a fa)(hr:XA X xw es fs)(hs:aa (a::es) X.env=(false,eval a X.env)::aa es X.env:=by rfl):XA X xw (a::es) (Aa fa fs):=⟨AR ha.h hr.h hs⟩
theorem Om{x1}(h:XA X xw es fs):XE X xw (.Tuple es x1 pos) (b1 Ef fs):=⟨BZ h.h⟩
theorem Ej(h:XA X xw es fs):XF X xw (.List es pos) (b1 Me fs):=⟨DZ h.h⟩
theorem Jc(h:XF X xw e fs):XE X xw e (De fs):=⟨DF.de h.h⟩
theorem Sf(ha:XP X xw a fa)(hb:XP X xw b fb)(hs:Xl b:=by intro _ _;rfl):XE X xw (.Subscript a b pos) (b2 Qe fa fb):=⟨R5 ha.h hb.h hs⟩
theorem Xs:XO X xw none Tg:=⟨QR⟩
theorem Ys(h:XE X xw e f):XO X xw (some e) (b1 Bo f):=⟨SR h.h⟩
theorem W5(ha:XP X xw a fa)(hl:XO X xw lo fl)(hh:XO X xw hi fh):XF X xw (.Subscript a (.Slice lo hi none p2) pos) (b3 X4 fa fl fh):=⟨EZ ha.h hl.h hh.h⟩
theorem Iq(hm:X.mg "len"=none)(ha:XP X xw a fa)(hg:Gl X "len":=by rfl)(he:aa [a] X.env=(false,eval a X.env)::aa [] X.env:=by rfl)(hpl:(zd pos (aa [] X.env)).any (·.1)=false:=by rfl):
  XE X xw (.Call (.Name "len" p) [a] [] pos) (b1 Dm fa):=⟨UY hm ha.h hg he hpl⟩
theorem AY{C:String}{c:xa}{p2:vg}(hC:Iz C)(hbc:vf c=some (.type C))(hm:X.mg "isinstance"=none)(hmc:X.mg c=none)(ha:XP X xw a fa)(hg:Gl X "isinstance":=by rfl)(hgc:Gl X c:=by rfl)(hcn:c≠"__name__":=by decide)(hcd:(c==("__debug__":xa))=false:=by decide)(he:aa [a, .Name c p2] X.env=(false,eval a X.env)::aa [.Name c p2] X.env:=by rfl)(he2:aa [.Name c p2] X.env=(false,eval (.Name c p2) X.env)::aa [] X.env:=by rfl)(hpl:(zd pos (aa [.Name c p2] X.env)).any (·.1)=false:=by rfl):
  XE X xw (.Call (.Name "isinstance" p) [a, .Name c p2] [] pos) (b1 (LC C) fa):=⟨TY hC hbc hm hmc ha.h hg hgc hcn hcd he he2 hpl⟩
theorem Kb{m:List D->Res D}(F:Fn X.prog X.w X.K X.mg X.base k x n m)(hr:Room k X.A)(ha:XA X xw (a::es) fs)(hg:Gl X x:=by rfl)(hdb:(x==("__debug__":xa))=false:=by decide)(he:aa (a::es) X.env=(false,eval a X.env)::aa es X.env:=by rfl)(hpl:(zd pos (aa es X.env)).any (·.1)=false:=by rfl):
  XE X xw (.Call (.Name x p) (a::es) [] pos) (b1 (La n m) fs):=⟨ER F hr ha.h hg hdb he hpl⟩
theorem Hd(Nc Nx:List xa)(c:CompOk X scope Nc Nx)(hcalm:X.calm=true)(hi:XI X xw tg iter fi)(hY:∀ (C:ca) (fp:List ca) (pins:List (ca×ki)) (s:Shared) (H:Hp),XG (Yb X scope Nc Nx C fp pins s H) tg t/\XTs (Yb X scope Nc Nx C fp pins s H) ifs gc/\XE (Yb X scope Nc Nx C fp pins s H) Jq elt fe)(hs:∀ x,dg iter X.env x=pure x:=by intro _;rfl):
  XF X xw (.ListComp elt [⟨tg,iter,ifs,0⟩] scope pos) (Rb Nc.length t gc fe fi):=⟨KR Nc Nx c hcalm hi.h (λC fp pins s H=>⟨(hY C fp pins s H).1.h,(hY C fp pins s H).2.1.h,(hY C fp pins s H).2.2.h⟩) hs⟩
theorem OD(i:Nat){py:vg}(hN:X.N.Nodup)(Nc Nx:List xa)(c:CompOk X scope Nc Nx)(hcalm:X.calm=true)(hi:XI X xw tg iter fi)(hY:∀ (C:ca) (fp:List ca) (pins:List (ca×ki)) (s:Shared) (H:Hp),XG (Yb X scope Nc Nx C fp pins s H) tg t/\XTs (Yb X scope Nc Nx C fp pins s H) ifs gc/\XE (Yb X scope Nc Nx C fp pins s H) Jq elt fe){spos:vg}(hiN:X.N[i]? =some x:=by rfl)(hx:Loc X.env.scope x:=by first|exact Or.inl rfl|exact Or.inr rfl)(hsw:ph (.ListComp elt [⟨tg,iter,ifs,0⟩] scope pos) (some (.Name x py)) spos.line X.env=pure true:=by rfl)(hf:X.fn x=true\/X.env.scope.names.lookup x=some .local:=by first|exact .inl rfl|exact .inr rfl|assumption)(hs:∀ x,dg iter X.env x=pure x:=by intro _;rfl):
  XS X xw (.Assign [.Name x py] (.ListComp elt [⟨tg,iter,ifs,0⟩] scope pos) spos) (Oe i (Rb Nc.length t gc fe fi)):=⟨WR i hN Nc Nx c hcalm hi.h (λC fp pins s H=>⟨(hY C fp pins s H).1.h,(hY C fp pins s H).2.1.h,(hY C fp pins s H).2.2.h⟩) hiN hx hsw hf hs⟩
theorem Fs(hm:X.mg "range"=none)(ha:XA X xw [a] fs)(hg:Gl X "range":=by rfl)(hs:aa [a] X.env= [(false,eval a X.env)]:=by rfl):XI X xw tg (.Call (.Name "range" p) [a] [] pos) (b1 Gq fs):=⟨FH hm ha.h hg hs⟩
theorem RL(hm:X.mg "range"=none)(ha:XA X xw [a,b] fs)(hg:Gl X "range":=by rfl)(hs:aa [a,b] X.env= [(false,eval a X.env),(false,eval b X.env)]:=by rfl)(hs2:aa [b] X.env= [(false,eval b X.env)]:=by rfl):
  XI X xw tg (.Call (.Name "range" p) [a,b] [] pos) (b1 LA fs):=⟨GH hm ha.h hg hs hs2⟩
theorem Oa(h1:XS X xw st g1)(h2:XSs X xw sts g2):XSs X xw (st::sts) (Bb g1 g2):=⟨TK h1.h h2.h⟩
theorem Tc(he:XE X xw e f):XS X xw (.Return (some e) pos) (Tb f):=⟨MZ he.h⟩
theorem RD(i:Nat)(hN:X.N[i]? =some x:=by rfl)(hv:Wx X.env.scope x:=by first|exact Or.inl rfl|exact Or.inr (Or.inl rfl)|exact Or.inr (Or.inr rfl))(hd:(x==("__debug__":xa))=false:=by decide)(hcd:(x==("__classdict__":xa))=false:=by decide):XS X xw (.Return (some (.Name x pos')) pos) (Tb (Ga i)):=⟨XR i hN hv hd hcd⟩
theorem Kc(i:Nat)(hN:X.N.Nodup)(he:XE X xw e f)(hi:X.N[i]? =some x:=by rfl)(hx:Loc X.env.scope x:=by first|exact Or.inl rfl|exact Or.inr rfl)(hs:ph e (some (.Name x pos')) pos.line X.env=pure false:=by rfl)(hf:X.fn x=true\/X.env.scope.names.lookup x=some .local:=by first|exact .inl rfl|exact .inr rfl|assumption):XS X xw (.Assign [.Name x pos'] e pos) (Vb i f):=⟨NZ i hN he.h hi hx hs hf⟩
theorem Ul(i:Nat){ff:Ca->Res (List D)}(hN:X.N.Nodup)(he:XF X xw e ff)(hi:X.N[i]? =some x:=by rfl)(hx:Loc X.env.scope x:=by first|exact Or.inl rfl|exact Or.inr rfl)(hs:ph e (some (.Name x pos')) pos.line X.env=pure false:=by rfl)(hf:X.fn x=true\/X.env.scope.names.lookup x=some .local:=by first|exact .inl rfl|exact .inr rfl|assumption):XS X xw (.Assign [.Name x pos'] e pos) (Oe i ff):=⟨LZ i hN he.h hi hx hs hf⟩
theorem Qk(hc:XT X xw c ga)(ha:XSs X xw as g1)(hb:XSs X xw bs g2):XS X xw (.If c as bs pos) (Of ga g1 g2):=⟨T5 hc.h ha.h hb.h⟩
theorem Lm(hp:sr (pb X.prog X.w) X.A X.env X.xe)(hc:X.calm=true)(hi:XI X xw tg iter fi)(hg:XG X tg t)(hb:XSs X xw sts g)(hs:∀ x,dg iter X.env x=pure x:=by intro _;rfl):XS X xw (.For tg iter sts [] pos) (Df t g fi):=⟨KZ hp hc hi.h hg.h hb.h hs⟩
theorem YV(n:Nat)(hp:sr (pb X.prog X.w) X.A X.env X.xe)(hc:XT X xw c ga)(hb:XSs X xw sts g):XS X xw (.While c sts [] pos) (Dp n ga g):=⟨SK n hp hc.h hb.h⟩
theorem Sl(i:Nat){p1 p2 p3:vg}(he:XE X xw e f)(hN:X.N[i]? =some x:=by rfl)(hv:Wx X.env.scope x:=by first|exact Or.inl rfl|exact Or.inr (Or.inl rfl)|exact Or.inr (Or.inr rfl))(hd:(x==("__debug__":xa))=false:=by decide)(hcd:(x==("__classdict__":xa))=false:=by decide)(hsE:aa [e] X.env=(false,eval e X.env)::aa [] X.env:=by rfl)(hbase:ye (.Name x p1) "append" X.env (eval (.Name x p1) X.env)=eval (.Name x p1) X.env:=by rfl)(hfew:((zd p3 (aa [e] X.env)).all (λx=> !x.1)&&(ms p3 (om [] X.env)).all (λx=>x.1.isSome)
   &&decide (([e]:List qc).length+([]:List rk).length+(if([]:List rk).isEmpty then 0 else 1)<30))=true:=by rfl)(hline:(p2.endLine==p3.line)=true:=by rfl)(hplain:(zd p3 (aa [] X.env)).any (·.1)=false:=by rfl)(hsw:ph (.Call (.Attribute (.Name x p1) "append" p2) [e] [] p3) none pos.line X.env=pure false:=by rfl):
  XS X xw (.Expr (.Call (.Attribute (.Name x p1) "append" p2) [e] [] p3) pos) (Ho i f):=⟨HH i he.h hN hv hd hcd hsE hbase hfew hline hplain hsw⟩
end
variable{fa:ca}{P:ic}{mg:xa->Option Fa}{base:ke}{qual:xa}{fd:wf}{ps:List xa}
theorem Vc{N:List xa}(F:Fun K x qual st fa fd)(S:FnScope N ps (Pa st))(hm:mg x=some (.ref fa))(hb:Binds K fd ps [])(body:∀ (cdv:Fa) (A:je) (outer:List tu) (s:Shared) (H:Hp) (E:XK),Room k (A.deeper (wn qual (Pa st) s.heap.objs.size fa cdv))->
   XSs (Qo Oo P w K mg base N qual (Pa st) fa cdv A outer s H E).nox Jq (Ad st) g):Fn P w K mg base (k+1) x ps.length (Xc N.length g):=
 KS F S hm hb λcdv A outer s H E hr=>(body cdv A outer s H E hr).h
theorem A0{N:List xa}(F:Fun K x qual st fa fd)(S:FnScope N ps (Pa st))(body:∀ (cdv:Fa) (A:je) (outer:List tu) (s:Shared) (H:Hp) (E:XK),Room k (A.deeper (wn qual (Pa st) s.heap.objs.size fa cdv))->
   XSs (Qo Oo P w K mg base N qual (Pa st) fa cdv A outer s H E).nox Jq (Ad st) g):FnOk P w K mg base Oo (k+1) fa fd ps (VX K ps.length (Xc N.length g)):=
 EL F S λcdv A outer s H E hr=>(body cdv A outer s H E hr).h
end L3
namespace L3
open PySem PySem.Spec PyProof.Rows L2
section
variable {t:D->Ca->Res Ca}{body:Ca->Out}
theorem Xn(I:Nat->Ca->Prop)(ds:List D)(δ:Ca)(hb:∀ i d δ,ds[i]? =some d->I i δ->∃ δ',t d δ= .ok δ'/\∃ δ2,(body δ'=.nx δ2\/body δ'=.ct δ2)/\I (i+1) δ2)(h:I 0 δ):∃ δ2,Te t body ds δ= .nx δ2/\I ds.length δ2:=by
 induction ds generalizing I δ with
 |nil=>exact⟨δ,rfl,h⟩
 |cons d ds ih=>
  obtain⟨δ',e1,δ2,e2,h2⟩:=hb 0 d δ rfl h;obtain⟨δ3,e3,h3⟩:=ih (λi=>I (i+1)) δ2 (λi x δ hx hI=>hb (i+1) x δ (by simpa using hx) hI) h2;refine⟨δ3,?_,h3⟩;rw[To d ds δ δ' e1];rcases e2 with e2|e2<;> · rw[e2];exact e3
end
variable{n:Nat}
section
variable {fe:Ca->Res D}{c:Ca->Res Bool}
abbrev X7:D->Ca->Res Ca:=Xb 2 (Ka (Za 0) (Ka (Za 1) Wb))
theorem Ac{t:D->Ca->Res Ca}{δ:Ca}{ds r:List D}(h:Ud t c fe ds (kc n none++δ)=.ok r)(hl:ds.length<=100000):Yc n t c fe δ ds=.ok r:=by
 unfold Yc;rw[if_pos hl,h];rfl
end
theorem ND(j:Int)(h0:0<=j)(h:j<100000):Gq [.int j]=.ok (Nj 0 j.toNat):=by
 unfold Gq;simp only;rw[if_pos (by omega)]
theorem Kt{lo:Int}{i:Nat}{d:D}(h:(Nj lo n)[i]? =some d):i<n/\d=.int (lo+i):=by
 unfold Nj at h;rw[wc]at h
 have hi:i<n:=by
  refine Ev λz=>?_;rw[zf (by simpa using z)]at h;cases h
 rw[jg hi]at h
 exact⟨hi,(yb h).symm⟩
theorem Fo(lo:Int)(n:Nat):(Nj lo n).length=n:=by simp[Nj]
theorem ZK(ds:List D)(h:∀ d∈ds,Qb 39 d=true):Al (.lst ds) (.lst [])=.ok (.bl ds.isEmpty):=by
 have hs:Qb 40 (.lst ds)=true:=by rw[Qb,Uf];exact h
 unfold Al;rw[hs];cases ds<;>simp[Qb,Tf,Yx]
theorem Cy{α:Type}(xs:List α)(v:α):Ir (xs++ [v]) (-1)=some v:=L2.atI_last xs v
theorem Ln(i:Nat)(δ:Ca)(ds:List D)(d:D)(h:δ[i]? =some (some (.o ds)))(hl:ds.length<=100000):Yv i δ (.ok d)=.nx (δ.set i (some (.o (ds++ [d])))):=by
 unfold Yv;rw[h];show(@ite Out (ds.length<=100000) (xc _) _ _)=_;rw[if_pos hl];rfl
end L3
namespace L3
open PySem
theorem JW:fillsNumberSlot (.type "tuple") "mul"=pure false:=fillsNumberSlot_seq (id:="tuple.__mul__") (r:=some (.builtin "tuple.__rmul__")) F.slot_tuple_mul.lookup (by decide +kernel) F.slot_tuple_rmul.lookup (by decide +kernel)
theorem G4:seqRepeat? (.type "tuple")=pure (some (.builtin "tuple.__mul__")):=by
 unfold seqRepeat?;rw[seqSlot_of (T:="tuple") (name:="__mul__") (id:="tuple.__mul__") F.slot_tuple_mul.lookup (by decide +kernel),seqSlot_of (T:="tuple") (name:="__rmul__") (id:="tuple.__rmul__") F.slot_tuple_rmul.lookup (by decide +kernel)];rfl
theorem W7(a:Int)(t:Tok)(l:ca)(items:Array Fa)(n:Nat)(dd:Option ca)(sl:Array (Option Fa)):
  Meets (kj.«int.__rmul__» ⟨[.int a t,.ref l],[]⟩) (λ_ R s=>s.heap.get? l=some {cls:=.type "tuple",dict:=dd,data:=.seq items n,slots:=sl}/\R (.ok (.ret Value.notImplemented)) s):=
 .of_wp λprog w A R s h=>by
  obtain⟨hp,g,d,tk,os⟩:=s;obtain⟨hl,h⟩:=h;wp_walk;exact⟨_,rfl,h⟩
theorem F4(l:ca)(items:Array Fa)(n:Nat)(dd:Option ca)(sl:Array (Option Fa))(u:Tok):
  Meets (kj.«tuple.__mul__» ⟨[.ref l,.int 1 u],[]⟩) (λ_ R s=>s.heap.get? l=some {cls:=.type "tuple",dict:=dd,data:=.seq items n,slots:=sl}/\R (.ok (.ret (Value.ref l))) s):=
 .of_wp λprog w A R s h=>by
  obtain⟨hp,g,d,tk,os⟩:=s;obtain⟨hl,h⟩:=h;wp_walk;exact⟨_,rfl,h⟩
theorem KW(l:ca)(items:Array Fa)(n:Nat)(dd:Option ca)(sl:Array (Option Fa))(k:Int)(u:Tok)(h0:(decide (k< -2^63)||decide (k>=2^63))=false)(h1:(items.isEmpty||k==1)=false)(h2:(decide (k<=0)||items.isEmpty)=false)(h3:¬ (items.size*k>(2^63-1) / 8))(h4:jt (items.size*k)=false)(h5:((kc k.toNat items).foldl (· ++ ·) #[]).size<=sizeLine):
  Meets (kj.«tuple.__mul__» ⟨[.ref l,.int k u],[]⟩) (λ_ R s=>s.heap.get? l=some {cls:=.type "tuple",dict:=dd,data:=.seq items n,slots:=sl}/\R (.ok (.ret (Value.ref s.heap.objs.size))) {s with heap:=s.heap.push {cls:=.type "tuple",data:=.seq ((kc k.toNat items).foldl (· ++ ·) #[])}}):=
 .of_wp λprog w A R s h=>by
  obtain⟨hp,g,d,tk,os⟩:=s;obtain⟨hl,h⟩:=h;wp_walk;refine wpAny_ite_false (by rw[h0];rfl) ?_;wp_walk;refine wpAny_ite_false (decide_eq_false h3) ?_;wp_walk;exact⟨_,rfl,h⟩
open PySem.Spec PyProof.Rows L2 SeqAt
variable{X:Cx}{xw:XW}{a b:qc}{fa fb:Ca->Res D}{pos:vg}{K:td}{W:WS}{H:Hp}{ds:List D}
section
variable {p:vg}
theorem SU:OpR X (zj .Mult) (λx y H Q=>∃ l k xs,x=.ref l/\y=.int k/\SqT X.K H l xs/\xs≠ []/\1<=k/\k<=1000/\xs.length<=1000/\(k=1->Q (.ref l) H)/\(k≠1->∀ p,H p=none->Q (.ref p) (Pb H p (.tup (kc k.toNat xs).flatten)))):=by
 intro pins s σ H x y v u Q I rx ry h;obtain⟨l,k,xs,rfl,rfl,sq,hne,h1,h2,hl,q1,q2⟩:=h;cases rx;obtain⟨t,rfl⟩:=ry;obtain⟨its,r,⟨⟨cls,dd,data,sl⟩,ho,hc,n,hd⟩,hz⟩:=I.tuple sq;simp only at hc hd;subst hc hd;have hlen:=r.length;have hi:its≠ []:=λe=>hne (by rw[e]at hlen;exact si hlen)
 have he:its.toArray.isEmpty=false:=by cases its with
  |nil=>exact absurd rfl hi
  |cons=>simp
 have hsz:(its.toArray.size:Int)*k<=1000000:=by
  rw[jc,<-hlen];have h3:(xs.length:Int)*k<=1000*1000:=Int.mul_le_mul (by omega) h2 (by omega) (by decide);omega
 have hsz':(its.length:Int)*k<=1000000:=by simpa using hsz
 refine wpAny_binaryOp_repeat_ref (T:="tuple") (U:="int") (by decide) ⟨_,ho,rfl⟩ (λs'=>typeIs_int s' k t) JW F.fills_int_mul F.slot_int_rmul G4 F.slot_int_index.lookup
  (yn F.slot_int_rmul (typeIs_int s k t) F.entry_int_rmul (F.args_int_rmul_2 _ _) (W7 k t l its.toArray n dd sl) ⟨ho,rfl,⟨_,ho,rfl⟩,?_⟩)
 by_cases hk:k=1
 .subst hk;exact yn F.slot_tuple_mul ⟨_,ho,rfl⟩ F.entry_tuple_mul (F.args_tuple_mul_2 _ _) (F4 l its.toArray n dd sl t) ⟨ho,⟨.ref l,H,I,rfl,q1 rfl⟩⟩
 .have hfl:(kc k.toNat its.toArray).foldl (λx1 x2=>x1++x2) #[]=(kc k.toNat its).flatten.toArray:=by
   have:=foldl_rep its k.toNat [];rw[xg]at this
   exact this
  have hfz:(kc k.toNat its).flatten.length<=sizeLine:=by
   rw[FF,se];have h3:its.length*k.toNat<=1000*1000:=Nat.mul_le_mul (by omega) (by omega);rw[Nat.mul_comm];omega
  refine yn F.slot_tuple_mul ⟨_,ho,rfl⟩ F.entry_tuple_mul (F.args_tuple_mul_2 _ _) (KW l its.toArray n dd sl k t ?_ ?_ ?_ ?_ ?_ ?_) ⟨ho,?_⟩
  .simp only[Bool.or_eq_false_iff,decide_eq_false_iff_not];omega
  .rw[he];simpa using hk
  .rw[he];simp;omega
  .omega
  .unfold jt;have:((sizeLine:Nat):Int)=16777216:=by rw[se];rfl
   rw[this];simp;omega
  .rw[hfl,jc];exact hfz
  .rw[hfl];refine⟨.ref s.heap.objs.size,_,I.laid (a:=s.heap.objs.size) (o:=.tup (kc k.toNat xs).flatten) (t':=s.toks) (λ_ _ e=>ja _ e) (jd _) ⟨?_,_,r.rep k.toNat,IsTup.new _ _⟩,rfl,q2 hk _ I.fresh⟩;rw[FF,se];have h3:xs.length*k.toNat<=1000*1000:=Nat.mul_le_mul (by omega) (by omega);rw[Nat.mul_comm];omega
def Bu:D->D->Res D
 | .int i,.int j=>L6 (.int i) (.int j)
 | .tup xs,.int k=>@ite (Res D) (xs≠ []/\1<=k/\k<=1000/\xs.length<=1000) (xc _) (.ok (.tup (kc k.toNat xs).flatten)) .stuck
 |_,_=>.stuck
theorem Yq(i j:Int):Bu (.int i) (.int j)=@ite (Res D) ((-18446744073709551616<i/\i<18446744073709551616)\/(-18446744073709551616<j/\j<18446744073709551616)) (xc _) (.ok (.int (i*j))) .stuck:=rfl
theorem HasL.rep{xs:List V}(h:HasL K W H ds xs):∀ k:Nat,HasL K W H (kc k ds).flatten (kc k xs).flatten
 |0=>by simp[HasL]
 |k+1=>by
  rw[pi,qp,pi,qp];exact h.append (HasL.rep h k)
theorem Jp(ha:XP X xw a fa)(hb:XP X xw b fb):XE X xw (.BinOp a .Mult b pos) (b2 Bu fa fb):=⟨by
 refine Wm (U1.or SU) (λW H d e v u Q w hv hu q=>?_) ha.h hb.h;unfold Bu at q;split at q
 .unfold L6 at q;dsimp only at q;split at q
  .rename_i hj;exact .inl ⟨_,_,hv.int,hu.int,hj,q.int⟩
  .exact q.elim
 .split at q
  .rename_i xs k hj;obtain⟨l,ys,e,sq,r⟩:=hv.tup;refine .inr ⟨l,k,ys,e,hu.int,sq,?_,hj.2.1,hj.2.2.1,by rw[<-r.length];exact hj.2.2.2,λhk=>?_,λ_ p hp=>q.newT w hp (r.rep _)⟩
   .intro z;subst z;exact hj.1 (si (by simpa using r.length))
   .subst hk;refine q _ H (Same.refl _) ?_;rw[Has];exact⟨l,ys,rfl,sq,by simpa using r⟩
  .exact q.elim
 .exact q.elim⟩
def Ym:List D->Option (List Int)
 | []=>some []
 | .int i::r=>(Ym r).map (i:: ·)
 |_=>none
end
variable{W₀:WS}{H₀:Hp}{σ:L2.St}{δ:Ca}
section
variable {H':Hp}
theorem StHas.freeze{i:Nat}{a:ca}(h:StHas K W₀ H₀ W H σ δ)(hi:δ[i]? =some (some (.o ds)))(hs:σ[i]? =some (some (.ref a))):
  StHas K W₀ H₀ (λb=>W b/\b≠a) H σ (δ.set i (some (.d (.lst ds))))/\Has K (λb=>W b/\b≠a) H (.lst ds) (.ref a):=by
 obtain⟨v,h1,b,xs,e',hW,h0,h3,h4⟩:=h.at' i _ hi;rw[hs]at h1
 cases h1;cases e'
 have hd:Has K (λb=>W b/\b≠a) H (.lst ds) (.ref a):=by
  rw[Has];exact⟨a,xs,rfl,.inl ⟨h3,λz=>z.2 rfl⟩,HasL.keep (λ_ _ e _=>e) h.fr.wl (λb z=>.inl z.1) h4⟩
 exact⟨h.freezeG (owo ds) hi hs hd,hd⟩
end
variable{p2:vg}{tg c:qc}
section
variable {p:vg}{fs:Ca->Res (List D)}
def VP(op:D->D->Res (List D))(f g:Ca->Res D):Ca->Res (List D):=λδ=>(f δ).bind λx=>(g δ).bind λy=>op x y
def PB:D->D->Res (List D)
 | .lst xs,.lst ys=>@ite (Res (List D)) (xs.length+ys.length<=sizeLine) (xc _) (.ok (xs++ys)) .stuck
 |_,_=>.stuck
theorem MU:OpR X (zj .Add) (λx y H Q=>∃ l b xs zs,x=.ref l/\y=.ref b/\SqL X.K H l xs/\SqL X.K H b zs/\xs.length+zs.length<=sizeLine/\∀ p,H p=none->Q (.ref p) (Pb H p (.lst (xs++zs)))):=by
 intro pins s σ H x y v u Q I rx ry h;obtain⟨l,b,xs,zs,rfl,rfl,hH,hB,hz,q⟩:=h;cases rx;cases ry;obtain⟨its,r,⟨⟨cls,dd,data,sl⟩,n,e,hc,hd,hs⟩,hz1⟩:=I.list hH;obtain⟨its2,r2,⟨⟨cls2,dd2,data2,sl2⟩,n2,e2,hc2,hd2,hs2⟩,hz2⟩:=I.list hB;simp only at hc hd hs hc2 hd2 hs2;subst hc hd hs hc2 hd2 hs2;have hl:=r.length;have hl2:=r2.length;refine concat_meets ⟨_,e,rfl⟩ ⟨_,e2,rfl⟩ noFill_list_add seq_list_add PySem.F.slot_list_add PySem.F.entry_list_add (PySem.F.args_list_add_2 _ _) (list_addW l b its.toArray its2.toArray n n2 none none sl sl2 (by rw[jc,jc];omega)) ⟨e,e2,?_⟩;have ea:its.toArray++its2.toArray=(its++its2).toArray:=by simp
 rw[ea];exact⟨.ref _,_,I.lnew (t':=s.toks) (r.append r2) (by rw[ud];omega),rfl,q _ I.fresh⟩
theorem JJ{op:D->D->Res (List D)}{Q:VK}{R:V->V->Hp->Prop}(st:StHas X.K W₀ H₀ W H σ δ)(q:RF X.K xw W H ((fa δ).bind λx=>(fb δ).bind λy=>op x y) Q)(h:∀ H2 d e v u,Same H H2->WL W H2->HasT X.K W H2 d v->HasT X.K W H2 e u->RF X.K xw W H2 (op d e) Q->R v u H2):
  FQ X.K xw fa σ H λx H1=>FQ X.K xw fb σ H1 λy H2=>R x y H2:=by
 refine⟨W₀,H₀,W,δ,st,?_⟩;cases h1:fa δ with
 |stuck=>rw[h1]at q;exact q
 |ex c fs=>rw[h1]at q;exact q
 |ok d=>
  rw[h1]at q
  intro v H1 k1 hv;refine⟨W₀,H₀,W,δ,st.same k1,?_⟩;have q':RF X.K xw W H ((fb δ).bind λy=>op d y) Q:=q;cases h2:fb δ with
  |stuck=>rw[h2]at q';exact q'
  |ex c fs=>rw[h2]at q';exact λH2 k2=>q' H2 (k1.trans k2)
  |ok e=>
   rw[h2]at q'
   intro u H2 k2 hu;have q2:RF X.K xw W H (op d e) Q:=q';exact h H2 d e v u (k1.trans k2) (st.fr.wl.same (k1.trans k2)) (hv.same k2 (st.fr.wl.same k1)) hu (RF.same q2 (k1.trans k2))
theorem EX(ha:XP X xw a fa)(hb:XP X xw b fb):XF X xw (.BinOp a .Add b pos) (VP PB fa fb):=
 ⟨PE.weak (QX MU ha.h hb.h) λσ H Q ⟨W₀,H₀,W,δ,st,q⟩=>JJ st q λH2 d e v u k w hv hu q2=>by
  unfold PB at q2;split at q2
  .split at q2
   .rename_i hz;obtain⟨a1,xs,e1,s1,r1⟩:=hv.lst;obtain⟨a2,ys,e2,s2,r2⟩:=hu.lst;exact⟨a1,a2,xs,ys,e1,e2,s1,s2,by rw[<-r1.length,<-r2.length];exact hz,λp hp=>q2 p _ H2 (Same.refl _) hp (r1.append r2)⟩
   .exact q2.elim
  .exact q2.elim⟩
end
def Mc:D->Bool
 | .non=>true
 | .bl _=>true
 | .int _=>true
 | .str _=>true
 |_=>false
variable{d:D}{v:V}
theorem Vh(h:Has K W H d v)(f:Mc d=true):Ji v=true:=by
 cases d with
 |non=>rw[Has]at h;subst h;rfl
 |bl b=>rw[Has]at h;subst h;rfl
 |int i=>rw[Has]at h;subst h;rfl
 |str x=>rw[Has]at h;subst h;rfl
 |_=>cases f
theorem BL{e:D}{u:V}(h:Has K W H d v)(g:Has K W H e u)(f:Mc d=true)(f2:Mc e=true):Ay v u=Tf d e:=by
 cases d with
 |non=>rw[Has]at h;subst h;cases e<;>first|exact absurd (show false=true from f2) Db|(rw[Has]at g;subst g;simp[Ay,Tf])
 |bl b=>rw[Has]at h;subst h;cases e<;>first|exact absurd (show false=true from f2) Db|(rw[Has]at g;subst g;simp[Ay,Tf])
 |int i=>rw[Has]at h;subst h;cases e<;>first|exact absurd (show false=true from f2) Db|(rw[Has]at g;subst g;simp[Ay,Tf])
 |str x=>rw[Has]at h;subst h;cases e<;>first|exact absurd (show false=true from f2) Db|(rw[Has]at g;subst g;simp[Ay,Tf])
 |_=>cases f
theorem Ks{d:D}{v:V}(h:Has K W H d v)(f:Mc d=true):∀ {ds:List D} {xs:List V},HasL K W H ds xs->ds.all Mc=true->xs.all Ji=true/\O8 v xs=ds.any (λy=>Tf y d)
 | [],_,r,_=>by rw[HasL]at r;subst r;exact⟨rfl,rfl⟩
 |e::ds,_,r,fs=>by
  rw[HasL]at r
  obtain⟨x,q,rfl,hx,hq⟩:=r;rw[ls,ze]at fs
  obtain⟨h1,h2⟩:=Ks h f hq fs.2;refine⟨by rw[ls,Vh hx fs.1,h1];rfl,?_⟩;show(Ay x v||O8 v q)=(Tf e d||ds.any λy=>Tf y d)
  rw[BL hx h fs.1 f,h2]
def F7(i j:xa):Bool:= !(yi j i 0 j.length 1).isEmpty
def HX(d:D)(ds:List D):Bool:=ds.any λy=>Tf y d
def inR:D->D->Res D
 | .str i,.str j=>.ok (.bl (F7 i j))
 |d,.tup ds=>if(Mc d&&ds.all Mc)=true then .ok (.bl (HX d ds)) else .stuck
 |d,.lst ds=>if(Mc d&&ds.all Mc)=true then .ok (.bl (HX d ds)) else .stuck
 |_,_=>.stuck
def Lq:D->D->Res D
 | .str i,.str j=>.ok (.bl (!F7 i j))
 |d,.tup ds=>if(Mc d&&ds.all Mc)=true then .ok (.bl (!HX d ds)) else .stuck
 |d,.lst ds=>if(Mc d&&ds.all Mc)=true then .ok (.bl (!HX d ds)) else .stuck
 |_,_=>.stuck
section
variable {p:vg}{e:qc}{f:Ca->Res D}{fs:Ca->Res (List D)}
theorem Yp(h:HasT K W H d v)(f:Mc d=true):Has K W H d v:=by
 rcases h with h|⟨ds,_,_,rfl,_⟩
 .exact h
 .cases f
theorem N1:L8 X xw (λx y H Q=>(∃ i j,x=.str i/\y=.str j/\Q (.bl (!(yi j i 0 j.length 1).isEmpty)) H)\/S8 X.K false x y H Q) inR:=by
 intro W H d e v u Q w hv hu q;unfold inR at q;split at q
 .exact .inl ⟨_,_,hv.str,hu.str,q.bl⟩
 .split at q
  .rename_i hf;rw[ze]at hf
   obtain⟨a1,xs,e1,sq,r⟩:=hu.tup;obtain⟨h1,h2⟩:=Ks (Yp hv hf.1) hf.1 r hf.2;exact .inr ⟨a1,xs,e1,.inr sq,Vh (Yp hv hf.1) hf.1,h1,by rw[if_neg Db,h2];exact q.bl⟩
  .exact q.elim
 .split at q
  .rename_i hf;rw[ze]at hf
   obtain⟨a1,xs,e1,sq,r⟩:=hu.lst;obtain⟨h1,h2⟩:=Ks (Yp hv hf.1) hf.1 r hf.2;exact .inr ⟨a1,xs,e1,.inl sq,Vh (Yp hv hf.1) hf.1,h1,by rw[if_neg Db,h2];exact q.bl⟩
  .exact q.elim
 .exact q.elim
theorem KU:L8 X xw (λx y H Q=>(∃ i j,x=.str i/\y=.str j/\Q (.bl (!(!(yi j i 0 j.length 1).isEmpty))) H)\/S8 X.K true x y H Q) Lq:=by
 intro W H d e v u Q w hv hu q;unfold Lq at q;split at q
 .exact .inl ⟨_,_,hv.str,hu.str,q.bl⟩
 .split at q
  .rename_i hf;rw[ze]at hf
   obtain⟨a1,xs,e1,sq,r⟩:=hu.tup;obtain⟨h1,h2⟩:=Ks (Yp hv hf.1) hf.1 r hf.2;exact .inr ⟨a1,xs,e1,.inr sq,Vh (Yp hv hf.1) hf.1,h1,by rw[if_pos rfl,h2];exact q.bl⟩
  .exact q.elim
 .split at q
  .rename_i hf;rw[ze]at hf
   obtain⟨a1,xs,e1,sq,r⟩:=hu.lst;obtain⟨h1,h2⟩:=Ks (Yp hv hf.1) hf.1 r hf.2;exact .inr ⟨a1,xs,e1,.inl sq,Vh (Yp hv hf.1) hf.1,h1,by rw[if_pos rfl,h2];exact q.bl⟩
  .exact q.elim
 .exact q.elim
theorem Q4(ha:XP X xw a fa)(hb:XP X xw b fb)(hm:bh .In b=false:=by rfl):XT X xw (.Compare a [.In] [b] pos) (tR (b2 inR fa fb)):=
 ⟨DE.t_of (f:=b2 inR fa fb) (PT.weak (Eo (OI.or NI) ha.h hb.h hm) λσ H Q ⟨W₀,H₀,W,δ,st,q⟩=>Qj st q λH2 d e v u k w hv hu _ _ q2=>N1 W H2 d e v u _ w hv hu q2)⟩
theorem MG(ha:XP X xw a fa)(hb:XP X xw b fb)(hm:bh .NotIn b=false:=by rfl):XT X xw (.Compare a [.NotIn] [b] pos) (tR (b2 Lq fa fb)):=
 ⟨DE.t_of (f:=b2 Lq fa fb) (PT.weak (Eo (Bx.or Ax) ha.h hb.h hm) λσ H Q ⟨W₀,H₀,W,δ,st,q⟩=>Qj st q λH2 d e v u k w hv hu _ _ q2=>KU W H2 d e v u _ w hv hu q2)⟩
variable {lo hi:Option qc}{fl fh:Ca->Res (Option Int)}
theorem Qz{x:xa}{n:Int}(h1:1<=n)(h2:n<=1000)(h3:x.length<=1000):MulOk x n:=by
 refine⟨?_,λ_ _=>?_,λ_ _=>?_⟩
 .rw[decide_eq_false (by omega),decide_eq_false (by omega)];rfl
 .have:(1000:Int)<=(2^63-1) / n:=by
   rw[Int.le_ediv_iff_mul_le (by omega)];omega
  omega
 .have:x.length*n.toNat<=1000*1000:=Nat.mul_le_mul h3 (by omega);have hz:(1000000:Nat)<=sizeLine:=by rw[se];decide
  unfold Builtin.Str.tooLong;simp;omega
theorem PU:OpR X (zj .Mult) (λx y H Q=>∃ z n,x=.str z/\y=.int n/\MulOk z n/\Q (.str (ii z n)) H):=by
 intro pins s σ H x y v u Q I rx ry h;obtain⟨z,n,rfl,rfl,hok,q⟩:=h;obtain⟨t,rfl⟩:=rx;obtain⟨t',rfl⟩:=ry;exact PySem.SB.mul hok λt' k=>⟨.str _,H,I.tok _,⟨t',rfl⟩,q⟩
structure GlobT(K:td)(mg:xa->Option Fa)(x:xa)(xs:List xa):Prop where
 h:∃ (ad:ca) (o:ki) (its:Array Fa) (n:Nat),mg x=some (.ref ad)/\K.lookup ad=some o/\o.cls=.type "tuple"/\o.data=.seq its n/\its.size<=sizeLine/\Vals (xs.map V.str) its.toList
theorem SV{P:ic}{w:vd}{k:Hb}{u:Fa}(r:RelV (kV k) u):(Gc P w).is k u=true:=by
 cases k with
 |inl i=>obtain⟨t,rfl⟩:=r;exact Oz P w i t
 |inr x=>obtain⟨t,rfl⟩:=r;exact Pz P w x t
def Lz:D->Option Hb
 | .str x=>some (.inr x)
 | .int i=>some (.inl i)
 |_=>none
end
end L3
namespace L3
open PySem PySem.Spec PyProof.Rows L2 SeqAt
open Builtin Builtin.Str
section
variable {X:Cx}{xw:XW}{pos p p2 apos cpos:vg}{tg a b c e o:qc}{es:List qc}{f fa fb:Ca->Res D}{fs:Ca->Res (List D)}
def Ep:List D->Option (List xa)
 | []=>some []
 | .str x::ds=>(Ep ds).map (x:: ·)
 |_=>none
end
end L3
namespace L3
open PySem PySem.Spec PyProof.Rows L2 SeqAt
variable{X:Cx}{xw:XW}{pos:vg}{a:qc}{fa:Ca->Res D}
section
variable {p p2 apos cpos:vg}{tg b c e o ie:qc}{es:List qc}{f fi fb:Ca->Res D}{fs:Ca->Res (List D)}
def Na0(i:Nat)(δ:Ca)(ds:List D)(d ix:D):Out:=match ix with
 | .int k=>match JT ds.length k with
  |some j=>.nx (δ.set i (some (.o (ds.set j d))))
  |none=>.stuck
 |_=>.stuck
def Oa0(i:Nat)(fi:Ca->Res D)(δ:Ca)(d:D):Out:=match δ[i]? with
 |some (some (.o ds))=>Kj (fi δ) (Na0 i δ ds d)
 |_=>.stuck
def QO(i:Nat)(fi f:Ca->Res D):Ca->Out:=λδ=>Kj (f δ) (Oa0 i fi δ)
end
theorem Ez:∀ {ns:List Int} {us:List Fa},Vals (ns.map V.int) us->mr us ns
 | [],_,.nil=>.nil
 |n::ns,_,.cons ⟨t,h⟩ r=>by rw[h];exact .cons n t (Ez r)
section
variable {p:vg}
theorem Zm{K:td}{W:WS}{H:Hp}:∀ {ds:List D} {ns:List Int} {vs:List V},Ym ds=some ns->HasL K W H ds vs->vs=ns.map V.int
 | [],ns,vs,h,r=>by cases h;rw[HasL]at r;exact r
 |d::ds,ns,vs,h,r=>by
  cases d with
  |int x=>
   obtain⟨ys,h1,rfl⟩:=jh.mp (show(Ym ds).map (x:: ·)=some ns from h);rw[HasL]at r
   obtain⟨v,q,rfl,hv,hq⟩:=r;rw[Has]at hv
   rw[hv,Zm h1 hq];rfl
  |_=>cases h
end
end L3
namespace HT
open PySem PyProof.Rows
section
open PySem.SeqAt
open PySem.AutoSeq1 (wpAny_loadPart')
open PySem.MeetsSeq PySem.MeetsSeq2 PySem.MeetsSeq3
end
section
variable {prog:ic}{w:vd}{A:je}{E:Fa->Shared->Prop}{s:Shared}
end
end HT
namespace L3
open PySem PySem.Spec PyProof.Rows L2 SeqAt
section
variable {X:Cx}{xw:XW}
end
end L3
namespace L3
open PySem
def Rise(xs:Array Nat):Prop:=xs.toList.Pairwise (λa b=>a<b)
variable{xs:Array Nat}{i j:Nat}
theorem Rise.lt(r:Rise xs){a b:Nat}(h:i<j)(ha:xs[i]? =some a)(hb:xs[j]? =some b):a<b:=by
 unfold Rise at r;rw[List.pairwise_iff_getElem]at r
 rw[<-ul]at ha hb
 obtain⟨p,e⟩:=ya.mp ha;obtain⟨q,f⟩:=ya.mp hb;have z:=r i j p q h;rw[e,f]at z;exact z
def YW(xs:Array Nat)(j p:Nat):Prop:=p<=xs.size/\(∀ i a,i<p->xs[i]? =some a->a<j)/\∀ i a,p<=i->xs[i]? =some a->j<=a
theorem Hy(r:Rise xs)(j:Nat):∀ (n lo hi:Nat),hi-lo<=n->lo<=hi->hi<=xs.size->(∀ i a,i<lo->xs[i]? =some a->a<j)->(∀ i a,hi<=i->xs[i]? =some a->j<=a)->
  YW xs j (SetTable.below.go xs j n lo hi):=by
 intro n
 induction n with
 |zero=>
  intro lo hi h1 h2 h3 h4 h5;have:lo=hi:=by omega
  subst this;exact⟨h3,h4,h5⟩
 |succ n ih=>
  intro lo hi h1 h2 h3 h4 h5;unfold SetTable.below.go;by_cases hl:lo<hi
  .rw[if_pos hl];dsimp only;have hm:(lo+hi) / 2<xs.size:=by omega
   have hg:xs[(lo+hi) / 2]? =some xs[(lo+hi) / 2]:=ae hm;have hd:xs.getD ((lo+hi) / 2) j=xs[(lo+hi) / 2]:=by simp[getD,hm]
   rw[hd];by_cases hc:xs[(lo+hi) / 2]<j
   .rw[if_pos hc];refine ih _ _ (by omega) (by omega) h3 (λi a hi' ha=>?_) h5;rcases av i ((lo+hi) / 2) with q|q
    .exact On (r.lt q ha hg) hc
    .have:i=(lo+hi) / 2:=by omega
     subst this;rw[hg]at ha;cases ha;exact hc
   .rw[if_neg hc];refine ih _ _ (by omega) (by omega) (by omega) h4 (λi a hi' ha=>?_);rcases av ((lo+hi) / 2) i with q|q
    .exact uf (tm hc) (rl (r.lt q hg ha))
    .have:i=(lo+hi) / 2:=by omega
     subst this;rw[hg]at ha;cases ha;exact tm hc
  .rw[if_neg hl];have:lo=hi:=by omega
   subst this;exact⟨h3,h4,h5⟩
theorem Gy(r:Rise xs)(j:Nat):YW xs j (ui xs j):=
 Hy r j xs.size 0 xs.size (by omega) (vh _) (jd _) (λ_ _ h=>absurd h (jn _)) λi a h e=>by
  have:=(nt.mp e).1;omega
theorem Dz(r:Rise xs)(hj:xs[ui xs j]? ≠some j):Rise (SetTable.insertAt xs (ui xs j) j):=by
 obtain⟨h1,h2,h3⟩:=Gy r j;generalize ui xs j=p at*
 have strict:∀ i a,p<=i->xs[i]? =some a->j<a:=λi a hi ha=>by
  rcases av j a with q|q
  .exact q
  .have e:a=j:=Nat.le_antisymm q (h3 i a hi ha);subst e;rcases Nat.eq_or_lt_of_le hi with z|z
   .subst z;exact absurd ha hj
   .have hp:p<xs.size:=On z (nt.mp ha).1;have hg:xs[p]? =some xs[p]:=ae hp;have:=r.lt z hg ha;have:=h3 p _ (jd _) hg;omega
 unfold Rise at r ⊢;rw[SetTable.toList_insertAt,List.pairwise_append];refine⟨vk.sublist (List.take_sublist _ _) r,ji.mpr ⟨λb hb=>?_,vk.sublist (List.drop_sublist _ _) r⟩,λa ha b hb=>?_⟩
 .obtain⟨i,hi,e⟩:=pq.mp hb;rw[List.getElem_drop]at e
  refine strict (p+i) b (Nat.le_add_right _ _) ?_;rw[<-ul,<-e];exact oa _
 .have hlt:a<j:=by
   obtain⟨i,hi,e⟩:=pq.mp ha;rw[List.getElem_take]at e
   have hi':i<p:=by rw[ao]at hi;omega
   refine h2 i a hi' ?_;rw[<-ul,<-e];exact oa _
  rcases zc.mp hb with rfl|hb
  .exact hlt
  .obtain⟨i,hi,e⟩:=pq.mp hb;rw[List.getElem_drop]at e
   refine On hlt (strict (p+i) b (Nat.le_add_right _ _) ?_);rw[<-ul,<-e];exact oa _
structure TOk(txt:Bool)(t:xi):Prop where
 led:t.led= !txt
 ok:t.plain=true->Rise t.place/\t.dummies= #[]
variable{txt:Bool}
theorem Yk{t:xi}(h:TOk txt t)(n:Nat):TOk txt (t.standIn n):=⟨h.led,λe=>by cases e⟩
theorem Fx{t:xi}(h:TOk txt t)(n:Nat):TOk txt (t.orStandIn n):=by
 unfold SetTable.orStandIn;split
 .exact h
 .exact Yk h n
theorem has_none(j:Nat):SetTable.has #[] j=false:=by simp[SetTable.has]
theorem JD{t:xi}(hd:t.dummies= #[])(h:Int){d:Option Nat}:∀ (n:Nat) (p:SetTable.Probe),p.dummy=none->SetTable.probe.go t (λ_=>h+1) h n p=some (.empty j d)->t.slot j=.empty/\d=none:=by
 intro n
 induction n with
 |zero=>intro p _ e;cases e
 |succ n ih=>
  intro p hp e;unfold SetTable.probe.go at e;split at e
  .rename_i hs;cases e;exact⟨hs,hp⟩
  .rename_i hs;unfold SetTable.slot at hs;dsimp only at hs;split at hs
   .cases hs
   .rw[hd,has_none]at hs;simp at hs
  .rw[if_neg (by simp;omega)]at e
   refine ih _ ?_ e;unfold SetTable.advance;split
   .exact hp
   .exact hp
variable{b:Bool}
theorem Y2{t:xi}(k:TOk txt t){h:Int}(e:t.freeSlot h=some (j,b)):TOk txt (t.put j).1:=by
 refine⟨k.led,λhp=>?_⟩;obtain⟨r,d⟩:=k.ok hp;unfold SetTable.freeSlot at e;split at e
 .rename_i j' d' e';obtain⟨z1,z2⟩:=JD d h _ _ rfl e';subst z2;cases e;show Rise (SetTable.insertAt t.place (ui t.place j') j')/\(if SetTable.has t.dummies j'=true then _ else t.dummies)= #[];refine⟨Dz r λq=>?_,?_⟩
  .unfold SetTable.slot at z1;dsimp only at z1;rw[if_pos (by rw[q];simp)]at z1;cases z1
  .rw[d,has_none];rfl
 .cases e
theorem AI{t:xi}(k:TOk txt t)(es:Array (Int×Fa))(h:Int)(x:Fa):TOk txt (layNew t es h x).2.1:=by
 unfold layNew;split
 .rename_i j b e;exact Fx (Y2 k e) _
 .exact Yk k _
theorem VT{m f v:Nat}{l p:Bool}{hs:Array Int}{t:xi}{o:Array Nat}(e:SetTable.laid m f v l p hs=some (t,o)):t.led=l/\t.plain=p/\Rise t.place/\t.dummies= #[]:=by
 unfold SetTable.laid at e;cases hc:SetTable.layClean m hs with
 |none=>rw[hc]at e;cases e
 |some ow=>
  rw[hc]at e
  cases e;refine⟨rfl,rfl,?_,rfl⟩;show vk _ (List.map _ (List.filterMap _ (qb (m+1)))).toArray.toList;rw[List.toList_toArray,List.map_filterMap];refine vk.filterMap _ (R:=λa b=>a<b) ?_ List.pairwise_lt_range;intro a a' h b hb b' hb';cases h1:ow.getD a none with
  |none=>rw[h1]at hb;cases hb
  |some z=>
   cases h2:ow.getD a' none with
   |none=>rw[h2]at hb';cases hb'
   |some z'=>rw[h1]at hb;rw[h2]at hb';cases hb;cases hb';exact h
theorem FO{t:xi}(k:TOk txt t)(es:Array (Int×Fa))(n:Nat):TOk txt (relayAll t es n).2.1:=by
 unfold relayAll;split
 .rename_i t' o e;dsimp only;split
  .obtain⟨a1,a2,a3,a4⟩:=VT (show SetTable.laid _ _ _ _ _ _=_ from e);exact⟨a1.trans k.led,λ_=>⟨a3,a4⟩⟩
  .exact Yk k _
 .exact Yk k _
theorem KD{α:Type}:∀ (l:List α) (i:Nat) (h:i<l.length),(l[i]::l.eraseIdx i).Perm l
 | [],_,h=>absurd h (jn _)
 |a::l,0,_=>Perm.refl _
 |a::l,i+1,h=>by
  have hi:i<l.length:=by simpa using h
  rw[List.getElem_cons_succ,yu];exact(Perm.swap a _ _).trans (Perm.cons a (KD l i hi))
variable{α:Type}
theorem T2(next:Nat->Nat):∀ (n k:Nat) (left:List α) (out:Array α),n=left.length->(pickOrder.go next n k left out).toList.Perm (out.toList++left):=by
 intro n
 induction n with
 |zero=>intro k left out e;have:left= []:=wk.mp e.symm;subst this;unfold pickOrder.go;simp
 |succ n ih=>
  intro k left out e;have hl:next k%left.length<left.length:=Nat.mod_lt _ (by omega)
  unfold pickOrder.go;rw[oa hl];dsimp only;refine(ih _ _ _ (by rw[qt hl];omega)).trans ?_;rw[Array.toList_push,ak];exact Perm.append_left _ (by simpa using KD left _ hl)
theorem Et(next:Nat->Nat)(xs:Array α):(ur next xs).toList.Perm xs.toList:=by
 unfold ur;simpa using T2 next xs.size 0 xs.toList #[] (by simp)
def nv:Fa->Int
 | .int n _=>n
 |_=>0
def Xx(σ:List Int)(k:Int):List Int:=if k∈σ then σ else σ++ [k]
variable{a:ca}{h:ke}{v:Fa}{o:ki}{prog:ic}{w:vd}{A:je}{E:Fa->Shared->Prop}{s:Shared}{σ:List Int}{k:Int}{es:Array (Int×Fa)}{ep:Nat}
def SI(prog:ic)(w:vd)(h:ke)(a:ca)(σ:List Int):Prop:=
 ∃ o es ep t,h.get? a=some o/\o.ExactSet/\o.data=.set es ep t/\ElemsOf (xo prog w) es.toList/\(es.toList.map λe=>nv e.2).Perm σ/\es.size<xl/\t.fits es.size=true/\TOk (w.params.followText "set-order") t
theorem SI.at'{h':ke}(x:SI prog w h a σ)(k:∀ o,h.get? a=some o->h'.get? a=some o):SI prog w h' a σ:=by
 obtain⟨o,es,ep,t,ho,r⟩:=x;exact⟨o,es,ep,t,k o ho,r⟩
theorem JX(h:(xo prog w).is k v=true):nv v=k:=by
 obtain⟨t,rfl⟩:=wt (show nq k v=true from h);rfl
theorem YL(k:Int)(t:Tok):(xo prog w).is k (.int k t)=true:=by
 show nq k (.int k t)=true;simp[nq]
theorem UA{es':Array (Int×Fa)}{t t':xi}(ho:h.get? a=some o)(hex:o.ExactSet)(hd:o.data=.set es ep t)(hel:ElemsOf (xo prog w) es'.toList)(hp:(es'.toList.map λe=>nv e.2).Perm σ)(hb:es'.size<xl)(hf:t'.fits es'.size=true)(ht:TOk (w.params.followText "set-order") t'):
  (h.update a (Obj.putSet es' t')).get? a=some {o with data:=.set es' (ep+1) t'}/\SI prog w (h.update a (Obj.putSet es' t')) a σ:=by
 have hg:=uj (Obj.putSet es' t') ho (by rw[putSet_of es' t' hd];rfl);rw[putSet_of es' t' hd]at hg
 exact⟨hg,{o with data:=.set es' (ep+1) t'},es',ep+1,t',hg,hex,rfl,hel,hp,hb,hf,ht⟩
theorem AG{g:Bool->Sem Unit}(hg:∀ (b:Bool) (s₁:Shared) (Q':Unit->Shared->Prop),Q' () s₁->wa (pb prog w) A (g b) Q' E s₁){es1:Array (Int×Fa)}{t t2:xi}(ho:s.heap.get? a=some o)(hex:o.ExactSet)(hd:o.data=.set es ep t)(hel:ElemsOf (xo prog w) es1.toList)(hp:(es1.toList.map λe=>nv e.2).Perm σ)(hb:es1.size<xl)(hf:t2.fits es1.size=true)(ht:TOk (w.params.followText "set-order") t2){wd:Bool}{R:Option Bool->Shared->Prop}(h:∀ h',dm a s.heap h'->SI prog w h' a σ->R (some true) {s with heap:=h'}):
  wa (pb prog w) A (storeSet a es1 t2 >>= λ_=>if(!wd&&t2.tooFull)=true then(g (relayAll t2 es1 (xk es1.size)).2.2 >>= λ_=>
   storeSet a (relayAll t2 es1 (xk es1.size)).1 (relayAll t2 es1 (xk es1.size)).2.1 >>= λ_=>pure (some true)) else pure (some true)) R E s:=by
 obtain⟨ho1,hS1⟩:=UA (prog:=prog) (w:=w) ho hex hd hel hp hb hf ht;have sb:=dm.update s.heap a (Obj.putSet es1 t2);refine Da (wpAny_storeSet_of ho hd (ci (λ_=>?_) λ_=>ia (h _ sb hS1)) (au hb));have pp:=relayAll_perm t2 es1 (xk es1.size);have ff:=relayAll_fits t2 es1 (xk es1.size);have kk:=FO ht es1 (xk es1.size);generalize relayAll t2 es1 (xk es1.size)=R' at pp ff kk ⊢;obtain⟨es2,t3,g2⟩:=R';dsimp only at pp ff kk ⊢;have hz:es2.size=es1.size:=by rw[<-mj,pp.length_eq,mj]
 have hb2:es2.size<xl:=by rw[hz];exact hb
 refine Da (hg _ _ _ (Da (wpAny_storeSet_of ho1 rfl (ia ?_) (au hb2))));exact h _ (sb.trans (dm.update _ a _)) (UA (prog:=prog) (w:=w) ho1 hex rfl (hel.perm pp) ((pp.map _).trans hp) hb2 ff kk).2
theorem Q3{u:Tok}{Q:Bool->Shared->Prop}(hS:SI prog w s.heap a σ)(room:σ.length+1<xl)(h:∀ h' b,dm a s.heap h'->SI prog w h' a (Xx σ k)->Q b {s with heap:=h'}):wa (pb prog w) A (setAddHashed a (.int k u) (hashInt k)) Q E s:=by
 obtain⟨o,es,ep,t,ho,hex,hd,hel,hp,hb,hf,ht⟩:=hS;have hl:es.size=σ.length:=by rw[<-hp.length_eq,la,mj]
 have hk:(xo prog w).is k (.int k u)=true:=YL k u;unfold setAddHashed setAddHashedIn;refine ng (Da (gk ho hd hf ?_));dsimp only;rw[byScan_of (knd:=xo prog w) rfl hb hel,if_pos rfl];unfold setAddByScan;refine Da (Da (dq (Da (wpAny_setScan_of (knd:=xo prog w) hk ho hd hf hel ?_))));cases hr:List.findIdx? (λe=>(xo prog w).is k e.2) es.toList with
 |some j=>
  obtain⟨hj,hpj,_⟩:=wo.mp hr;have hm:k∈σ:=hp.mem_iff.mp (jf.mpr ⟨es.toList[j],iq hj,JX hpj⟩);refine ia (ia (h s.heap _ (dm.refl a s.heap) ?_));rw[Xx,if_pos hm];exact⟨o,es,ep,t,ho,hex,hd,hel,hp,hb,hf,ht⟩
 |none=>
  have hm:k∉σ:=λz=>by
   obtain⟨e,he,q⟩:=jf.mp (hp.mem_iff.mpr z);obtain⟨⟨k',hk',_⟩,_⟩:=hel e he;have:k'=k:=(JX hk').symm.trans q;subst this;have:=List.findIdx?_eq_none_iff.mp hr e he;rw[hk']at this;cases this
  have pp:=layNew_perm t es (hashInt k) (.int k u);have ff:=layNew_fits t es (hashInt k) (.int k u);have kk:=AI ht es (hashInt k) (.int k u);dsimp only;generalize layNew t es (hashInt k) (.int k u)=L at pp ff kk ⊢;obtain⟨es1,t1,wd,gv⟩:=L;dsimp only at pp ff kk ⊢;rw[Array.toList_push]at pp
  have hp1:(es1.toList.map λe=>nv e.2).Perm (Xx σ k):=by
   rw[Xx,if_neg hm];refine(pp.map _).trans ?_;rw[kg];exact hp.append_right _
  have hz:es1.size<xl:=by rw[<-mj,pp.length_eq,ud,mj,hl];exact room
  have gw:∀ (b:Bool) (s₁:Shared) (Q':Unit->Shared->Prop),Q' () s₁->wa (pb prog w) A (match b with|true=>rule "set.scan.the-table-gave-way"|false=>(pure ():Sem Unit)) Q' E s₁:=λb s₁ Q' q=>by
   cases b
   .exact ia q
   .exact dq q
  refine Da (gw gv _ _ ?_);have fin:∀ h',dm a s.heap h'->SI prog w h' a (Xx σ k)->wa (pb prog w) A (pure true) Q E {s with heap:=h'}:=λh' q1 q2=>ia (h h' true q1 q2);refine ci (λhpl=>?_) (λhpl=>?_)
  .refine Da ?_;rw[hashByValue_scannable 8 (show(Value.int k u).scannable=true from rfl)];refine ia ?_;exact AG gw ho hex hd ((hel.push hk rfl).perm pp) hp1 hz ff kk fin
  .refine Da (ia ?_);exact AG gw ho hex hd ((hel.push hk rfl).perm pp) hp1 hz ff kk fin
namespace F
theorem slot_si_next:Slot "set_iterator" "__next__" "set_iterator.__next__":=
 .of (owner:="set_iterator") (n:="__next__") (by rw[lw,cq];kernel_rfl) (by decide +kernel) (by decide +kernel) (by decide +kernel) (by first|exact .inl (by decide +kernel)|exact .inr (by decide +kernel)) (by rw[yk];kernel_rfl)
theorem entry_si_next:entryFor table "set_iterator.__next__"=some kj.«set_iterator.__next__» :=entryFor_of_fast (by kernel_rfl)
theorem args_si_next(a:Fa):argsOk "set_iterator.__next__" ⟨[a],[]⟩:=by unfold argsOk;kernel_rfl
theorem entry_set_iter:entryFor table "set.__iter__"=some kj.«frozenset.__iter__» :=entryFor_alias (id':="frozenset.__iter__") (by kernel_rfl) rfl (by decide +kernel) (by kernel_rfl)
end F
abbrev Fm(h:ke)(I:ca)(first:Fa)(i:Nat)(S:ca)(n ep:Nat):Prop:=
 h.get? I=some {cls:=.type "set_iterator",dict:=none,data:=.fields #[first,fg i,.ref S,fg n,fg ep],slots:= #[]}
variable{Q:Option (Fa×Nat)->Shared->Prop}{I T:ca}{n slot given:Nat}
section
variable {S:ca}{t:xi}
theorem VQ{src:Source}{Q:Nat->Shared->Prop}(hn:n≠0)(h:∀ k d,k<n->Q k {s with drawn:=d}):wa (pb prog w) A (choose src n) Q E s:=λΓ p hΓ=>by
 unfold choose;rw[Sem.wp_choose];exact⟨hn,by rw[vo];exact h _ _ (Nat.mod_lt _ (Nat.pos_of_ne_zero hn))⟩
theorem Yr{α:Type}:∀ (n:Nat) (xs:List α) (s:Shared) {Q:List α->Shared->Prop},n=xs.length->(∀ ys d,ys.Perm xs->Q ys {s with drawn:=d})->wa (pb prog w) A (drawOrder n xs) Q E s
 |0,xs,s,Q,e,h=>by
  have:xs= []:=wk.mp e.symm;subst this;unfold drawOrder;exact ia (h [] s.drawn (Perm.refl _))
 |n+1,[],s,Q,e,h=>by simp at e
 |n+1,x::xs,s,Q,e,h=>by
  unfold drawOrder;refine Da (VQ (by simp) λk d hk=>?_);rw[oa hk];dsimp only;refine Da (Yr n _ _ (by rw[qt hk];omega) λys d' hp=>ia ?_);exact h _ d' ((Perm.cons _ hp).trans (KD _ _ hk))
theorem Oq{Q:Bool->Shared->Prop}(e:w.params.followText "set-order"=b)(h:Q b s):wa (pb prog w) A setsByText Q E s:=by
 unfold setsByText;refine Da (bv (ia ?_));show Q (w.params.followText "set-order") s;rw[e];exact h
theorem Mx(bt:w.params.followText "set-order"=true)(ho:s.heap.get? S=some o)(hd:o.data=.set es ep t)(hf:t.fits es.size=true)(h:Q (((ur (w.params.setOrder S ep) es)[given]?).map λe=>(e.2,slot)) s):wa (pb prog w) A (setNext S slot given ep) Q E s:=by
 unfold setNext;refine Da (gk ho hd hf ?_);dsimp only;refine Da (Oq bt ?_);rw[if_pos rfl];rw[if_neg (by simp)];refine Da ?_;unfold setWalk;refine Da (gk ho hd hf ?_);dsimp only;refine Da (Oq bt ?_);rw[if_pos rfl];exact Da (bv (ia (ia h)))
theorem Nu(bt:w.params.followText "set-order"=false)(ho:s.heap.get? S=some o)(hd:o.data=.set es ep t)(hf:t.fits es.size=true)(hl:t.led=true)(hp:t.plain=true\/es.size<=1)(h:Q (match es[ui t.place slot]?,t.place[ui t.place slot]? with|some (_,x),some j=>some (x,j+1)|_,_=>none) s):
  wa (pb prog w) A (setNext S slot given ep) Q E s:=by
 unfold setNext;refine Da (gk ho hd hf ?_);dsimp only;refine Da (Oq bt ?_);rw[if_neg (by simp)];refine ci (λhc=>?_) (λ_=>?_)
 .have hc':(!t.plain&&decide (es.size>1))=true:=hc;rcases hp with q|q
  .rw[q]at hc';cases hc'
  .rw[show decide (es.size>1)=false from decide_eq_false (by omega),vp]at hc';cases hc'
 .refine Da ?_;refine ci (λhc=>?_) (λ_=>ia (ia h));have hc':(!t.led&& !es.isEmpty)=true:=hc;rw[hl]at hc';cases hc'
theorem Tz{sl:Nat}{Q:Fin->Shared->Prop}(hi:Fm s.heap I (fg sl) i S es.size ep)(ho:s.heap.get? S=some o)(hd:o.data=.set es ep t)(hf:t.fits es.size=true)(h:wa (pb prog w) A (setNext S sl i ep >>= λr=>match r with
    |some (x,next)=>qq (.ref I) 0 (fg next) >>= λ_=>qq (.ref I) 1 (fg ((i:Int)+1)) >>= λ_=>ret x
    |none=>qq (.ref I) 2 .none >>= λ_=>newExc (.type "StopIteration") [] >>= λe=>raiseNew e) Q E s):wa (pb prog w) A (kj.«set_iterator.__next__» ⟨[.ref I],[]⟩) Q E s:=by
 unfold kj.«set_iterator.__next__»;show wa _ _ (fieldsOf (.ref I) >>= _) _ _ s;refine Da (wpAny_fieldsOf hi rfl ?_);show wa _ _ (setEntries S >>= _) _ _ s;refine Da (zq ho hd hf ?_);refine ci (λhc=>absurd hc (by simp)) (λ_=>?_);exact h
theorem Uz{Q:Fin->Shared->Prop}(hi:Fm s.heap I (.ref T) i S es.size ep)(ho:s.heap.get? S=some o)(hd:o.data=.set es ep t)(hf:t.fits es.size=true){ps:Array Fa}(hT:s.heap.get? T=some {cls:=.type "tuple",data:=.seq ps})(h:wa (pb prog w) A (match ps[i]? with
     |some (.int place _)=>setNextDrawn S place.toNat ep >>= λx=>qq (.ref I) 1 (fg ((i:Int)+1)) >>= λ_=>ret x
     |some _=>unsupported "internal:set_iterator"
     |none=>qq (.ref I) 0 (fg 0) >>= λ_=>qq (.ref I) 2 .none >>= λ_=>newExc (.type "StopIteration") [] >>= λe=>raiseNew e) Q E s):wa (pb prog w) A (kj.«set_iterator.__next__» ⟨[.ref I],[]⟩) Q E s:=by
 unfold kj.«set_iterator.__next__»;show wa _ _ (fieldsOf (.ref I) >>= _) _ _ s;refine Da (wpAny_fieldsOf hi rfl ?_);show wa _ _ (setEntries S >>= _) _ _ s;refine Da (zq ho hd hf ?_);refine ci (λhc=>absurd hc (by simp)) (λ_=>?_);show wa _ _ (seqItems? (.ref T) >>= _) _ _ _;refine Da (ss hT rfl ?_);dsimp only;simp only[lp];exact h
end
namespace F
theorem slot_si_iter:Slot "set_iterator" "__iter__" "set_iterator.__iter__":=
 .of (owner:="set_iterator") (n:="__iter__") (by rw[lw,cq];kernel_rfl) (by decide +kernel) (by decide +kernel) (by decide +kernel) (by first|exact .inl (by decide +kernel)|exact .inr (by decide +kernel)) (by rw[yk];kernel_rfl)
theorem entry_si_iter:entryFor table "set_iterator.__iter__"=some kj.«dict_keyiterator.__iter__» :=entryFor_alias (id':="dict_keyiterator.__iter__") (by kernel_rfl) rfl (by decide +kernel) (by kernel_rfl)
theorem args_si_iter(a:Fa):argsOk "set_iterator.__iter__" ⟨[a],[]⟩:=by unfold argsOk;kernel_rfl
end F
variable{Q:Fa->Shared->Prop}{first:Fa}
section
variable {S:ca}{t:xi}
theorem ZF(hi:Fm s.heap I first i S n ep)(h:Q (.ref I) s):wa (pb prog w) A (pyIter (.ref I)) Q E s:=
 bu ⟨_,hi,rfl⟩ F.slot_si_iter (og F.slot_si_iter ⟨_,hi,rfl⟩ F.entry_si_iter (ia ⟨_,rfl,"set_iterator",_,⟨_,hi,rfl⟩,F.slot_si_next.lookup,h⟩) (F.args_si_iter _))
theorem Cr{Q:Option Fa->Shared->Prop}(hi:Fm s.heap I first i S n ep)(h:wa (pb prog w) A.in1 (kj.«set_iterator.__next__» ⟨[.ref I],[]⟩) (λf s'=>∃ v,f=.done (.ret v)/\Q (some v) s') (λe s'=>(∃ a o,e=.ref a/\s'.heap.get? a=some o/\o.cls=.type "StopIteration")/\Q none s') s):
  wa (pb prog w) A (pyNext (.ref I)) Q E s:=by
 unfold pyNext;refine Da (wpAny_attempt (zi (name:=jr "__next__") ⟨_,hi,rfl⟩ F.slot_si_next (og F.slot_si_next ⟨_,hi,rfl⟩ F.entry_si_next (af h (λf s' z=>?_) λe s' z=>?_) (F.args_si_next _))))
 .obtain⟨v,rfl,q⟩:=z;exact⟨v,rfl,ia q⟩
 .obtain⟨⟨a,oe,rfl,ho,hc⟩,q⟩:=z;exact Da (wpAny_isInstance (T:="StopIteration") (b:=true) ⟨oe,ho,hc⟩ isSubtype_stop (ia q))
theorem WX{Q:Fin->Shared->Prop}(hh:A.handled=none)(h:∀ h' e,(∀ b o,s.heap.get? b=some o->h'.get? b=some o)->(∃ o,h'.get? e=some o/\o.cls=.type "StopIteration")->E (.ref e) {s with heap:=h'}):
  wa (pb prog w) A (newExc (.type "StopIteration") [] >>= λe=>raiseNew e) Q E s:=by
 refine Da ?_;simp only[newExc,newTuple];refine Da (tf ?_ (by size_fits));refine Da (m:=ft _ _) (wpAny_of_eq (a:=Value.none) (by first|rfl|(simp only[ft];rfl)) ?_);refine tf ?_ (by size_fits);simp only[raiseNew];refine Da (wpAny_handled ?_);rw[hh];exact Da (ia (wpAny_throw (h _ _ (λb o e=>ja _ (ja _ e)) ⟨_,yc _ rfl,rfl⟩)))
theorem Vt(hh:A.handled=none)(hne:S≠I)(ord:List Fa)(hlen:ord.length=es.size)(sl:Nat->Nat)(hd:o.data=.set es ep t)(hf:t.fits es.size=true)(hN:∀ (A':je) i (s:Shared) (Q:Option (Fa×Nat)->Shared->Prop) (E:Fa->Shared->Prop),i<=es.size->s.heap.get? S=some o->Q (ord[i]?.map λx=>(x,sl (i+1))) s->wa (pb prog w) A' (setNext S (sl i) i ep) Q E s):
  Walks prog w A I [I,S] [I] es.size (λi v=>ord[i]? =some v) (λi h=>Fm h I (fg (sl i)) i S es.size ep/\h.get? S=some o) where
 sub:=λb hb=>by simp at hb;simp[hb]
 frame:=λ_ _ _ st hk=>⟨hk I (by simp) _ st.1,hk S (by simp) _ st.2⟩
 item:=λi s Q E hi st hQ=>by
  refine Cr st.1 (Tz st.1 st.2 hd hf ?_);refine Da (hN _ i s _ _ (rl hi) st.2 ?_);have hx:ord[i]? =some (ord[i]'(by omega)):=oa (by omega);rw[hx];show wa _ _ (qq (.ref I) 0 (fg (sl (i+1))) >>= _) _ _ _;refine Da (rj st.1 (by simp) λh1 a1 c1=>?_);refine Da (rj (s:= {s with heap:=h1}) a1 (by simp) λh2 a2 c2=>?_);refine ia ⟨_,rfl,hQ _ h2 s.toks hx ⟨?_,?_⟩ λb ob hb e=>?_⟩
  .show h2.get? I=_;rw[a2];rfl
  .exact c2.extBut _ _ hne (c1.extBut _ _ hne st.2)
  .have hb':b≠I:=λz=>hb (by simp[z]);exact c2.extBut _ _ hb' (c1.extBut _ _ hb' e)
 done:=λs Q E st hQ=>by
  refine Cr st.1 (Tz st.1 st.2 hd hf ?_);refine Da (hN _ _ s _ _ (jd _) st.2 ?_);rw[zf (by omega)];show wa _ _ (qq (.ref I) 2 .none >>= _) _ _ _;refine Da (rj st.1 (by simp) λh1 a1 c1=>?_);refine WX (by simpa using hh) λh2 e k he=>⟨⟨e,he.choose,rfl,he.choose_spec⟩,hQ h2 s.toks λb ob hb q=>k _ _ (c1.extBut _ _ (λz=>hb (by simp[z])) q)⟩
 self:=λ_ _ _ _ st hQ=>ZF st.1 hQ
theorem EE(hh:A.handled=none)(hne:S≠I)(hT:T≠I)(ys:List Nat)(hp:ys.Perm (qb es.size))(hd:o.data=.set es ep t)(hf:t.fits es.size=true):
  Walks prog w A I [I,S,T] [I] es.size (λi v=>(ys.map λj=>(es.getD j (0,.none)).2)[i]? =some v)
   (λi h=>Fm h I (.ref T) i S es.size ep/\h.get? S=some o/\h.get? T=some {cls:=.type "tuple",data:=.seq (ys.map λ(j:Nat)=>fg (j:Int)).toArray}):=by
 have hl:ys.length=es.size:=by rw[hp.length_eq,lc]
 exact {
 sub:=λb hb=>by simp at hb;simp[hb]
 frame:=λ_ _ _ st hk=>⟨hk I (by simp) _ st.1,hk S (by simp) _ st.2.1,hk T (by simp) _ st.2.2⟩
 item:=λi s Q E hi st hQ=>by
  refine Cr st.1 (Uz st.1 st.2.1 hd hf st.2.2 ?_);have hx:ys[i]? =some (ys[i]'(by omega)):=oa (by omega);have hm:ys[i]'(by omega)<es.size:=wb.mp (hp.mem_iff.mp (iq (by omega)));generalize ys[i]'(by omega)=j at hx hm;rw[show(ys.map λ(j:Nat)=>fg (j:Int)).toArray[i]? =some (fg j) by simp[hx]];show wa _ _ (setNextDrawn S j ep >>= _) _ _ _;refine Da ?_;unfold setNextDrawn;refine Da (gk st.2.1 hd hf ?_);dsimp only;refine ci (λhc=>absurd hc (by simp)) (λ_=>?_);rw[ae hm];refine ia ?_;refine Da (rj st.1 (by simp) λh2 a2 c2=>?_);refine ia ⟨_,rfl,hQ _ h2 s.toks ?_ ⟨?_,?_,?_⟩ λb ob hb e=>c2.extBut _ _ (λz=>hb (by simp[z])) e⟩
  .rw[wc,hx];simp[getD,hm]
  .show h2.get? I=_;rw[a2];rfl
  .exact c2.extBut _ _ hne st.2.1
  .exact c2.extBut _ _ hT st.2.2
 done:=λs Q E st hQ=>by
  refine Cr st.1 (Uz st.1 st.2.1 hd hf st.2.2 ?_);rw[show(ys.map λ(j:Nat)=>fg (j:Int)).toArray[es.size]? =none by simp[hl]];show wa _ _ (qq (.ref I) 0 (fg 0) >>= _) _ _ _;refine Da (rj st.1 (by simp) λh1 a1 c1=>?_);refine Da (rj (s:= {s with heap:=h1}) a1 (by simp) λh2 a2 c2=>?_);refine WX (by simpa using hh) λh3 e k he=>⟨⟨e,he.choose,rfl,he.choose_spec⟩,hQ h3 s.toks λb ob hb q=>k _ _ (c2.extBut _ _ (λz=>hb (by simp[z])) (c1.extBut _ _ (λz=>hb (by simp[z])) q))⟩
 self:=λ_ _ _ _ st hQ=>ZF st.1 hQ}
end
structure SW(prog:ic)(w:vd)(A:je)(I:ca)(fp:List ca)(ord:List Fa)(St:Nat->ke->Prop):Prop where
 W:Walks prog w A I fp [I] ord.length (λi v=>ord[i]? =some v) St
 mem:I∈fp
def slotAt(xs:Array Nat):Nat->Nat
 |0=>0
 |i+1=>xs.getD i 0+1
theorem BP(r:Rise xs)(i:Nat)(hi:i<=xs.size):ui xs (slotAt xs i)=i:=by
 obtain⟨h1,h2,h3⟩:=Gy r (slotAt xs i);generalize ui xs (slotAt xs i)=p at*;cases i with
 |zero=>
  cases p with
  |zero=>rfl
  |succ p=>
   have hg:xs[p]? =some xs[p]:=ae (by omega);exact absurd (show xs[p]<0 from h2 p _ (Tk _) hg) (jn _)
 |succ i=>
  simp only[slotAt]at h2 h3;have hgi:xs[i]? =some xs[i]:=ae (by omega);have hd:xs.getD i 0=xs[i]:=by simp[getD,show i<xs.size by omega]
  rw[hd]at h2 h3
  rcases Nat.lt_trichotomy p (i+1) with q|q|q
  .have:=h3 i _ (by omega) hgi;omega
  .exact q
  .have hg:xs[i+1]? =some xs[i+1]:=ae (by omega);have a:=h2 (i+1) _ q hg;have b:=r.lt (Tk i) hgi hg;omega
theorem MD(h:xs.size<=1):Rise xs:=by
 unfold Rise
 match hx:xs.toList with
 | []=>exact vk.nil
 | [a]=>exact List.pairwise_singleton _ _
 |a::b::l=>have:=congrArg List.length hx;simp at this;omega
section
variable {S:ca}{t:xi}
theorem EJ{Q:Bool->Shared->Prop}(e:w.params.followText "set-order"=b)(ho:s.heap.get? S=some o)(hd:o.data=.set es ep t)(hf:t.fits es.size=true)(h:Q (!b&&(!t.plain&&decide (es.size>1))) s):
  wa (pb prog w) A (setDrawn S) Q E s:=by
 unfold setDrawn;refine Da (gk ho hd hf ?_);dsimp only;exact Da (Oq e (ia h))
theorem MN{prog:ic}{w:vd}{l:List (Int×Fa)}(h:ElemsOf (xo prog w) l):∀ v∈l.map (·.2),∃ n u,v=Value.int n u:=by
 intro v hv;obtain⟨e,he,rfl⟩:=jf.mp hv;obtain⟨⟨k,hk,_⟩,_⟩:=h e he;obtain⟨u,q⟩:=wt (show nq k e.2=true from hk);exact⟨k,u,q⟩
theorem Ox{Q:Fin->Shared->Prop}(hz:∀ (h':ke) I,h'=s.heap.push {cls:=.type "set_iterator",data:=.fields #[first,fg 0,.ref S,fg es.size,fg ep]}->I=s.heap.objs.size->
   Fm h' I first 0 S es.size ep->(∀ b o,s.heap.get? b=some o->h'.get? b=some o)->Q (.done (.ret (.ref I))) {s with heap:=h'})(ho:s.heap.get? S=some o)(hd:o.data=.set es ep t)(hf:t.fits es.size=true):
  wa (pb prog w) A (setEpoch S >>= λe=>newFields "set_iterator" [first,fg 0,.ref S,fg es.size,fg e] >>= λv=>ret v) Q E s:=by
 refine Da (wpAny_setEpoch_of ho hd hf ?_);exact Da (tf (ia (hz _ _ rfl rfl (yc _ rfl) λb o e=>ja _ e)))
theorem AW(hS:SI prog w s.heap S σ)(h:∀ I fp ord St h' d,(∀ A':je,A'.handled=none->SW prog w A' I fp ord St)->(ord.map nv).Perm σ->(∀ v∈ord,∃ n u,v=Value.int n u)->St 0 h'->(∀ b o,s.heap.get? b=some o->h'.get? b=some o)->s.heap.objs.size<=I->
   (∀ b∈fp,b=S\/s.heap.objs.size<=b)->Q (.ref I) {s with heap:=h',drawn:=d}):wa (pb prog w) A (pyIter (.ref S)) Q E s:=by
 obtain⟨o,es,ep,t,ho,hex,hd,hel,hp,hb,hf,ht⟩:=hS;have lS:S<s.heap.objs.size:=qd ho;have hT:s.TypeIs (.ref S) "set":=⟨o,ho,hex.1⟩
 refine bu hT PySem.F.slot_set_iter (og PySem.F.slot_set_iter hT F.entry_set_iter ?_ (PySem.F.args_set_iter_1 _));unfold kj.«frozenset.__iter__»;show wa _ _ (ou S >>= _) _ _ s;refine Da ?_;unfold ou;refine Da (zq ho hd hf (ia ?_));refine Da (EJ rfl ho hd hf ?_)
 have ord1:∀ (ord:Array (Int×Fa)),ord.toList.Perm es.toList->((ord.toList.map (·.2)).map nv).Perm σ/\∀ v∈ord.toList.map (·.2),∃ n u,v=Value.int n u:=λord q=>
  ⟨by rw[xh];exact(q.map _).trans hp,MN (hel.perm q)⟩
 cases hw:(!w.params.followText "set-order"&&(!t.plain&&decide (es.size>1)))
 .rw[if_neg (by simp)];refine Da (ia ?_);cases bt:w.params.followText "set-order"
  .have hpl:t.plain=true\/es.size<=1:=by
    rw[bt]at hw
    cases hq:t.plain
    .rw[hq]at hw
     exact .inr (by simpa using hw)
    .exact .inl rfl
   have rr:Rise t.place:=by
    rcases hpl with q|q
    .exact(ht.ok q).1
    .refine MD ?_;have hf':=hf;simp only[SetTable.fits,ze,beq_iff_eq]at hf';omega
   have hps:t.place.size=es.size:=by
    have hf':=hf;simp only[SetTable.fits,ze,beq_iff_eq]at hf';exact hf'.1
   have hl:t.led=true:=by rw[ht.led,bt];rfl
   refine Ox (first:=fg 0) (λh' I eh eI hi k=>⟨_,rfl,"set_iterator",_,⟨_,hi,rfl⟩,F.slot_si_next.lookup,?_⟩) ho hd hf;have hSI:S≠I:=by rw[eI];exact Re lS
   have hll:(es.toList.map (·.2)).length=es.size:=by simp
   refine h I [I,S] (es.toList.map (·.2)) (λi h=>Fm h I (fg (slotAt t.place i)) i S es.size ep/\h.get? S=some o) h' s.drawn (λA' hA=>⟨?_,by simp⟩) (ord1 es (Perm.refl _)).1 (ord1 es (Perm.refl _)).2 ⟨hi,k _ _ ho⟩ k (by rw[eI];exact jd _) λb hb=>?_
   .rw[hll];refine Vt hA hSI _ hll (slotAt t.place) hd hf λA'' i s' Q' E' hi' hs' q=>Nu bt hs' hd hf hl hpl ?_;rw[BP rr i (by omega)];rcases av i es.size with z|z
    .rw[ae z,ae (show i<t.place.size by omega)];have e1:(es.toList.map (·.2))[i]? =some (es[i]).2:=by simp[z]
     rw[e1]at q
     have e2:slotAt t.place (i+1)=t.place[i]'(by omega)+1:=by simp[slotAt,getD,show i<t.place.size by omega]
     rw[e2]at q
     exact q
    .rw[Array.getElem?_eq_none z];rw[zf (by simpa using z)]at q
     exact q
   .simp only[zc,pf,or_false]at hb;rcases hb with z|z
    .exact .inr (by rw[z,eI];exact jd _)
    .exact .inl z
  .refine Ox (first:=fg 0) (λh' I eh eI hi k=>⟨_,rfl,"set_iterator",_,⟨_,hi,rfl⟩,F.slot_si_next.lookup,?_⟩) ho hd hf;have hSI:S≠I:=by rw[eI];exact Re lS
   have pk:=Et (w.params.setOrder S ep) es;have hll:((ur (w.params.setOrder S ep) es).toList.map (·.2)).length=es.size:=by rw[la,pk.length_eq,mj]
   refine h I [I,S] ((ur (w.params.setOrder S ep) es).toList.map (·.2)) (λi h=>Fm h I (fg ((0:Nat):Int)) i S es.size ep/\h.get? S=some o) h' s.drawn (λA' hA=>⟨?_,by simp⟩) (ord1 _ pk).1 (ord1 _ pk).2 ⟨hi,k _ _ ho⟩ k (by rw[eI];exact jd _) λb hb=>?_
   .rw[hll];refine Vt hA hSI _ hll (λ_=>0) hd hf λA'' i s' Q' E' hi' hs' q=>Mx bt hs' hd hf ?_;have e1:((ur (w.params.setOrder S ep) es).toList.map (·.2))[i]? =((ur (w.params.setOrder S ep) es)[i]?).map (·.2):=by simp
    rw[e1,Option.map_map]at q
    exact q
   .simp only[zc,pf,or_false]at hb;rcases hb with z|z
    .exact .inr (by rw[z,eI];exact jd _)
    .exact .inl z
 .rw[if_pos rfl];refine Da (Yr _ _ _ (by simp) λys d py=>?_);have hyl:ys.length=es.size:=by rw[py.length_eq,lc]
  refine Da (wpAny_newTuple ?_ (by rw[la,hyl];exact au hb));generalize hTd:s.heap.push {cls:=.type "tuple",data:=.seq (ys.map λ(j:Nat)=>fg (j:Int)).toArray}=h1;have hT1:h1.get? s.heap.objs.size=some {cls:=.type "tuple",data:=.seq (ys.map λ(j:Nat)=>fg (j:Int)).toArray}:=by rw[<-hTd];exact yc _ rfl
  have k1:∀ b o,s.heap.get? b=some o->h1.get? b=some o:=λb o e=>by rw[<-hTd];exact ja _ e
  have z1:h1.objs.size=s.heap.objs.size+1:=by rw[<-hTd,sk]
  refine Ox (s:= {s with heap:=h1,drawn:=d}) (first:=.ref s.heap.objs.size) (λh' I eh eI hi k=>⟨_,rfl,"set_iterator",_,⟨_,hi,rfl⟩,F.slot_si_next.lookup,?_⟩) (k1 _ _ ho) hd hf;have eI':I=s.heap.objs.size+1:=eI.trans z1;have hSI:S≠I:=by rw[eI'];exact Re (km lS)
  have hTI:s.heap.objs.size≠I:=by rw[eI'];exact Re (Tk _)
  have hll:(ys.map λj=>(es.getD j (0,.none)).2).length=es.size:=by rw[la,hyl]
  have hyp:(ys.map λj=>(es.getD j (0,.none)).2).Perm (es.toList.map (·.2)):=by
   refine(py.map _).trans (Perm.of_eq ?_);apply yp;intro j;rcases av j es.size with z|z
   .simp[z,getD]
   .rw[zf (by simpa using z),zf (by simpa using z)]
  refine h I [I,S,s.heap.objs.size] (ys.map λj=>(es.getD j (0,.none)).2) (λi h=>Fm h I (.ref s.heap.objs.size) i S es.size ep/\h.get? S=some o/\h.get? s.heap.objs.size=some {cls:=.type "tuple",data:=.seq (ys.map λ(j:Nat)=>fg (j:Int)).toArray}) h' d
   (λA' hA=>⟨?_,by simp⟩) ((hyp.map nv).trans (ord1 es (Perm.refl _)).1) (λv hv=>(ord1 es (Perm.refl _)).2 v (hyp.mem_iff.mp hv)) ⟨hi,k _ _ (k1 _ _ ho),k _ _ hT1⟩ (λb o e=>k _ _ (k1 _ _ e)) (by rw[eI'];exact gp _) λb hb=>?_
  .rw[hll];exact EE hA hSI hTI ys py hd hf
  .simp only[zc,pf,or_false]at hb;rcases hb with z|z|z
   .exact .inr (by rw[z,eI'];exact gp _)
   .exact .inl z
   .exact .inr (by rw[z];exact jd _)
end
open Sem (wp)
section
variable {S:ca}
theorem LL{Q:Bool->Shared->Prop}(hT:s.TypeIs (.ref S) "set")(h:Q false s):wa (pb prog w) A (nr (.ref S)) Q E s:=by
 unfold nr;refine Da (rq hT PySem.F.slot_set_len.lookup ?_);generalize hid:("set.__len__":String)=id0
 wp_delta
 rw[show splitId id0=some ("set","__len__") from by subst hid;decide +kernel];subst hid;refine Da (wpAny_isInstance (T:="set") (b:=true) hT (by rw[yk];kernel_rfl) (ci (λz=>absurd z (by decide)) λ_=>?_));refine ci (λ_=>Da (rm hT (ia h))) λz=>absurd (by decide +kernel) z
theorem VD{Q:List Fa->Shared->Prop}(hh:A.handled=none)(hS:SI prog w s.heap S σ)(hz:σ.length<=sizeLine)(h:∀ vs h' d tk,(vs.map nv).Perm σ->(∀ v∈vs,∃ n u,v=Value.int n u)->(∀ b o,s.heap.get? b=some o->h'.get? b=some o)->s.heap.objs.size<h'.objs.size->Q vs {s with heap:=h',drawn:=d,toks:=tk}):
  wa (pb prog w) A (collect (.ref S)) Q E s:=by
 have hT:s.TypeIs (.ref S) "set":=let ⟨o,_,_,_,ho,hex,_⟩:=hS;⟨o,ho,hex.1⟩
 have lS:S<s.heap.objs.size:=let ⟨_,_,_,_,ho,_⟩:=hS;qd ho
 generalize hg:s.heap.push {cls:=.type "list",data:=.seq ([]:List Fa).toArray}=h1;have k1:∀ b o,s.heap.get? b=some o->h1.get? b=some o:=λb o e=>by rw[<-hg];exact ja _ e
 have n1:h1.get? s.heap.objs.size=some {cls:=.type "list",data:=.seq ([]:List Fa).toArray}:=by rw[<-hg];exact yc _ rfl
 have z1:h1.objs.size=s.heap.objs.size+1:=by rw[<-hg,sk]
 unfold collect;refine Da (wpAny_runValue (dj PySem.F.entry_proto_collect ?_));rw[qh PySem.F.plain_proto_collect _];show wa _ A.in1 (newList [] >>= λl=>again (.builtin "list.__iadd__" ⟨[l,.ref S],[]⟩)) _ _ s;refine Da (tf (ia ⟨bn cv _,dj PySem.F.entry_list_iadd ?_⟩));rw[qh cv _,hg];show wa _ A.in1 (qr (.ref s.heap.objs.size) (.ref S) (.ref s.heap.objs.size)) _ _ {s with heap:=h1};unfold qr;have hT1:Shared.TypeIs {s with heap:=h1} (.ref S) "set":=let ⟨o,ho,c⟩:=hT;⟨o,k1 _ _ ho,c⟩
 refine Da (rm hT1 ?_);have e1:qu (.ref s.heap.objs.size) (.ref S)=false:=by simp[qu];exact xm lS
 rw[if_neg (by rw[e1];decide)];refine Da (AW (hS.at' λo e=>k1 _ _ e) λI fp ord St h2 d sw po nums st k2 hI hfp=>?_);have hT2:Shared.TypeIs {s with heap:=h2,drawn:=d} (.ref S) "set":=let ⟨o,ho,c⟩:=hT1;⟨o,k2 _ _ ho,c⟩
 refine Da (ng (LL hT2 ?_));have hI':s.heap.objs.size+1<=I:=by rw[<-z1];exact hI
 have hnf:s.heap.objs.size∉fp:=λz=>by
  rcases hfp _ z with q|q
  .rw[q]at lS;exact oh _ lS
  .have q':s.heap.objs.size+1<=s.heap.objs.size:=by rw[<-z1];exact q
   exact oh _ q'
 show wa _ A.in1 (rule "list.extend.makes-room" >>= λ_=>Builtin.List.listTouch (.ref s.heap.objs.size) >>= λ_=>again (.builtin "list.extend.loop" ⟨[.ref s.heap.objs.size,.ref I,.ref s.heap.objs.size],[]⟩)) _ _ _;refine Da (dq (Da ?_));have n2:=k2 _ _ n1;show wa _ A.in1 (updateSeq s.heap.objs.size (·.push .none) >>= λ_=>updateSeq s.heap.objs.size (·.pop)) _ _ _;refine Da (mw n2 rfl ?_);have n3:=uj (xn (·.push Value.none)) n2 rfl;refine mw (s:= {s with heap:=h2.update s.heap.objs.size (xn (·.push Value.none)),drawn:=d}) n3 rfl ?_;have n4:=uj (xn (·.pop)) n3 rfl
 have oth:∀ b o,b≠s.heap.objs.size->h2.get? b=some o->((h2.update s.heap.objs.size (xn (·.push Value.none))).update s.heap.objs.size (xn (·.pop))).get? b=some o:=λb o hb e=>
  (il _ _ (qk hb)).trans ((il _ _ (qk hb)).trans e)
 have W:=(sw A.in1 (by simpa using hh)).W;have ho:ord.length<=sizeLine:=by rw[<-la (f:=nv),po.length_eq];exact hz
 refine ia ⟨bn PySem.F.plain_extend_loop _,codeAny_extend_loopS W.toS ho _ hnf _ ord.length 0 _ _ _ rfl (vh _) (W.frame 0 h2 _ st λb hb o e=>oth b o (λq=>hnf (q▸hb)) e) n4 (ItemsOf.nil _) λs' acc c mv n5 its=>?_⟩;show wa _ A (load s.heap.objs.size >>= _) _ _ s';refine Da (wpAny_load n5 (ia ?_));obtain⟨hp',g',d',tk',os'⟩:=s';have e1:g'=s.gens:=mv.gens;have e2:d'=d:=mv.drawn;have e3:os'=s.os:=mv.os;subst e1 e2 e3
 have ea:acc.toList=ord:=by
  apply yp;intro j;rw[ul];cases hj:acc[j]? with
  |some v=>exact(its.2 j v hj).symm
  |none=>
   have:acc.size<=j:=by
    rcases av j acc.size with q|q
    .rw[ae q]at hj;cases hj
    .exact q
   rw[its.1]at this
   exact(zf this).symm
 rw[ea];refine h ord hp' _ tk' po nums (λb o e=>?_) (qd n5);have lb:b<s.heap.objs.size:=qd e;refine mv.heap b o (λz=>?_) (oth b o (Re lb) (k2 _ _ (k1 _ _ e)));simp only[zc,pf,or_false]at z;rcases z with z|z
 .rw[z]at lb;exact oh _ lb
 .rw[z]at lb;exact absurd (yd lb (uf (gp _) hI')) (oh _)
end
def met(ns:List Int):List Int:=ns.foldl Xx []
theorem BR(σ:List Int)(k:Int):(Xx σ k).length<=σ.length+1:=by unfold Xx;split<;>simp
theorem Zy:∀ (ns σ:List Int),(ns.foldl Xx σ).length<=σ.length+ns.length
 | [],σ=>by simp
 |n::ns,σ=>by have:=Zy ns (Xx σ n);have:=BR σ n;rw[cj,ba];omega
theorem GF(ns:List Int):(met ns).length<=ns.length:=by have:=Zy ns [];simpa [met] using this
variable{ns:List Int}
theorem AN(h:i<ns.length):met (ns.take (i+1))=Xx (met (ns.take i)) (ns.getD i 0):=by
 unfold met;rw[List.take_add_one,List.foldl_append,oa h];simp[List.getD,oa h]
variable{l:ca}{ol:ki}{items:Array Fa}{nl:Nat}
section
variable {R:uv->Shared->Prop}{fp wr:List ca}{G:Array ql->Array ql->Prop}{P:Nat->Fa->Prop}{St:Nat->Shared->Prop}
theorem BW(W:WalksS prog w A.in1 I fp wr G n P St)(S:ca)(hSf:S∉fp)(ns:List Int)(hn:ns.length=n)(hv:∀ i v,P i v->∃ u,v=Value.int (ns.getD i 0) u)(hb:n+1<xl):
  ∀ (k i:Nat) (s:Shared),n-i=k->i<=n->St i s->SI prog w s.heap S (met (ns.take i))->(∀ s',Moved (S::wr) G s s'->SI prog w s'.heap S (met ns)->R (.ok (.ret .none)) s')->
   im (pb prog w) A (.builtin "set.update.loop" ⟨[.ref S,.ref I],[]⟩) R s:=by
 have hSw:S∉wr:=λh=>hSf (W.sub _ h);have up:∀ b∈wr,b∈S::wr:=λb hb=>ua _ hb;intro k
 induction k with
 |zero=>
  intro i s hk hi st hS hR;have:i=n:=by omega
  subst this;refine dj wm ?_;rw[qh fj _];show wa _ A.in1 (pyNext (.ref I) >>= _) _ _ s;refine Da (W.done s _ _ st λs' mv=>ia (hR s' (mv.mono up) ?_));rw[lj (vv hn)]at hS
  exact hS.at' λo e=>mv.heap S o hSw e
 |succ k ih=>
  intro i s hk hi st hS hR;have lt:i<n:=by omega
  refine dj wm ?_;rw[qh fj _];show wa _ A.in1 (pyNext (.ref I) >>= _) _ _ s;refine Da (W.item i s _ _ lt st λv s' pv st' mv=>?_);obtain⟨u,rfl⟩:=hv i v pv;have hS':SI prog w s'.heap S (met (ns.take i)):=hS.at' λo e=>mv.heap S o hSw e;have room:(met (ns.take i)).length+1<xl:=by have:=GF (ns.take i);rw[ao]at this;omega
  show wa _ A.in1 (yo [Value.int (ns.getD i 0) u] (setAdd S (.int (ns.getD i 0) u)) >>= _) _ _ s';refine Da (ng ?_);unfold setAdd;refine ng (Da ((xo prog w).pyHash (k:=ns.getD i 0) (YL _ _) ?_));refine Q3 (s:= {s' with toks:=s'.toks+1}) hS' room λh' b sb hS2=>ia ⟨bn fj _,?_⟩;refine ih (i+1) _ (by omega) lt (W.frame _ s' _ _ st' (gp _) λb hb o e=>sb.extBut _ _ (λq=>hSf (q▸hb)) e) (by rw[AN (by omega)];exact hS2) λs'' mv2 hS3=>hR s'' ?_ hS3;exact Moved.trans W.gtrans ((mv.mono up).then_heap (gp _) λb o hb e=>sb.extBut _ _ (λq=>hb (by rw[q];exact ib)) e) mv2
def Itr(prog:ic)(w:vd)(l:ca)(ol:ki)(items:Array Fa):Prop:=∀ (A:je) (s':Shared) (Q:Fa->Shared->Prop) (E:Fa->Shared->Prop),s'.heap.get? l=some ol->
 (∀ I St h',(∀ A':je,A'.handled=none->Walks prog w A' I [I,l] [I] items.size (λi v=>items[i]? =some v) St)->St 0 h'->I=s'.heap.objs.size->(∀ b o,s'.heap.get? b=some o->h'.get? b=some o)->Q (.ref I) {s' with heap:=h'})->
 wa (pb prog w) A (pyIter (.ref l)) Q E s'
theorem DM(hc:ol.cls=.type "list")(hd:ol.data=.seq items nl):Itr prog w l ol items:=λA s' Q E hl h=>by
 have hL:s'.heap.IsList l items:=⟨ol,hl,hc,nl,hd⟩
 have hne:l≠s'.heap.objs.size:=Re (qd hl);exact xp hL (h _ (λi h=>h.IsListIter s'.heap.objs.size l i/\h.IsList l items) _ (λA' hA=>Walks.list hA _ l hne items) ⟨⟨_,yc _ rfl,rfl,rfl⟩,hL.push _⟩ rfl λb o e=>ja _ e)
theorem UH(hc:ol.cls=.type "tuple")(hd:ol.data=.seq items nl):Itr prog w l ol items:=λA s' Q E hl h=>by
 have hL:s'.heap.IsTuple l items:=⟨ol,hl,hc,nl,hd⟩
 have hne:l≠s'.heap.objs.size:=Re (qd hl);exact rs hL (h _ (λi h=>h.IsTupleIter s'.heap.objs.size l i/\h.IsTuple l items) _ (λA' hA=>Walks.tuple hA _ l hne items) ⟨⟨_,yc _ rfl,rfl,rfl⟩,hL.push _⟩ rfl λb o e=>ja _ e)
theorem UO(a:Fa){Q₁:Fa->Shared->Prop}(h:∀ led:Bool,led=(!w.params.followText "set-order")->Q₁ (.ref s.heap.objs.size) {s with heap:=s.heap.push {cls:=.type "set",dict:=none,data:=.set #[] 0 (.fresh 0 0 led)}}):
  im (pb prog w) A (.call (.builtin "set.__new__") ⟨[.type "set",a],[]⟩) (wants Q₁ E) s:=by
 refine codeAny_of_tree ?_;show wa _ A.in1 (checkBuiltinCall "set.__new__" ⟨[.type "set",a],[]⟩ >>= λ_=>again (.builtin "set.__new__" ⟨[.type "set",a],[]⟩)) _ _ s;refine Da (wpAny_of_eq (PySem.F.newCall_set_1 a) (ia ⟨bn PySem.F.plain_set_new _,dj PySem.F.entry_set_new ?_⟩));rw[qh PySem.F.plain_set_new _];unfold kj.«set.__new__» Builtin.Frozenset.newClass;have hsub:=sub_set_self;obtain⟨hp,g,d,tk,os⟩:=s;dsimp only;wp_walk;refine bv (ia ?_);dsimp only;simp only[newObj];exact Da (wpAny_alloc (ia (ia (h _ rfl))))
end
theorem VO{led:Bool}(e:led=(!w.params.followText "set-order"))(hg:h.get? a=some {cls:=.type "set",dict:=none,data:=.set #[] 0 (.fresh 0 0 led)}):SI prog w h a []:=
 ⟨_,#[],0,_,hg,⟨rfl,rfl,rfl⟩,rfl,λe he=>by simp at he,by simp,by decide,by rfl,⟨e,λ_=>⟨vk.nil,rfl⟩⟩⟩
theorem Sn{T:String}(hh:A.handled=none)(hol:s.heap.get? l=some ol)(hcl:ol.cls=.type T)(hs1:isSubtype (.type T) (.type "set")=pure false)(hs2:isSubtype (.type T) (.type "frozenset")=pure false)(hnd:(Value.type T==Value.type "dict")=false)(hit:Itr prog w l ol items)(hn:ns.length=items.size)(hv:∀ i v,items[i]? =some v->∃ u,v=Value.int (ns.getD i 0) u)(hb:items.size+1<xl)(h:∀ h' tk,SI prog w h' s.heap.objs.size (met ns)->(∀ b o,s.heap.get? b=some o->h'.get? b=some o)->Q (.ref s.heap.objs.size) {s with heap:=h',toks:=tk}):wa (pb prog w) A (call (.type "set") [.ref l]) Q E s:=by
 obtain⟨c,tl,hmro⟩:=mh.mro;have hmade:=mh.made;have hsub:=mh.sub;refine wpAny_call (codeAny_of_tree ?_);show wa _ _ (callAny (.type "set") _) _ _ _;refine ia ⟨Code.quiet_builtin _ (by decide +kernel),dj PySem.F.entry_type_call ?_⟩;rw[Around.under_plain (weight_type_call_type "set" [.ref l] []) rfl];have q1:=mh.notType;have q2:=mh.canCreate;have q3:=PySem.F.typeCall_set_1 (.ref l)
 repeat (any_goals (first|assumption|wp_step))
 refine gl (UO (.ref l) (E:=E) (Q₁:=λobj s₁=>∃ led:Bool,led=(!w.params.followText "set-order")/\obj=.ref s.heap.objs.size/\s₁= {s with heap:=s.heap.push {cls:=.type "set",dict:=none,data:=.set #[] 0 (.fresh 0 0 led)}}) λled e=>⟨led,e,rfl,rfl⟩) λr s₁ hr=>?_;cases r with
 |error e=>exact hr
 |ok fl=>
  cases fl with
  |ret obj=>
   obtain⟨led,hled,rfl,rfl⟩:=hr;generalize hg:s.heap.push {cls:=.type "set",dict:=none,data:=.set #[] 0 (.fresh 0 0 led)}=h1;have k1:∀ b o,s.heap.get? b=some o->h1.get? b=some o:=λb o e=>by rw[<-hg];exact ja _ e
   have n1:h1.get? s.heap.objs.size=some {cls:=.type "set",dict:=none,data:=.set #[] 0 (.fresh 0 0 led)}:=by rw[<-hg];exact yc _ rfl
   have z1:h1.objs.size=s.heap.objs.size+1:=by rw[<-hg,sk]
   clear hg;have hT:Shared.TypeIs {s with heap:=h1} (.ref s.heap.objs.size) "set":=⟨_,n1,rfl⟩
   have q4:=mh.init.lookup;have q5:=mh.init.bind (.ref s.heap.objs.size)
   repeat (any_goals (first|assumption|wp_step))
   refine gl (codeAny_call_builtin (R:=wants (λr s₂=>r=.none/\∃ h' tk,s₂= {s with heap:=h',toks:=tk}/\SI prog w h' s.heap.objs.size (met ns)/\∀ b o,s.heap.get? b=some o->h'.get? b=some o) E)
    mh.init.plain PySem.F.entry_set_init (check_set_init_1 hT ?_)) λr₂ s₂ hr₂=>?_
   .have hol':=k1 _ _ hol;have hTl:Shared.TypeIs {s with heap:=h1} (.ref l) T:=⟨_,hol',hcl⟩
    unfold kj.«set.__init__» noKeywords Builtin.Frozenset.updateFrom;generalize hPI:pyIter=PI;wp_walk;subst hPI;refine hit _ _ _ _ hol' λI St h2 W st eI k2=>?_;refine Da (wpAny_runValue ?_);have lS:s.heap.objs.size<I:=by rw[eI];show _<h1.objs.size;rw[z1];exact Tk _
    have ll:l<s.heap.objs.size:=qd hol
    have hSf:s.heap.objs.size∉ [I,l]:=by
     simp only[zc,pf,or_false,not_or];exact⟨Re lS,xm ll⟩
    refine BW ((W _ (by simp[hh])).toS) s.heap.objs.size hSf ns hn hv hb items.size 0 _ (by omega) (vh _) st (VO hled (k2 _ _ n1)) λs' mv hS=>?_;obtain⟨h',g',d',tk',os'⟩:=s';have eg:g'=s.gens:=mv.gens;have ed:d'=s.drawn:=mv.drawn;have eo:os'=s.os:=mv.os;subst eg ed eo;refine ia (ia ⟨rfl,h',tk',rfl,hS,λb o e=>?_⟩);have lb:b<s.heap.objs.size:=qd e;refine mv.heap b o (λz=>?_) (k2 _ _ (k1 _ _ e));simp only[zc,pf,or_false]at z;rcases z with z|z
    .rw[z]at lb;exact oh _ lb
    .rw[z]at lb;exact oh _ (On lb lS)
   .cases r₂ with
    |error e=>exact hr₂
    |ok fl₂=>
     cases fl₂ with
     |ret r=>
      obtain⟨rfl,h',tk,rfl,hS',hk'⟩:=hr₂
      repeat (any_goals (first|assumption|wp_step))
      exact h _ _ hS' hk'
     |_=>exact hr₂.elim
  |_=>exact hr.elim
open PyProof.Rows
theorem D1(h:∃ n u,v=Value.int n u):numOf v=nv v:=by obtain⟨n,u,rfl⟩:=h;rfl
theorem XD{S:ca}(hh:A.handled=none)(hS:SI prog w s.heap S σ)(h64:σ.length<64)(h:∀ h' d tk p (out:List Fa) (ns:List Int) (e:Nat),mr out ns->ns.Perm σ->ns.Pairwise (· <= ·)->h'.get? p=some (seqObj "list" out.toArray e)->s.heap.objs.size<=p->(∀ b o,s.heap.get? b=some o->h'.get? b=some o)->
   Q (.ref p) {s with heap:=h',drawn:=d,toks:=tk}):wa (pb prog w) A (call (.builtin "sorted") [.ref S]) Q E s:=by
 refine Calls.call_function_entry kind_sorted plain_sorted entry_sorted (args_sorted1 _) ?_;unfold kj.«sorted»;refine Da (m:=checkCount "sorted" 1 1 _) (ia ?_);refine Da (VD (by simpa using hh) hS (by rw[se];omega) λvs h1 d tk po nums k1 z1=>?_);have hm:vs.map numOf=vs.map nv:=qi λv hv=>D1 (nums v hv);have hI:mr vs (vs.map nv):=by rw[<-hm];exact intsAre_map vs nums
 have hl:vs.length<64:=by rw[<-la (f:=nv),po.length_eq];exact h64
 refine Da (wpAny_newList ?_ (by rw[se];omega));have n1:(h1.push {cls:=.type "list",data:=.seq vs.toArray}).get? h1.objs.size=some (seqObj "list" vs.toArray 0):=yc _ rfl;refine Da (ng (og slot_list_sort ⟨_,n1,rfl⟩ entry_list_sort (list_sort_tree n1 hI hl λout ns' a1 a2 a3=>⟨_,rfl,ia ⟨_,rfl,?_⟩⟩) (args_list_sort _)));obtain⟨e,he⟩:=sortedHeap_at (out:=out) n1;have old:∀ b o,s.heap.get? b=some o->b<h1.objs.size/\b≠h1.objs.size:=λb o q=>⟨qd (k1 _ _ q),Re (qd (k1 _ _ q))⟩;have hz:s.heap.objs.size<=h1.objs.size:=rl z1;refine h _ d tk h1.objs.size out.toList ns' e a1 (a2.trans po) a3 (by simpa using he) hz λb o q=>?_;rw[sortedHeap_old (old b o q).2 (by rw[size_push'];exact km (old b o q).1)];exact ja _ (k1 _ _ q)
end L3
namespace L3
def insI(k:Int):List Int->List Int
 | []=> [k]
 |x::xs=>if k<x then k::x::xs else if k=x then x::xs else x::insI k xs
def sortI:List Int->List Int
 | []=> []
 |n::ns=>insI n (sortI ns)
abbrev Up(l:List Int):Prop:=l.Pairwise (λa b=>a<b)
theorem Ts{k a:Int}:∀ {l:List Int},a∈insI k l↔a=k\/a∈l
 | []=>by simp[insI]
 |x::xs=>by
  unfold insI;split
  .simp
  .split
   .rename_i h;subst h;simp
   .rw[zc,Ts (l:=xs),zc];constructor
    .rintro(h|h|h)<;>simp[h]
    .rintro(h|h|h)<;>simp[h]
theorem FG{k:Int}:∀ {l:List Int},Up l->Up (insI k l)
 | [],_=>by simp[insI]
 |x::xs,h=>by
  obtain⟨h1,h2⟩:=ji.mp h;unfold insI;split
  .rename_i hk;refine ji.mpr ⟨λb hb=>?_,h⟩;rcases zc.mp hb with rfl|hb
   .exact hk
   .have:=h1 b hb;omega
  .split
   .exact h
   .refine ji.mpr ⟨λb hb=>?_,FG h2⟩;rcases Ts.mp hb with rfl|hb
    .omega
    .exact h1 b hb
theorem Zl{a:Int}:∀ {l:List Int},a∈sortI l↔a∈l
 | []=>Iff.rfl
 |x::xs=>by rw[sortI,Ts,Zl,zc]
theorem Ut:∀ (l:List Int),Up (sortI l)
 | []=>vk.nil
 |x::xs=>FG (Ut xs)
theorem Tv:∀ {a b:List Int},Up a->Up b->(∀ x,x∈a↔x∈b)->a=b
 | [],[],_,_,_=>rfl
 | [],y::ys,_,_,h=>absurd ((h y).mpr ib) (by simp)
 |x::xs,[],_,_,h=>absurd ((h x).mp ib) (by simp)
 |x::xs,y::ys,ha,hb,h=>by
  obtain⟨a1,a2⟩:=ji.mp ha;obtain⟨b1,b2⟩:=ji.mp hb
  have e:x=y:=by
   rcases zc.mp ((h x).mp ib) with p|p
   .exact p
   .rcases zc.mp ((h y).mpr ib) with q|q
    .exact q.symm
    .have:=b1 x p;have:=a1 y q;omega
  subst e;refine congrArg _ (Tv a2 b2 λz=>?_);constructor
  .intro hz;rcases zc.mp ((h z).mp (ua _ hz)) with p|p
   .have:=a1 z hz;omega
   .exact p
  .intro hz;rcases zc.mp ((h z).mpr (ua _ hz)) with p|p
   .have:=b1 z hz;omega
   .exact p
theorem Y7{l:List Int}(h:l.Pairwise (λa b=>a<=b))(n:l.Nodup):Up l:=by
 induction l with
 |nil=>exact vk.nil
 |cons x xs ih=>
  obtain⟨h1,h2⟩:=ji.mp h;obtain⟨n1,n2⟩:=mm.mp n;refine ji.mpr ⟨λb hb=>?_,ih h2 n2⟩;have:=h1 b hb;rcases Int.lt_or_eq_of_le this with q|q
  .exact q
  .subst q;exact absurd hb n1
open PySem PySem.Spec PyProof.Rows L2
abbrev N8(t:Bool)(h:ke)(l:ca):ke:=h.push (P8 t l)
abbrev P9(t:Bool)(h:ke)(l:ca):ke:=(N8 t h l).push {cls:=.type "enumerate",data:=.fields #[.none,.bool false,.ref h.objs.size,fg 0,.none,.none]}
theorem IH(t:Bool)(l:ca)(xs:Array Fa):Meets (kj.«enumerate.__new__» ⟨[.type "enumerate",.ref l],[]⟩) (λ_ R s=>IsSq t s.heap l xs/\
   R (.ok (.ret (.ref (N8 t s.heap l).objs.size))) {s with heap:=P9 t s.heap l}):=
 .of_wp λprog w A R s h=>by
  obtain⟨hp,g,d,tk,os⟩:=s;obtain⟨q,h⟩:=h;have hsub:=sub_enumerate;have e1:IsSq t (Shared.heap ⟨hp,g,d,tk,os⟩) l xs:=q;wp_walk;refine wpAny_stack_any λst=>ia ?_;split
  .rename_i c _ _ _ _ _;cases (c==Value.type "enumerate")
   .wp_walk using Rx e1;exact⟨_,rfl,h⟩
   .wp_walk using Rx e1;exact⟨_,rfl,h⟩
  .wp_walk using Rx e1;exact⟨_,rfl,h⟩
variable{l:ca}{w:vd}{s:Shared}
theorem UB{prog:ic}{A:je}{E:Fa->Shared->Prop}{t:Bool}{xs:Array Fa}{Q:Fa->Shared->Prop}(q:IsSq t s.heap l xs)(h:∀ n h',n=s.heap.objs.size->IsEnum h' (n+1) n ((0:Nat):Int) .none->SqI t h' n l 0->(∀ c o,s.heap.get? c=some o->h'.get? c=some o)->Q (.ref (n+1)) {s with heap:=h'}):
  wa (pb prog w) A (call (.type "enumerate") [.ref l]) Q E s:=by
 refine callType_new F.called_enumerate (by decide) (F.typeCall_enumerate_1 _) (F.newCall_enumerate_1 _) (λobj=>F.args_object_init_2 obj _) F.entry_enumerate_new (IH t l xs) ⟨q,?_⟩;have z1:(N8 t s.heap l).objs.size=s.heap.objs.size+1:=sk ..;have g2:(P9 t s.heap l).get? (N8 t s.heap l).objs.size=some _:=yc _ rfl;have f1:(P8 t l).isFreed=false:=by cases t<;>rfl
 have g1:(P9 t s.heap l).get? s.heap.objs.size=some (P8 t l):=ja _ (yc _ f1);show _/\_;rw[z1]at g2 ⊢
 refine⟨⟨_,g2,rfl⟩,h _ _ rfl g2 ?_ λc o e=>ja _ (ja _ e)⟩;cases t with
 |true=>exact⟨_,g1,rfl,rfl⟩
 |false=>exact⟨_,g1,rfl,rfl⟩
def Ite(K : td)(t : Bool)(l : ca) : It :=
  ⟨λi H => ∃ xs x, IQ t K H l xs /\ xs[i]? = some x,
   λi H v H' => ∃ p x, v = .ref p /\ H p = none /\ H' = Pb H p (.tup [.int i, x]) /\ ∀ xs, IQ t K H l xs -> xs[i]? = some x,
   λi H => ∃ xs, IQ t K H l xs /\ i = xs.length⟩
variable{elts:List qc}{kt:Nat}
theorem HJ{P:ic}{K:td}{pt:vg}{t:Bool}{e it:ca}(n1:l≠it)(n2:e≠it)(n3:e≠l):
  Turn P w K (.Tuple elts kt pt) (Ite K t l) [e,it] e (λi h=>(∃ old,IsEnum h e it i old)/\SqI t h it l i) where
 mem:=by simp
 obj:=λi h st b hb=>by
  obtain⟨⟨old,he⟩,s1⟩:=st;simp only[zc,pf,or_false]at hb;rcases hb with rfl|rfl
  .exact⟨_,he,λv q=>nomatch q⟩
  .obtain⟨o,vs,e,d⟩:=s1.rec;exact⟨o,e,λv q=>by rw[d]at q;cases q⟩
 keep:=λi h h' st k=>by
  obtain⟨⟨old,he⟩,s1⟩:=st;exact⟨⟨old,k e (by simp) _ he⟩,s1.at' λo q=>k it (by simp) o q⟩
 item:=by
  intro X hP hw hK hc i pins s σ H E I hf st hg;subst hP hw hK;obtain⟨⟨old,he⟩,s1⟩:=st;obtain⟨xs,x,q1,e1⟩:=hg;obtain⟨it1,r1,p1,_⟩:=Nw I q1;obtain⟨u1,hu1,ru1⟩:=r1.get e1;have hef:e∉ [it,l]:=by simp only[zc,pf,or_false,not_or];exact⟨n2,n3⟩
  have hlt:i<it1.toArray.size:=by
   rcases av i it1.length with z|z
   .simpa using z
   .rw[zf z]at hu1;cases hu1
  refine wpAny_pyNext_enum_itemD (RK (show X.A.in1.handled=none from I.ok.hd hc) t it l n1 it1.toArray) he ⟨s1,p1⟩ hlt n2 hef λx' h1 tk px eo st1 nw sz kk=>⟨_,rfl,?_⟩;have px':it1[i]? =some x':=by simpa using px
  rw[hu1]at px';cases px'
  refine wpAny_letOwnedTupleGo_enum (s:= {s with heap:=h1,toks:=tk+1}) eo λh2 e2 c2=>?_;have le:e<s.heap.objs.size:=qd he;have lit:it<s.heap.objs.size:=by obtain⟨o,_,q,_⟩:=s1.rec;exact qd q
  have up:∀ b o,b≠e->h1.get? b=some o->h2.get? b=some o:=λb o ne q=>c2.extBut _ _ ne q;refine⟨.ref s.heap.objs.size,Pb H s.heap.objs.size (.tup [.int i,x]),?_,rfl,⟨_,x,rfl,I.hok.fresh (jd _),rfl,λzs hs=>by rw[KC I hs q1];exact e1⟩,⟨⟨_,e2⟩,st1.1.at' λo q=>up _ _ (qk n2) q⟩,λb hb=>?_⟩
  .show Inv X pins σ (Pb H s.heap.objs.size (.tup [.int i,x])) {s with heap:=h2,toks:=tk+1};refine Cv (ch:= [e,it]) (t':=tk+1) I hf (λb o hb q=>?_) (jd _) (.cons (by exact⟨tk,rfl⟩) (.cons ru1 .nil)) (show(2:Nat)<=sizeLine by rw[se];decide) ⟨_,up _ _ (xm le) nw,rfl,_,rfl⟩;simp only[zc,pf,or_false,not_or]at hb;exact up _ _ hb.1 (kk b o hb.1 hb.2 q)
  .have hb1:=(hf b hb).1
   have:b<s.heap.objs.size:=by
    simp only[zc,pf,or_false]at hb;rcases hb with rfl|rfl
    .exact le
    .exact lit
   rw[Ha (Re this)];exact hb1
 done:=by
  intro X hP hw hK hc i pins s σ H E I hf st hg;subst hP hw hK;obtain⟨⟨old,he⟩,s1⟩:=st;obtain⟨xs,q1,rfl⟩:=hg;obtain⟨it1,r1,p1,_⟩:=Nw I q1;have hsz:xs.length=it1.toArray.size:=by simp[r1.length]
  rw[hsz]at s1 he
  refine wpAny_pyNext_enum_endD (RK (show X.A.in1.handled=none from I.ok.hd hc) t it l n1 it1.toArray) he ⟨s1,p1⟩ λh1 k=>⟨rfl,?_⟩;refine Dv (ch:= [e,it]) (t':=s.toks) I hf λb o hb q=>?_;simp only[zc,pf,or_false,not_or]at hb;exact k b o hb.2 q
 self:=λ_ _ _ _ _ st h=>let ⟨⟨_,he⟩,_⟩:=st;wpAny_pyIter_enum he h
variable{X:Cx}{xw:XW}{pos:vg}{a:qc}
section
variable {pt p:vg}{b:qc}{fs:Ca->Res (List D)}
def C6(K:td)(ta:TA):TI:=λσ H R=>ta σ H λvs H1=>∃ t l xs,vs= [.ref l]/\IQ t K H1 l xs/\R (Ite K t l) H1
theorem EV{ta:TA}(hg:Gl X "enumerate")(hm:X.mg "enumerate"=none)(ha:PA X [a] ta)(hs:aa [a] X.env= [(false,eval a X.env)]):
  PI X (.Tuple elts kt pt) (.Call (.Name "enumerate" p) [a] [] pos) (C6 X.K ta):=by
 intro pins s σ H R I h;refine Call_ (Dk I hg hm (show vf "enumerate"=some (.type "enumerate") by decide +kernel) (cg (thn (ha pos pins s σ H _ I h) λus s1 ⟨vs,H1,I1,r1,q1⟩=>?_) (by rw[hs];rfl) (by rfl)));obtain⟨t,l,xs,e,q1,q⟩:=q1;subst e;obtain⟨u1,rfl,ru1⟩:=r1.one;cases (show u1=Value.ref l from ru1);obtain⟨it1,v1,p1,_⟩:=Nw I1 q1;have a1:=p1.lt;refine UB p1 λn h' hn he s1' kk=>wpAny_pyIter_enum he ?_;subst hn;have J:Inv X pins σ H1 {s1 with heap:=h'}:=I1.kept (t':=s1.toks) λc o e=>kk c o e;refine⟨s1.heap.objs.size+1,[s1.heap.objs.size+1,s1.heap.objs.size],_,_,H1,rfl,J,HJ (t:=t) (Re a1) (xm (Tk _)) (xm (km a1)),⟨⟨_,he⟩,s1'⟩,λc hc=>?_,q⟩
 have hcs:s1.heap.objs.size<=c:=by
  simp only[zc,pf,or_false]at hc;rcases hc with rfl|rfl
  .exact gp _
  .exact jd _
 exact I1.fpOk hcs (I1.hok.fresh hcs)
def Od:Nat->List D->List D
 |_,[]=> []
 |k,x::xs=>.tup [.int k,x]::Od (k+1) xs
theorem Yf:∀ {xs:List D} {k i:Nat} {d:D},(Od k xs)[i]? =some d->∃ x,xs[i]? =some x/\d=.tup [.int ((k+i:Nat):Int),x]
 | [],_,_,_,e=>by simp[Od]at e
 |x::xs,k,0,d,e=>by
  rw[Od]at e
  simp at e;exact⟨x,rfl,by simp[<-e]⟩
 |x::xs,k,i+1,d,e=>by
  rw[Od]at e
  obtain⟨u,h1,h2⟩:=Yf (xs:=xs) (k:=k+1) (i:=i) (by simpa using e);exact⟨u,by simpa using h1,by rw[h2,show k+1+i=k+(i+1) by omega]⟩
theorem Ge:∀ (k:Nat) (xs:List D),(Od k xs).length=xs.length
 |_,[]=>rfl
 |k,x::xs=>by rw[Od,ba,Ge,ba]
def Xd(ds:List D):Res (List D):=match ds with
 | [x]=>match BM x with
  |some xs=>.ok (Od 0 xs)
  |_=>.stuck
 |_=>.stuck
theorem OR(hm:X.mg "enumerate"=none)(ha:DA X xw [a] fs)(hg:Gl X "enumerate":=by rfl)(hs:aa [a] X.env= [(false,eval a X.env)]:=by rfl):
  DI X xw (.Tuple elts kt pt) (.Call (.Name "enumerate" p) [a] [] pos) (b1 Xd fs):=
 PI.weak (EV hg hm ha hs) λσ H R ⟨W₀,H₀,W,δ,st,q⟩=>by
  refine⟨W₀,H₀,W,δ,st,?_⟩;simp only[b1]at q;cases h1:fs δ with
  |stuck=>rw[h1]at q;exact q
  |ex c gs=>rw[h1]at q;exact q
  |ok ds=>
   rw[h1]at q
   intro vs H1 k1 hv;dsimp only[Res.bind]at q;unfold Xd at q;split at q
   .rename_i ds' hq;split at hq
    .rename_i x;split at hq
     .rename_i xs ex;have e':Od 0 xs=ds':=by cases hq;rfl
      subst e';rw[HasL]at hv
      obtain⟨v1,r1,rfl,g1,hv⟩:=hv;rw[HasL]at hv
      subst hv;have w1:=st.fr.wl.same k1;obtain⟨t1,l1,xs1,rfl,r1,f1⟩:=V3 w1 g1 ex;refine⟨t1,l1,xs1,rfl,f1 W H1 Step.refl,q _ H1 k1 ?_⟩;intro W' H2 k2 w2;have c1:=f1 W' H2 k2;refine⟨λi d e=>?_,xs1,c1,?_⟩
      .obtain⟨x0,e1,rfl⟩:=Yf e;obtain⟨x1,o1,hx1⟩:=r1.get e1;refine⟨⟨xs1,x1,c1,o1⟩,λu H3 z=>?_⟩;obtain⟨p0,x2,rfl,hp,rfl,z1⟩:=z;have:=z1 xs1 c1;rw[o1]at this;cases this
       refine⟨Ec hp,?_⟩;rw[Has];have hx2:=(Has.keep k2.keep w1 k2.new hx1).same (Ec (o:=.tup [.int i,x1]) hp) w2;refine⟨p0,[.int i,x1],rfl,.of Ta,HasL.cons ?_ (HasL.cons hx2 HasL.nil)⟩;rw[Has,zp]
      .rw[Ge,r1.length]
     .cases hq
    .cases hq
   .rename_i hq;split at hq
    .split at hq<;>cases hq
    .cases hq
   .exact q.elim
end
open SeqAt
variable{σ:List Int}{k:Int}
theorem BU{a:Int}:a∈Xx σ k↔a∈σ\/a=k:=by
 unfold Xx;split
 .rename_i h;exact⟨.inl,λq=>q.elim id λe=>e▸h⟩
 .simp
theorem JI(h:σ.Nodup):(Xx σ k).Nodup:=by
 unfold Xx;split
 .exact h
 .rename_i hk;rw[cu];exact⟨h,by simp,λa ha b hb=>by simp at hb;subst hb;exact λe=>hk (e▸ha)⟩
theorem Yy:∀ (ns σ:List Int),σ.Nodup->(ns.foldl Xx σ).Nodup/\∀ a,a∈ns.foldl Xx σ↔a∈σ\/a∈ns
 | [],σ,h=>⟨h,λa=>by simp⟩
 |n::ns,σ,h=>by
  obtain⟨h1,h2⟩:=Yy ns (Xx σ n) (JI h);refine⟨h1,λa=>?_⟩;rw[cj,h2,BU,zc,or_assoc]
variable{ns:List Int}
theorem WD{out:List Int}(hp:out.Perm (met ns))(hs:out.Pairwise (λa b=>a<=b)):out=sortI ns:=by
 obtain⟨h1,h2⟩:=Yy ns [] List.nodup_nil;refine Tv (Y7 hs (hp.nodup_iff.mpr h1)) (Ut ns) λx=>?_;rw[hp.mem_iff,Zl];exact(h2 x).trans (by simp)
theorem vals_ints:∀ {us:List Fa} {ns:List Int},mr us ns->Vals (ns.map V.int) us
 |_,_,.nil=>.nil
 |_,_,.cons n t r=>.cons ⟨t,rfl⟩ (vals_ints r)
theorem ZS{us:List Fa}(h:mr us ns):ns.length=us.length/\∀ i v,us[i]? =some v->∃ t,v=Value.int (ns.getD i 0) t:=
 ⟨h.length.symm,λi v e=>h.int_at i v e⟩
section
variable {p pos2 p2:vg}{fa:Ca->Res D}{pins:List (ca×ki)}{σ:L2.St}{H:Hp}
theorem Hz{d:Drawn}{t:Nat}(I:Inv X pins σ H s):Inv X pins σ H {s with drawn:=d,toks:=t}:=
 I.step (g':=s.gens) (d':=d) (t':=t) (h':=s.heap) (ch:= []) (λ_ z=>nomatch z) (λ_ _ _ _ _ e _=>e) (λb o _ _ _ e _=>⟨o.slots,e⟩) (λ_ _ _ _ n=>n) (λb o _ e=>⟨o,e⟩) (λ_ _ e=>e) (λ_ _ _ e=>e) (λb ps e=>⟨#[],by rw[e];simp⟩) (λ_ h=>h) I.hok I.bare
def tSS(K:td)(ta:TE):TE:=λσ H Q=>ta σ H λv H1=>∃ t l ns,v=.ref l/\IQ t K H1 l (ns.map V.int)/\ns.length<64/\∀ p,H1 p=none->Q (.ref p) (Pb H1 p (.lst ((sortI ns).map V.int)))
theorem FJ(ns : List Int) : (sortI ns).length <= ns.length := by
  induction ns with
  | nil => exact jd _
  | cons n ns ih =>
    have : ∀ (k : Int) (l : List Int), (insI k l).length <= l.length + 1 := λk l => by
      induction l with
      | nil => exact jd _
      | cons x xs ih => unfold insI; split; · simp
                        split <;> simp; exact ih
    have := this n (sortI ns);rw[sortI, ba]; omega
theorem FD{ta:TE}(hc:X.calm=true)(hg1:Gl X "sorted")(hm1:X.mg "sorted"=none)(hg2:Gl X "set")(hm2:X.mg "set"=none)(ha:PE X a ta)(h1:aa [.Call (.Name "set" p2) [a] [] pos2] X.env=(false,eval (.Call (.Name "set" p2) [a] [] pos2) X.env)::aa [] X.env)(h2:aa [a] X.env=(false,eval a X.env)::aa [] X.env)(h3:(zd pos (aa [] X.env)).any (·.1)=false)(h4:(zd pos2 (aa [] X.env)).any (·.1)=false):PE X (.Call (.Name "sorted" p) [.Call (.Name "set" p2) [a] [] pos2] [] pos) (tSS X.K ta):=by
 intro pins s σ H Q I h;refine lh (Dk I hg1 hm1 (show vf "sorted"=some (.builtin "sorted") by decide +kernel) ?_);refine gq ?_ h1 h3;rw[h1];show wa _ _ (spliced ((false,eval (.Call (.Name "set" p2) [a] [] pos2) X.env)::zd pos (aa [] X.env))) _ _ s;refine vn ?_;refine lh (Dk I hg2 hm2 (show vf "set"=some (.type "set") by decide +kernel) ?_);refine cg ?_ h2 h4;rw[h2];show wa _ _ (spliced ((false,eval a X.env)::zd pos2 (aa [] X.env))) _ _ s;refine vn (thn (ha pins s σ H _ I h) λu s1 ⟨x,H1,I1,r1,q1⟩=>?_);refine bp ?_;obtain⟨t,l,ns,rfl,sq,hl,q⟩:=q1;cases (show u=Value.ref l from r1);obtain⟨its,rv,ps,_⟩:=Nw I1 sq;obtain⟨el,hat⟩:=ZS (Ez rv)
 have fin:∀ h' tk,SI X.prog X.w h' s1.heap.objs.size (met ns)->(∀ b o,s1.heap.get? b=some o->h'.get? b=some o)->
   wa (pb X.prog X.w) X.A (spliced (zd pos (aa [] X.env))) (λvs s'=>wa (pb X.prog X.w) X.A (call (.builtin "sorted") (Value.ref s1.heap.objs.size::vs)) (EP X pins σ Q) X.xe s') X.xe {s1 with heap:=h',toks:=tk}:=λh' tk hS k=>by
  refine bp ?_;have hm:=GF ns;refine XD (s:= {s1 with heap:=h',toks:=tk}) (I1.ok.hd hc) hS (by omega) λh2 d tk2 p out os e a1 a2 a3 ho hz k2=>?_;have eo:=WD a2 a3;subst eo;have hsl:=FJ ns;have lz:s1.heap.objs.size<h'.objs.size:=let ⟨_,_,_,_,ho,_⟩:=hS;qd ho
  have hp:s1.heap.objs.size<=p:=uf (rl lz) hz;refine⟨.ref p,Pb H1 p (.lst ((sortI ns).map V.int)),?_,rfl,q p (I1.hok.fresh hp)⟩;exact Hz (d:=d) (t:=tk2) (I1.laid (o:=.lst ((sortI ns).map V.int)) (h':=h2) (t':=tk2) (λb o e=>k2 _ _ (k _ _ e)) hp ⟨by rw[la,se];omega,out,e,vals_ints a1,ho⟩)
 have hb:its.toArray.size+1<xl:=by rw[jc,<-el];unfold xl;omega
 cases t with
 |true=>
  obtain⟨ol,hol,hcl,nl,hd⟩:=ps;exact Sn (I1.ok.hd hc) hol hcl (by rw[yk];kernel_rfl) (by rw[yk];kernel_rfl) (by decide) (UH hcl hd) (by rw[jc];exact el) (λi v e=>hat i v (by simpa using e)) hb fin
 |false=>
  obtain⟨ol,hol,hcl,nl,hd⟩:=ps;exact Sn (I1.ok.hd hc) hol hcl (by rw[yk];kernel_rfl) (by rw[yk];kernel_rfl) (by decide) (DM hcl hd) (by rw[jc];exact el) (λi v e=>hat i v (by simpa using e)) hb fin
theorem Wi{pt:vg}{fs:Ca->Res (List D)}(hm:X.mg "enumerate"=none)(ha:XA X xw [a] fs)(hg:Gl X "enumerate":=by rfl)(hs:aa [a] X.env= [(false,eval a X.env)]:=by rfl):
  XI X xw (.Tuple elts kt pt) (.Call (.Name "enumerate" p) [a] [] pos) (b1 Xd fs):=⟨OR hm ha.h hg hs⟩
def VA:D->Res (List D)
 | .tup ds=>match Ym ds with
  |some ns=>@ite _ (ns.length<64) (xc _) (.ok ((sortI ns).map D.int)) .stuck
  |none=>.stuck
 | .lst ds=>match Ym ds with
  |some ns=>@ite _ (ns.length<64) (xc _) (.ok ((sortI ns).map D.int)) .stuck
  |none=>.stuck
 |_=>.stuck
theorem JH(hc:X.calm=true)(hm1:X.mg "sorted"=none)(hm2:X.mg "set"=none)(ha:XP X xw a fa)(hg1:Gl X "sorted":=by rfl)(hg2:Gl X "set":=by rfl)(h1:aa [.Call (.Name "set" p2) [a] [] pos2] X.env=(false,eval (.Call (.Name "set" p2) [a] [] pos2) X.env)::aa [] X.env:=by rfl)(h2:aa [a] X.env=(false,eval a X.env)::aa [] X.env:=by rfl)(h3:(zd pos (aa [] X.env)).any (·.1)=false:=by rfl)(h4:(zd pos2 (aa [] X.env)).any (·.1)=false:=by rfl):
  XF X xw (.Call (.Name "sorted" p) [.Call (.Name "set" p2) [a] [] pos2] [] pos) (b1 VA fa):=
 ⟨PE.weak (FD hc hg1 hm1 hg2 hm2 ha.h h1 h2 h3 h4) λσ H Q ⟨W₀,H₀,W,δ,st,q⟩=>Kv st q λH2 d v k w st2 hv _ q2=>by
  unfold VA at q2;split at q2
  .split at q2
   .rename_i ns hn;split at q2
    .rename_i hl;obtain⟨p,xs,e,sq,r⟩:=hv.tup;have:=Zm hn r;subst this;exact⟨true,p,ns,e,sq,hl,λl hl'=>q2 l _ H2 (Same.refl _) hl' HasL.ints⟩
    .exact q2.elim
   .exact q2.elim
  .split at q2
   .rename_i ns hn;split at q2
    .rename_i hl;obtain⟨p,xs,e,sq,r⟩:=hv.lst;have:=Zm hn r;subst this;exact⟨false,p,ns,e,sq,hl,λl hl'=>q2 l _ H2 (Same.refl _) hl' HasL.ints⟩
    .exact q2.elim
   .exact q2.elim
  .exact q2.elim⟩
end
end L3
namespace HT
open PySem PyProof.Rows
section
variable {prog:ic}{w:vd}{A:je}{E:Fa->Shared->Prop}{s:Shared}
theorem getItem_tuple_all{t sl:ca}{items:Array Fa}{vl vu:Fa}{lo hi:Option Int}{Q:Fa->Shared->Prop}(ht:IsTup s.heap t items)(hs:s.heap.IsSliceOf sl vl vu .none)(pl:yv vl lo)(pu:yv vu hi)(hw:sIx items.size 0 lo=0/\sIx items.size items.size hi=items.size)(h:Q (.ref t) s):wa (pb prog w) A (getItem (.ref t) (.ref sl)) Q E s:=by
 obtain⟨os,hos,hcs,hds⟩:=id hs;have hTs:s.TypeIs (.ref sl) "slice":=⟨os,hos,hcs⟩
 unfold getItem
 try with_reducible refine ng ?_
 first|refine Da (ia ?_)|skip
 refine Da (wpAny_sequenceKey ht.typeIs (by decide) ?_);refine Da (zi (name:=jr "__getitem__") ht.typeIs kf (og kf ht.typeIs entry_tuple_getitem ?_ (args_tuple_getitem _ _)));show wa _ _ (Rs (.ref t) >>= _) _ _ s;refine Da (tupleItemsOf_ ht (Da (rm hTs ?_)));rw[if_pos (by decide)];refine Da (Oj hs pl pu ?_);rw[hw.1,hw.2];show wa _ _ (if((((0:Nat):Int)==0&&(1:Int)==1&&(items.size-0)==items.size)=true) then _ else _) _ _ s;rw[if_pos (by simp)];refine Da ?_;unfold Builtin.Tuple.tupleIsExact;refine Da (rm ht.typeIs (ia ?_));rw[if_pos (by decide)];exact Da (dq (ia ⟨_,rfl,ia h⟩))
end
end HT
namespace L3
open PySem PySem.Spec PyProof.Rows L2 SeqAt
section
variable {X:Cx}{xw:XW}{a:qc}{lo hi:Option qc}{fa:Ca->Res D}{fl fh:Ca->Res (Option Int)}{pos p2:vg}
def Ga0(K:td):V->Option Int->Option Int->Hp->VK->Prop:=λx lo hi H Q=>∃ a xs,x=.ref a/\SqT K H a xs/\(HT.sIx xs.length 0 lo=0/\HT.sIx xs.length xs.length hi=xs.length)/\Q (.ref a) H
theorem EW:SlR X (Ga0 X.K):=by
 intro pins s σ H x v vl vu lo hi sl Q I rx hs pl pu h;obtain⟨a,xs,rfl,hx,hw,q⟩:=h;cases rx;obtain⟨its,r,ht,hz⟩:=I.tuple hx;have hlen:its.toArray.size=xs.length:=by rw[jc];exact r.length.symm
 refine⟨"tuple",_,kf.lookup,ht.typeIs,?_⟩;exact HT.getItem_tuple_all ht hs pl pu (by rw[hlen];exact hw) ⟨.ref a,H,I,rfl,q⟩
def CW(d:D)(lo hi:Option Int):Res D:=match d with
 | .tup ds=>.ok (.tup (cutD ds lo hi))
 | .lst ds=>.ok (.lst (cutD ds lo hi))
 |_=>.stuck
theorem CY(ha:XP X xw a fa)(hl:XO X xw lo fl)(hh:XO X xw hi fh):XE X xw (.Subscript a (.Slice lo hi none p2) pos) (b3 CW fa fl fh):=
 ⟨PE.weak (IA (SlR.or EW (SlR.or T3 BG)) ha.h hl.h hh.h) λσ H Q ⟨W₀,H₀,W,δ,st,q⟩=>Px (G:=λH r=>RE X.K xw W H r Q) st (λ_ _ _ q=>q) (λ_ q=>q) (λ_ _ _ k q=>RE.same q k) q λH2 d v l u k w hv q2=>by
  unfold CW at q2;split at q2
  .rename_i ds;obtain⟨a1,xs,e1,sq,r⟩:=hv.tup;by_cases hw:whole ds.length l u
   .have hw':HT.sIx xs.length 0 l=0/\HT.sIx xs.length xs.length u=xs.length:=by rw[<-r.length];exact hw
    refine .inl ⟨a1,xs,e1,sq,hw',q2 _ _ (Same.refl _) ?_⟩;have:cutD ds l u=ds:=by unfold cutD;rw[hw.1,hw.2];simp
    rw[this,Has];exact⟨a1,xs,rfl,sq,r⟩
   .refine .inr (.inl ⟨a1,xs,e1,sq,?_,λp hp=>q2.newT w hp (Ew r l u)⟩);rw[<-r.length];exact hw
  .obtain⟨a1,xs,e1,sq,r⟩:=hv.lst;refine .inr (.inr ⟨a1,xs,e1,sq,λp hp=>q2 _ _ (Ec hp) ?_⟩);rw[Has];exact⟨p,_,rfl,.inl ⟨Ta,JF w hp⟩,(Ew r l u).same (Ec hp) w⟩
  .exact q2.elim⟩
end
theorem ZO(ds:List D)(lo hi:Option Int):CW (.lst ds) lo hi=.ok (.lst (cutD ds lo hi)):=rfl
theorem S3(ds:List D)(a:Nat):CW (.tup ds) none (some (a:Int))=.ok (.tup (ds.take a)):=by
 show Res.ok (D.tup (cutD ds none (some (a:Int))))=_;rw[YQ]
theorem YO(ds:List D)(a:Nat)(h:a<=ds.length):CW (.tup ds) (some (a:Int)) none=.ok (.tup (ds.drop a)):=by
 show Res.ok (D.tup (cutD ds (some (a:Int)) none))=_;unfold cutD;rw[HT.sIx_nat,HT.sIx_none,Nat.min_eq_left h,lj (by simp)]
end L3
namespace HT
open PySem PyProof.Rows
section
variable {prog:ic}{w:vd}{A:je}{E:Fa->Shared->Prop}{s:Shared}
end
end HT
namespace L3
open PySem PySem.Spec PyProof.Rows L2 SeqAt
section
variable {X:Cx}{xw:XW}{a st:qc}{fa:Ca->Res D}{pos p2:vg}
end
end L3
namespace L3
open PySem PySem.Spec PyProof.Rows L2
variable{K:td}{xw:XW}{W₀ W W1:WS}{H₀ H:Hp}{Dn:Ends}{o:Out}
section
variable {H1:Hp}
def RSO(K:td)(xw:XW)(W₀:WS)(H₀:Hp)(W:WS)(H:Hp)(o:Out)(Dn:Ends):Prop:=match o with
 | .rt (.lst ds)=>∀ a xs H',Same H₀ H'->H₀ a=none->H' a=some (.lst xs)->HasL K (λb=>W₀ b\/b=a) H' ds xs->Dn.rt (.ref a) H'
 |o=>RS K xw W₀ H₀ W H o Dn
theorem RSO.step(h:RSO K xw W₀ H₀ W H o Dn)(k:Step W H W1 H1):RSO K xw W₀ H₀ W1 H1 o Dn:=by
 cases o with
 |rt d=>cases d<;>exact h
 |nx δ=>exact RS.step (xw:=xw) (o:=.nx δ) h k
 |bk δ=>exact RS.step (xw:=xw) (o:=.bk δ) h k
 |ct δ=>exact RS.step (xw:=xw) (o:=.ct δ) h k
 |ex c fs=>exact h
 |stuck=>exact h
def Va0(K:td)(xw:XW)(g:Ca->Out):TS:=λDn σ H=>∃ W₀ H₀ W δ,StHas K W₀ H₀ W H σ δ/\RSO K xw W₀ H₀ W H (g δ) Dn
end
structure NoL(g:Ca->Out):Prop where
 h:∀ δ ds,g δ≠ .rt (.lst ds)
variable{α:Type}{ds:List D}
theorem E1{r:Res α}{k:α->Out}(h:∀ a,k a≠ .rt (.lst ds)):Kj r k≠ .rt (.lst ds):=by
 cases r with
 |ok a=>exact h a
 |ex c fs=>intro e;cases e
 |stuck=>intro e;cases e
variable{i:Nat}{f:Ca->Res D}
theorem NoL.set:NoL (Vb i f):=⟨λδ ds=>E1 λk e=>by cases e⟩
variable{X:Cx}{st:sf}{pos:vg}{a:qc}{P:ic}{w:vd}{mg:xa->Option Fa}{base:ke}{k n:Nat}{x:xa}{g:Ca->Out}
section
variable {sts:List sf}{g1 g2:Ca->Out}{p:vg}{es:List qc}
structure XSO(X:Cx)(xw:XW)(sts:List sf)(g:Ca->Out):Prop where
 h:PSs X sts (Va0 X.K xw g)
theorem FW(h1:XS X xw st g1)(n:NoL g1)(h2:XSO X xw sts g2):XSO X xw (st::sts) (Bb g1 g2):=⟨PSs.weak (Co h1.h h2.h) λDn σ H ⟨W₀,H₀,W,δ,st,q⟩=>by
 refine⟨W₀,H₀,W,δ,st,?_⟩;have q':RSO X.K xw W₀ H₀ W H (Em (g1 δ) g2) Dn:=q;cases h:g1 δ with
 |nx δ'=>
  rw[h]at q'
  exact λW' H' σ' k st'=>⟨W₀,H₀,W',δ',st',RSO.step (o:=g2 δ') q' k⟩
 |bk δ'=>rw[h]at q';exact q'
 |ct δ'=>rw[h]at q';exact q'
 |rt d=>
  rw[h]at q'
  cases d with
  |lst ds=>exact absurd h (n.h δ ds)
  |_=>exact q'
 |ex c fs=>rw[h]at q';exact q'
 |stuck=>rw[h]at q';exact q'⟩
def spO(K:td)(n:Nat)(m:List D->Res D):Sp:=λvs H Q _=>vs.length=n/\∃ W ds,WL W H/\HasL K W H ds vs/\match m ds with
 | .ok (.lst fs)=>∀ a xs H',Same H H'->H a=none->H' a=some (.lst xs)->HasL K (λb=>W b\/b=a) H' fs xs->Q (.ref a) H'
 | .ok d=>∀ v H',Same H H'->Has K W H' d v->Q v H'
 |_=>False
structure FnO(P:ic)(w:vd)(K:td)(mg:xa->Option Fa)(base:ke)(k:Nat)(x:xa)(n:Nat)(m:List D->Res D):Prop where
 ex:∃ f fd ps,FnOk P w K mg base Oo k f fd ps (spO K n m)/\mg x=some (.ref f)/\mf K (.ref f)=true/\Binds K fd ps []
theorem FnO.mono{j:Nat}{m:List D->Res D}(F:FnO P w K mg base j x n m)(h:j<=k):FnO P w K mg base k x n m:=by
 obtain⟨f,fd,ps,a,b⟩:=F.ex;exact⟨f,fd,ps,a.mono h,b⟩
theorem LS{qual:xa}{st:sf}{fa:ca}{fd:wf}{N ps:List xa}(F:Fun K x qual st fa fd)(S:FnScope N ps (Pa st))(hm:mg x=some (.ref fa))(hb:Binds K fd ps [])(body:∀ (cdv:Fa) (A:je) (outer:List tu) (s:Shared) (H:Hp) (E:XK),Room k (A.deeper (wn qual (Pa st) s.heap.objs.size fa cdv))->
   XSO (Qo Oo P w K mg base N qual (Pa st) fa cdv A outer s H E).nox Jq (Ad st) g):FnO P w K mg base (k+1) x ps.length (Xc N.length g):=by
 refine⟨fa,fd,ps,F.ok S (λvs H Q E h=>h.1) (λcdv A outer s H vs Q E hr h=>?_),hm,F.kp,hb⟩;obtain⟨hl,W,ds,hw,hd,q⟩:=h;refine⟨_,(body cdv A outer s H E hr).h,W,H,W,Sb N.length ds,Pj hw hd,?_⟩;unfold Xc at q;cases h:g (Sb N.length ds) with
 |rt d=>
  rw[h]at q
  cases d with
  |lst fs=>exact λa xs H' k n e r=>q a xs H' k n e r
  |_=>exact λv H' k hv=>q v H' k hv
 |nx δ=>rw[h]at q;exact λW' H' σ' k st'=>q .non H' st'.fr.ext (by rw[Has])
 |bk δ=>rw[h]at q;exact q.elim
 |ct δ=>rw[h]at q;exact q.elim
 |ex c fs=>rw[h]at q;exact q.elim
 |stuck=>rw[h]at q;exact q.elim
def Z9(i:Nat)(δ:Ca):D->Out
 | .lst ds=>.nx (δ.set i (some (.o ds)))
 |d=>.nx (δ.set i (some (.d d)))
def LO(i:Nat)(f:Ca->Res D):Ca->Out:=λδ=>Kj (f δ) (Z9 i δ)
def WW(K:td)(W:WS)(H:Hp):List D->List V->Prop
 | [],xs=>xs= []
 |d::ds,xs=>∃ x r,xs=x::r/\HasT K W H d x/\WW K W H ds r
def RAP(K:td)(xw:XW)(W:WS)(H:Hp)(r:Res (List D))(Q:List V->Hp->Prop):Prop:=match r with
 | .ok ds=>∀ vs H',Same H H'->WW K W H' ds vs->Q vs H'
 | .ex c fs=>∀ H',Same H H'->xw c fs H'
 | .stuck=>False
structure XAP(X:Cx)(xw:XW)(es:List qc)(f:Ca->Res (List D)):Prop where
 h:PA X es λσ H Q=>∃ W₀ H₀ W δ,StHas X.K W₀ H₀ W H σ δ/\RAP X.K xw W H (f δ) Q
end
open SeqAt
variable{k:Hb}
section
variable {β:Type}
def Fc(l:List (Hb×α))(k:Hb):Option α:=(l.find? λp=>decide (p.1=k)).map (·.2)
def Nq(l:List (Hb×α))(k:Hb):Bool:=l.any λp=>decide (p.1=k)
def Og(l:List (Hb×α))(k:Hb)(y:α):List (Hb×α):=if Nq l k=true then l.map (λp=>if p.1=k then(p.1,y) else p) else l++ [(k,y)]
theorem Ng{p:Hb×α}{r:List (Hb×α)}(e:p.1=k):Fc (p::r) k=some p.2:=by simp[Fc,wq,e]
theorem Rf{p:Hb×α}{r:List (Hb×α)}(e:¬ p.1=k):Fc (p::r) k=Fc r k:=by simp[Fc,wq,e]
theorem Wl(k:Hb):∀ l:List (Hb×α),Nq l k=(Fc l k).isSome
 | []=>rfl
 |p::r=>by
  by_cases e:p.1=k
  .rw[Ng e];simp[Nq,e]
  .rw[Rf e,<-Wl k r];simp[Nq,e]
theorem AB(l:List (Hb×α))(k:Hb)(y:α):(Og l k y).length<=l.length+1:=by
 unfold Og;split
 .rw[la];omega
 .simp
end
variable{kvs:List (Hb×V)}{vs:List (Hb×Fa)}
theorem Yo(r:KV kvs vs)(k:Hb):(∀ v,Fc kvs k=some v->∃ u,cw vs k=some u/\RelV v u)/\(Fc kvs k=none->cw vs k=none):=by
 unfold KV at r
 induction r with
 |nil=>exact⟨(λv e=>by cases e),λ_=>rfl⟩
 |@cons p q ps qs h t ih=>
  obtain⟨h1,h2⟩:=h;by_cases e:p.1=k
  .have b:cw (q::qs) k=some q.2:=by simp[cw,wq,h1.symm.trans e]
   rw[Ng e,b];exact⟨λv z=>by cases z;exact⟨_,rfl,h2⟩,λz=>by cases z⟩
  .have e':¬ q.1=k:=λz=>e (h1.trans z);have b:cw (q::qs) k=cw qs k:=by simp[cw,wq,e']
   rw[Rf e,b];exact ih
theorem S0(r:KV kvs vs)(k:Hb):Nq kvs k=vs.any λp=>decide (p.1=k):=by
 unfold KV at r
 induction r with
 |nil=>rfl
 |cons h t ih=>unfold Nq at ih ⊢;rw[any_cons,any_cons,ih,h.1]
variable{u:Fa}
theorem QM(r:KV kvs vs)(k:Hb){y:V}(ry:RelV y u):KV (Og kvs k y) (stored vs k u):=by
 unfold Og stored;rw[S0 r k];by_cases e:(vs.any λp=>decide (p.1=k))=true
 .rw[if_pos e,if_pos e];unfold KV at r ⊢;clear e
  induction r with
  |nil=>exact .nil
  |@cons p q ps qs h t ih=>
   rw[ac,ac];refine .cons ?_ ih;obtain⟨h1,h2⟩:=h;by_cases e:p.1=k
   .rw[if_pos e,if_pos (h1.symm.trans e)];exact⟨h1,ry⟩
   .rw[if_neg e,if_neg (λz=>e (h1.trans z))];exact⟨h1,h2⟩
 .rw[if_neg e,if_neg e];unfold KV at r ⊢;clear e
  induction r with
  |nil=>exact .cons ⟨rfl,ry⟩ .nil
  |cons h t ih=>exact .cons h ih
theorem Wh(r:KV kvs vs):kvs.length=vs.length:=by
 unfold KV at r
 induction r with
 |nil=>rfl
 |cons h t ih=>rw[ba,ba,ih]
variable{d:D}{v:V}{l:List (Hb×D)}{H':Hp}
section
variable {K:td}{W:WS}{H:Hp}
def HasP(K:td)(W:WS)(H:Hp)(l:List (Hb×D))(kvs:List (Hb×V)):Prop:=kvs.map (·.1)=l.map (·.1)/\HasL K W H (l.map (·.2)) (kvs.map (·.2))
theorem HasP.nil:HasP K W H [] []:=⟨rfl,HasL.nil⟩
theorem HasP.cons{p:Hb×D}{l:List (Hb×D)}{kvs:List (Hb×V)}(h:HasP K W H (p::l) kvs):∃ v r,kvs=(p.1,v)::r/\Has K W H p.2 v/\HasP K W H l r:=by
 obtain⟨h1,h2⟩:=h;cases kvs with
 |nil=>cases h1
 |cons q r=>
  rw[ac,ac]at h1 h2
  rw[HasL]at h2
  obtain⟨x,t,e,g1,g2⟩:=h2;cases e;have h3:=List.cons.inj h1;exact⟨q.2,r,by rw[<-h3.1],g1,h3.2,g2⟩
theorem HasP.mk(h:Has K W H d v)(t:HasP K W H l kvs):HasP K W H ((k,d)::l) ((k,v)::kvs):=⟨by rw[ac,ac,t.1],by rw[ac,ac];exact HasL.cons h t.2⟩
theorem HasP.len(h:HasP K W H l kvs):l.length=kvs.length:=by
 have:=congrArg List.length h.1;simpa using this.symm
theorem HasP.of{ks:List Hb}(h1:kvs.map (·.1)=ks)(h2:HasL K W H ds (kvs.map (·.2))):HasP K W H (ks.zip ds) kvs/\(ks.zip ds).map (·.1)=ks/\(ks.zip ds).map (·.2)=ds:=by
 have hl:ks.length=ds.length:=by rw[<-h1,h2.length,la,la]
 have e1:(ks.zip ds).map (·.1)=ks:=by rw[<-List.unzip_fst,List.unzip_zip hl]
 have e2:(ks.zip ds).map (·.2)=ds:=by rw[<-List.unzip_snd,List.unzip_zip hl]
 exact⟨⟨by rw[e1,h1],by rw[e2];exact h2⟩,e1,e2⟩
theorem HasP.same(h:HasP K W H l kvs)(k:Same H H')(w:WL W H):HasP K W H' l kvs:=⟨h.1,h.2.same k w⟩
theorem HasP.get:∀ {l:List (Hb×D)} {kvs:List (Hb×V)},HasP K W H l kvs->∀ (k:Hb),(∀ d,Fc l k=some d->∃ v,Fc kvs k=some v/\Has K W H d v)/\(Fc l k=none->Fc kvs k=none)
 | [],kvs,h,k=>by
  obtain⟨h1,_⟩:=h;cases kvs with
  |nil=>exact⟨(λd e=>by cases e),λ_=>rfl⟩
  |cons _ _=>cases h1
 |p::l,kvs,h,k=>by
  obtain⟨v,r,rfl,h1,h2⟩:=h.cons;by_cases e:p.1=k
  .rw[Ng e,Ng (p:=(p.1,v)) e];exact⟨λd z=>by cases z;exact⟨v,rfl,h1⟩,λz=>by cases z⟩
  .rw[Rf e,Rf (p:=(p.1,v)) e];exact h2.get k
theorem HasP.has(h:HasP K W H l kvs)(k:Hb):Nq kvs k=Nq l k:=by
 have:=h.1;unfold Nq;rw[show(kvs.any λp=>decide (p.1=k))=(kvs.map (·.1)).any (λz=>decide (z=k)) by rw[List.any_map];rfl,this,List.any_map];rfl
theorem HasP.put(h:HasP K W H l kvs)(k:Hb)(hd:Has K W H d v):HasP K W H (Og l k d) (Og kvs k v):=by
 unfold Og;rw[h.has k];split
 .rename_i hh;clear hh
  induction l generalizing kvs with
  |nil=>
   obtain⟨h1,_⟩:=h;cases kvs with
   |nil=>exact HasP.nil
   |cons _ _=>cases h1
  |cons p l ih=>
   obtain⟨u,r,rfl,h1,h2⟩:=h.cons;rw[ac,ac];by_cases e:p.1=k
   .rw[if_pos e,if_pos e];exact HasP.mk hd (ih h2)
   .rw[if_neg e,if_neg e];exact HasP.mk h1 (ih h2)
 .rename_i hh;clear hh
  induction l generalizing kvs with
  |nil=>
   obtain⟨h1,_⟩:=h;cases kvs with
   |nil=>exact HasP.mk hd HasP.nil
   |cons _ _=>cases h1
  |cons p l ih=>
   obtain⟨u,r,rfl,h1,h2⟩:=h.cons;exact HasP.mk h1 (ih h2)
end
variable{fa fb:Ca->Res D}{b e:qc}{h:ke}{fq:Ca->Res (List (Hb×D))}{σ:L2.St}{δ:Ca}{H2:Hp}{s:Shared}
section
variable {ie:qc}{p p1 p2:vg}{fi:Ca->Res D}
theorem Wo(r:RelV (kV k) u):(Gc P w).is k u=true:=SV r
theorem Fq{a:ca}(ok:HOk P w H h)(e:Rd H a (.dK kvs)):kvs.length<=sizeLine/\(a==Tl)=false/\∃ vs,KV kvs vs/\h.DictOf (Gc P w) a vs:=by
 rcases e with e|⟨o,e⟩
 .exact ok a _ e
 .exact(show _/\_ from ok a _ e).2
theorem Rd.same{a:ca}{u:HO}(h:Rd H a u)(k:Same H H'):Rd H' a u:=h.imp (k _ _) λ⟨o,e⟩=>⟨o,k _ _ e⟩
def Ea0:R2:=λx y H Q=>∃ a kvs k v,x=.ref a/\Rd H a (.dK kvs)/\y=kV k/\Fc kvs k=some v/\Q v H
theorem XU{ta tb:TE}(ha:PE X a ta)(hb:PE X b tb)(hs:Xl b):PE X (.Subscript a b pos) (Q7 Ea0 ta tb):=by
 intro pins s σ H Q I h;refine Subscript_ (TQ ha hb I h λv u s2 x y H2 I2 rx ry q=>?_);obtain⟨d,kvs,k,z,rfl,hd,rfl,hg,q⟩:=q;cases rx;obtain⟨_,hS,vs,rel,dd⟩:=Fq I2.hok hd;obtain⟨w',hw,rw'⟩:=(Yo rel k).1 z hg;unfold iu;refine Da ?_;rw[getitemInPython_of_ne dd.typeIs.not_modules];refine Da (rq dd.typeIs PySem.F.slot_dict_getitem.lookup ?_)
 have fin:wa (pb X.prog X.w) X.A (subscripted b false (.ref d) u) (λr s₃=>wa (pb X.prog X.w) X.A (letTemporaryGo a (.ref d) r >>= λ_=>pure r) (EP X pins σ Q) X.xe s₃) X.xe s2:=by
  rw[hs (.ref d) u];exact wpAny_operating (wpAny_getItem_of (Wo ry) dd.mapOf hw (Da (wpAny_letTemporaryGo (ia ⟨z,H2,I2.tok _,rw',q⟩))))
 first
  |exact ia (Da fin)
  |exact Da (ia (Da fin))
  |exact Da fin
def B7:V->V->V->Hp->(Hp->Prop)->Prop:=λo i v H Q=>∃ a kvs k,o=.ref a/\i=kV k/\H a=some (.dK kvs)/\kvs.length<sizeLine/\Q (Pb H a (.dK (Og kvs k v)))
theorem set_dict:G5 X B7:=by
 intro pins s σ H o i v ov iv u Q I ro ri rv h;obtain⟨a,kvs,k,rfl,rfl,ha,hl,q⟩:=h;cases ro;obtain⟨z,hS,vs,rel,dd⟩:=I.hok _ _ ha;refine wpAny_setItem_pairs (hsz:=by rw[<-Wh rel];exact z) (Wo ri) dd λh' dd' hs=>⟨_,?_,q⟩;refine I.write (x:=a) (e:=a) (by rw[ha];exact trivial) (.inl rfl) (λb' w hb hw=>(hs.2 b' hb).trans hw) ?_ ?_
 .obtain⟨ob,_,_,hq,_⟩:=dd';exact⟨ob,hq⟩
 .exact⟨by have:=AB kvs k v;omega,hS,_,QM rel k rv,dd'⟩
def RQ(K:td)(xw:XW)(W:WS)(H:Hp)(r:Res (List (Hb×D)))(Q:VK):Prop:=match r with
 | .ok l=>∀ a kvs H',Same H H'->Rd H' a (.dK kvs)->HasP K W H' l kvs->Q (.ref a) H'
 | .ex c fs=>∀ H',Same H H'->xw c fs H'
 | .stuck=>False
def tDQ(K:td)(xw:XW)(f:Ca->Res (List (Hb×D))):TE:=λσ H Q=>∃ W₀ H₀ W δ,StHas K W₀ H₀ W H σ δ/\RQ K xw W H (f δ) Q
structure XQ(X:Cx)(xw:XW)(e:qc)(f:Ca->Res (List (Hb×D))):Prop where
 h:PE X e (tDQ X.K xw f)
def Cc(i:Nat):Ca->Res (List (Hb×D)):=λδ=>match δ[i]? with
 |some (some (.q ks ds))=>.ok (ks.zip ds)
 |some (some (.d (.dct ks ds)))=>.ok (ks.zip ds)
 |_=>.stuck
theorem Ug(i:Nat)(hN:X.N[i]? =some x:=by rfl)(hv:Wx X.env.scope x:=by first|exact Or.inl rfl|exact Or.inr (Or.inl rfl)|exact Or.inr (Or.inr rfl))(hd:(x==("__debug__":xa))=false:=by decide)(hcd:(x==("__classdict__":xa))=false:=by decide):XQ X xw (.Name x pos) (Cc i):=
 ⟨PE.weak (Bi hN hv hd hcd) λσ H Q ⟨W₀,H₀,W,δ,st,q⟩=>by
  unfold Cc at q;split at q
  .rename_i ks ds h;obtain⟨v,e1,a,kvs,rfl,r2,r3,r4,r5,r6⟩:=st.at' i _ h;exact⟨_,e1,q a kvs H (Same.refl H) (.inl r4) (HasP.of r5 r6).1⟩
  .rename_i ks ds h;obtain⟨v,e1,r⟩:=st.at' i _ h;have r':Has X.K W H (.dct ks ds) v:=r;rw[Has]at r'
   obtain⟨a,kvs,rfl,r4,r5,r6⟩:=r';exact⟨_,e1,q a kvs H (Same.refl H) (.inr r4) (HasP.of r5 r6).1⟩
  .exact q.elim⟩
def Dy(op:D->Res α)(f:Ca->Res D):Ca->Res α:=λδ=>(f δ).bind op
def Se(l:List (Hb×D))(d:D):Res D:=match Lz d with
 |some k=>match Fc l k with
  |some x=>.ok x
  |none=>.stuck
 |none=>.stuck
def Mo(op:List (Hb×D)->D->Res α)(f:Ca->Res (List (Hb×D)))(g:Ca->Res D):Ca->Res α:=λδ=>(f δ).bind λl=>(g δ).bind λd=>op l d
theorem Ij(h:HasT K W H d v)(e:Lz d=some k):v=kV k:=by
 cases d with
 |int i=>cases e;exact h.int
 |str x=>cases e;exact h.str
 |_=>cases e
theorem Cj(ha:XQ X xw a fq)(hb:XP X xw b fb)(hs:Xl b:=by intro _ _;rfl):XE X xw (.Subscript a b pos) (Mo Se fq fb):=
 ⟨PE.weak (XU ha.h hb.h hs) λσ H Q ⟨W₀,H₀,W,δ,st,q⟩=>by
  refine⟨W₀,H₀,W,δ,st,?_⟩;unfold Mo at q;cases h1:fq δ with
  |stuck=>rw[h1]at q;exact q
  |ex c fs=>rw[h1]at q;exact q
  |ok l=>
   rw[h1]at q
   intro ad kvs H1 k1 hd hp;refine⟨W₀,H₀,W,δ,st.same k1,?_⟩;have q':RE X.K xw W H ((fb δ).bind λd=>Se l d) Q:=q;cases h2:fb δ with
   |stuck=>rw[h2]at q';exact q'
   |ex c fs=>rw[h2]at q';exact λH2 k2=>q' H2 (k1.trans k2)
   |ok d=>
    rw[h2]at q'
    intro v H2 k2 hv;have q2:RE X.K xw W H (Se l d) Q:=q';unfold Se at q2;split at q2
    .rename_i k hk;split at q2
     .rename_i x hx;have hp2:=hp.same k2 (st.fr.wl.same k1);obtain⟨z,hz,hh⟩:=(hp2.get k).1 x hx;exact⟨ad,kvs,k,z,rfl,Rd.same hd k2,Ij hv hk,hz,q2 z H2 (k1.trans k2) hh⟩
     .exact q2.elim
    .exact q2.elim⟩
def Km(i:Nat):Ca->Out:=λδ=>.nx (δ.set i (some (.q [] [])))
theorem YU{t:TE}(ht:∀ σ H Q,t σ H Q->∀ a,H a=none->Q (.ref a) (Pb H a (.dK []))):PE X (.Dict [] [] pos) t:=by
 intro pins s σ H Q I q
 have big:Tl<s.heap.objs.size:=by
  have h:jb<s.heap.objs.size:=(I.mod.glob.keeps I.bk).lt;exact On (by decide) h
 exact wpAny_Dict_empty ⟨.ref s.heap.objs.size,_,I.laid (a:=s.heap.objs.size) (o:=.dK []) (t':=s.toks) (λ_ _ q=>ja _ q) (jd _) (NK s.heap big),rfl,ht σ H Q q _ (I.hok.fresh (jd s.heap.objs.size))⟩
theorem PD(i:Nat){pos' pos'':vg}(hN:X.N.Nodup)(hi:X.N[i]? =some x:=by rfl)(hx:Loc X.env.scope x:=by first|exact Or.inl rfl|exact Or.inr rfl)(hs:ph (.Dict [] [] pos'') (some (.Name x pos')) pos.line X.env=pure false:=by rfl)(hf:X.fn x=true\/X.env.scope.names.lookup x=some .local:=by first|exact .inl rfl|exact .inr rfl|assumption):XS X xw (.Assign [.Name x pos'] (.Dict [] [] pos'') pos) (Km i):=
 ⟨PS.weak (Ht hN hi hx (YU (t:=λ_ H Q=>∀ a,H a=none->Q (.ref a) (Pb H a (.dK []))) λ_ _ _ q=>q) hs hf) λDn σ H ⟨W₀,H₀,W,δ,st,q⟩=>by
  intro a ha;have st1:=st.ownQ (i:=i) (ks:= []) (ds:= []) (kvs:= []) ha rfl HasL.nil;have q':RS X.K xw W₀ H₀ W H (.nx (δ.set i (some (.q [] [])))) Dn:=q;refine q' _ _ _ ⟨λb o e nb=>?_,λb z=>z.elim .inl λz=>.inr (by rw[z];exact ha)⟩ st1
  rw[Ha (Ua e ha)];exact e⟩
def MV(i:Nat)(δ:Ca)(l:List (Hb×D))(d ix:D):Out:=match Lz ix with
 |some k=>if l.length<=1000 then .nx (δ.set i (some (.q ((Og l k d).map (·.1)) ((Og l k d).map (·.2))))) else .stuck
 |none=>.stuck
def NV(i:Nat)(fi:Ca->Res D)(δ:Ca)(d:D):Out:=match δ[i]? with
 |some (some (.q ks ds))=>Kj (fi δ) (MV i δ (ks.zip ds) d)
 |_=>.stuck
def Li(i:Nat)(fi f:Ca->Res D):Ca->Out:=λδ=>Kj (f δ) (NV i fi δ)
theorem QD(i:Nat)(he:XE X xw e f)(hi:XE X xw ie fi)(hN:X.N[i]? =some x:=by rfl)(hv:Wx X.env.scope x:=by first|exact Or.inl rfl|exact Or.inr (Or.inl rfl)|exact Or.inr (Or.inr rfl))(hd:(x==("__debug__":xa))=false:=by decide)(hcd:(x==("__classdict__":xa))=false:=by decide)(ha:∀ v,mn (.Subscript (.Name x p1) ie p2) X.env v=(do
   let ov <-yo [v] (eval (.Name x p1) X.env);let iv <-yo [v,ov] (eval ie X.env)
   standAt p2
   yo [v,ov,iv] (setItem ov iv v)
   release [v,ov,iv] []):=by intro _;rfl)(hs:kq [.Subscript (.Name x p1) ie p2] e pos.line X.env=pure false:=by rfl)(hw:lq [.Subscript (.Name x p1) ie p2] e X.env=pure none:=by rfl)(h1:(gg [.Subscript (.Name x p1) ie p2] X.env).map (·.2)= [mn (.Subscript (.Name x p1) ie p2) X.env]:=by rfl):
  XS X xw (.Assign [.Subscript (.Name x p1) ie p2] e pos) (Li i fi f):=
 ⟨PS.weak (YN he.h (N2 (Bi hN hv hd hcd) hi.h set_dict ha) hs hw h1) λDn σ H ⟨W₀,H₀,W,δ,st,q⟩=>by
  unfold Li at q;refine Rj st q λH2 d v st2 hv q2=>?_;unfold NV at q2;split at q2
  .rename_i ks ds h;obtain⟨v0,e1,a,kvs,rfl,r2,r3,r4,r5,r6⟩:=st2.at' i _ h;refine⟨_,e1,W₀,H₀,W,δ,st2,?_⟩;cases hf:fi δ with
   |stuck=>rw[hf]at q2;exact q2.elim
   |ex c gs=>rw[hf]at q2;exact λH3 k3=>q2 H3 (st2.fr.ext.trans k3)
   |ok ix=>
    rw[hf]at q2
    have q3:RS X.K xw W₀ H₀ W H2 (MV i δ (ks.zip ds) d ix) Dn:=q2;unfold MV at q3;split at q3
    .rename_i k hk;split at q3
     .rename_i hlen;intro vi H3 k3 hvi;have hkk:=Ij (.inl hvi) hk;subst hkk;have st3:=st2.same k3;obtain⟨v',e1',a',kvs',e',r2',r3',r4',r5',r6'⟩:=st3.at' i _ h;rw[e1]at e1'
      cases e1';cases e';have hp:=(HasP.of r5' r6').1;have hp2:=hp.put k (hv.same k3 st2.fr.wl);refine⟨a,kvs',k,rfl,rfl,r4',by have:=hp.len;rw[se];omega,?_⟩;refine q3 W _ σ ⟨λb o e n=>?_,λ_ z=>.inl z⟩ ?_
      .rw[Ha (λz=>n (by rw[z];exact r2'))];exact k3 _ _ e
      .exact st3.changeQ h e1 r2' hp2.1 hp2.2
     .exact q3.elim
    .exact q3.elim
  .exact q2.elim⟩
def KH(i:Nat)(δ:Ca):Ca:=match δ[i]? with
 |some (some (.q ks ds))=>δ.set i (some (.d (.dct ks ds)))
 |some (some (.o ds))=>δ.set i (some (.d (.lst ds)))
 |_=>δ
theorem StHas.frzQ{ks:List Hb}{a:ca}(o:ki)(h:StHas K W₀ H₀ W H σ δ)(hi:δ[i]? =some (some (.q ks ds)))(hs:σ[i]? =some (some (.ref a)))(hW:W a)(h4:kvs.map (·.1)=ks)(h5:HasL K W H ds (kvs.map (·.2))):StHas K W₀ H₀ (λb=>W b/\b≠a) (Pb H a (.frz o (.dK kvs))) σ (δ.set i (some (.d (.dct ks ds)))):=by
 have kk:Pg W H (Pb H a (.frz o (.dK kvs))):=λb u e n=>by rw[Ha (λz=>n (by rw[z];exact hW))];exact e
 refine h.freezeH (owq ks ds) hi hs ?_;rw[Has];exact⟨a,kvs,rfl,⟨o,Ta⟩,h4,HasL.keep kk h.fr.wl (λb z=>.inl z.1) h5⟩
theorem Step.less{W2:WS}(hw:∀ b,W1 b->W b)(k:Step W1 H W2 H2):Step W H W2 H2:=⟨λb o e n=>k.keep b o e λz=>n (hw b z),λb z=>(k.new b z).imp (hw b) id⟩
theorem RS.less{xw:XW}(hw:∀ b,W1 b->W b)(q:RS K xw W₀ H₀ W H o Dn):RS K xw W₀ H₀ W1 H o Dn:=by
 cases o with
 |nx δ=>exact λW' H' σ k s=>q W' H' σ (k.less hw) s
 |bk δ=>exact λW' H' σ k s=>q W' H' σ (k.less hw) s
 |ct δ=>exact λW' H' σ k s=>q W' H' σ (k.less hw) s
 |rt d=>exact q
 |ex c fs=>exact q
 |stuck=>exact q
def NA(i:Nat)(g:Ca->Out):Ca->Out:=λδ=>g (KH i δ)
theorem RS.note{xw:XW}{a:ca}{ob:HO}(hW:W a)(q:RS K xw W₀ H₀ W H o Dn):RS K xw W₀ H₀ (λb=>W b/\b≠a) (Pb H a ob) o Dn:=by
 have st:∀ W' H',Step (λb=>W b/\b≠a) (Pb H a ob) W' H'->Step W H W' H':=λW' H' k=>⟨λb u e n=>by
   have hb:b≠a:=λz=>n (by rw[z];exact hW);exact k.keep b u (by rw[Ha hb];exact e) λz=>n z.1,λb z=>by
   rcases k.new b z with z|z
   .exact .inl z.1
   .by_cases hb:b=a
    .rw[hb,Ta]at z;cases z
    .rw[Ha hb]at z;exact .inr z⟩
 cases o with
 |nx δ=>exact λW' H' σ k s=>q W' H' σ (st _ _ k) s
 |bk δ=>exact λW' H' σ k s=>q W' H' σ (st _ _ k) s
 |ct δ=>exact λW' H' σ k s=>q W' H' σ (st _ _ k) s
 |rt d=>exact q
 |ex c fs=>exact q
 |stuck=>exact q
theorem GL{pins:List (ca×ki)}(I:Inv X pins σ H s)(h:GQ X.K xw (NA i g) Dn σ H):∃ H',Inv X pins σ H' s/\GQ X.K xw g Dn σ H':=by
 obtain⟨W₀,H₀,W,δ,st,q⟩:=h;have q':RS X.K xw W₀ H₀ W H (g (KH i δ)) Dn:=q;unfold KH at q';split at q'
 .rename_i ks ds h;obtain⟨v,e,a,kvs,rfl,r2,r3,r4,r5,r6⟩:=st.at' i _ h;have ok:=I.hok _ _ r4;obtain⟨z,hS,vs,rel,dd⟩:=id ok;obtain⟨o,es,ep,ho,_⟩:=dd;refine⟨_,I.write (x:=a) (e:=a) (o:=.frz o (.dK kvs)) (h':=s.heap) (t':=s.toks) (by rw[r4];exact trivial) (.inl rfl) (λb' u hb hu=>hu) ⟨_,ho⟩ ⟨ho,ok⟩,W₀,H₀,_,_,st.frzQ o h e r2 r5 r6,RS.note r2 q'⟩
 .rename_i ds h;obtain⟨v,e,a,xs,rfl,_⟩:=st.at' i _ h;exact⟨H,I,W₀,H₀,_,_,(st.freeze h e).1,RS.less (λb z=>z.1) q'⟩
 .exact⟨H,I,W₀,H₀,W,δ,st,q'⟩
theorem RO(i:Nat)(h:XS X xw st g):XS X xw st (NA i g):=⟨λpins s σ H Dn I q=>let ⟨H',I',q'⟩:=GL I q;h.h pins s σ H' Dn I' q'⟩
end
theorem ZL(h:(Gc P w).is k u=true):RelV (kV k) u:=by
 rcases Zb h with⟨i,t,rfl,rfl⟩|⟨x,t,rfl,rfl⟩
 .exact⟨t,rfl⟩
 .exact⟨t,rfl⟩
variable{o:ki}{a:ca}{es:Array zu}{ep:Nat}
theorem Iw(ok:HOk P w H h)(e:H a=some (.frz o (.dK kvs)))(hd:o.data=.dict es ep):
  (a==Tl)=false/\∃ vs,KV kvs vs/\h.DictAt (Gc P w) a vs ep:=by
 obtain⟨h1,_,h2,vs,r,o',es',ep',g1,g2,g3,g4⟩:=(show _/\_ from ok a _ e)
 rw[h1]at g1;cases g1
 rw[hd]at g3;cases g3
 exact⟨h2,vs,r,o,es,h1,g2,hd,g4⟩
theorem LX(r:KV kvs vs){p:Hb×V}(h:kvs[i]? =some p):∃ u,vs[i]? =some (p.1,u)/\RelV p.2 u:=by
 unfold KV at r
 induction r generalizing i with
 |nil=>cases h
 |@cons p' q ps qs hh t ih=>
  cases i with
  |zero=>cases h;exact⟨q.2,by rw[List.getElem?_cons_zero,hh.1],hh.2⟩
  |succ i=>exact ih (by simpa using h)
variable{tg:qc}{apos:vg}{prog:ic}{A:je}{E Q:Fa->Shared->Prop}{it:ca}
section
def Ms:Hb->D
 | .inl i=>.int i
 | .inr x=>.str x
theorem Hv(k:Hb):Has K W H (Ms k) (kV k):=by
 cases k with
 |inl i=>show Has K W H (.int i) (.int i);rw[Has]
 |inr x=>show Has K W H (.str x) (.str x);rw[Has]
theorem FL{W':WS}{u:HO}(w:WL W H)(k:Step W H W' H2)(h:H a=some (.frz o u)):H2 a=some (.frz o u):=k.keep _ _ h λz=>by
 obtain⟨o',e',m⟩:=w a z;rw[h]at e';cases e';exact m
def C9(a:ca)(o:ki)(kvs:List (Hb×V)):It:=
 ⟨λi H=>H a=some (.frz o (.dK kvs))/\i<kvs.length,λi H x H'=>∃ n p,x=.ref n/\H n=none/\kvs[i]? =some p/\H'=Pb H n (.tup [kV p.1,p.2]),λi H=>H a=some (.frz o (.dK kvs))/\i=kvs.length⟩
theorem Cm:entryFor table "dict_itemiterator.__iter__"=some kj.«dict_keyiterator.__iter__» :=
 entryFor_alias (id':="dict_keyiterator.__iter__") (by kernel_rfl) rfl (by decide +kernel) (by kernel_rfl)
theorem Mq{d:ca}{ok ov:Fa}(hit:IsItemIter s.heap it d i n ep ok ov)(h:Q (.ref it) s):wa (pb prog w) A (pyIter (.ref it)) Q E s:=by
 have hT:s.TypeIs (.ref it) "dict_itemiterator":=⟨_,hit,rfl⟩
 refine bu hT F.slot_dict_itemiterator_iter (og F.slot_dict_itemiterator_iter hT Cm ?_ (F.args_dict_itemiterator_iter_1 _));show wa _ _ (ret (.ref it)) _ _ s;exact ia ⟨_,rfl,"dict_itemiterator",_,hT,F.slot_dict_itemiterator_next.lookup,h⟩
theorem LW{elts:List qc}{kt:Nat}{pt:vg}(hdat:o.data=.dict es ep):
  Turn P w K (.Tuple elts kt pt) (C9 a o kvs) [it] it (λi h=>∃ ok ov,IsItemIter h it a i kvs.length ep ok ov) where
 mem:=by simp
 obj:=λi h st b hb=>by
  have e:b=it:=by simpa using hb
  subst e;obtain⟨ok,ov,e⟩:=st;exact⟨_,e,λv z=>nomatch z⟩
 keep:=λi h h' st k=>by
  obtain⟨ok,ov,e⟩:=st;exact⟨ok,ov,k it (by simp) _ e⟩
 item:=by
  intro X hP hw hK hc i pins s σ H E I hf st hg;subst hP hw hK;obtain⟨hq,hi⟩:=hg;obtain⟨ok,ov,st⟩:=st;obtain⟨_,vs,rel,dat⟩:=Iw I.hok hq hdat;obtain⟨u,hu,ru⟩:=LX rel (oa hi);rw[Wh rel]at st
  refine wpAny_pyNext_items_item st dat hu λkey h1 hkey eo nw sz kk=>⟨_,rfl,?_⟩;refine wpAny_letOwnedTupleGo_items (s:= {s with heap:=h1}) eo λh2 e2 c2=>?_;have li:it<s.heap.objs.size:=qd st;have up:∀ b o,b≠it->h1.get? b=some o->h2.get? b=some o:=λb o ne q=>c2.extBut _ _ ne q;rw[<-Wh rel]at e2
  refine⟨.ref s.heap.objs.size,Pb H s.heap.objs.size (.tup [kV (kvs[i]).1,(kvs[i]).2]),?_,rfl,⟨_,_,rfl,I.hok.fresh (jd _),oa hi,rfl⟩,⟨_,_,e2⟩,λb hb=>?_⟩
  .show Inv X pins σ (Pb H s.heap.objs.size (.tup [kV (kvs[i]).1,(kvs[i]).2])) {s with heap:=h2,toks:=s.toks};refine Cv (ch:= [it]) (t':=s.toks) I hf (λb o hb q=>?_) (jd _) (.cons (ZL hkey) (.cons ru .nil)) (show(2:Nat)<=sizeLine by rw[se];decide) ⟨_,up _ _ (xm li) nw,rfl,_,rfl⟩;simp only[zc,pf,or_false]at hb;exact up _ _ hb (kk b o hb q)
  .have hb1:=(hf b hb).1;have:b=it:=by simpa using hb
   subst this;rw[Ha (Re li)];exact hb1
 done:=by
  intro X hP hw hK hc i pins s σ H E I hf st hg;subst hP hw hK;obtain⟨hq,rfl⟩:=hg;obtain⟨ok,ov,st⟩:=st;obtain⟨_,vs,rel,dat⟩:=Iw I.hok hq hdat;rw[Wh rel]at st
  refine wpAny_pyNext_items_end (I.ok.hd hc) st dat (by simp) λh' eb=>⟨rfl,Dv (ch:= [it]) (t':=s.toks) I hf λb o hb q=>?_⟩;exact eb b o (by simpa using hb) q
 self:=λ_ _ _ _ _ st h=>let ⟨_,_,e⟩:=st;Mq e h
variable {elts:List qc}{kt:Nat}{pt:vg}
def iQi(te:TE):TI:=λσ H R=>te σ H λx H1=>∃ a o kvs,x=.ref a/\H1 a=some (.frz o (.dK kvs))/\R (C9 a o kvs) H1
theorem U6{te:TE}(h:PE X e te)(hbase:ye e "items" X.env (eval e X.env)=eval e X.env)(hline:(apos.endLine==pos.line)=true):PI X (.Tuple elts kt pt) (.Call (.Attribute e "items" apos) [] [] pos) (iQi te):=by
 intro pins s σ H R I h1;refine ko hbase hline (thn (h pins s σ H _ I h1) λv s1 ⟨x,H1,I1,r1,q1⟩=>?_);obtain⟨a,o,kvs,rfl,hq,q⟩:=q1;cases r1;obtain⟨h1',_,hS,vs',r',o',es,ep,g1,g2,g3,g4⟩:=(show _/\_ from I1.hok a _ hq)
 rw[h1']at g1;cases g1
 obtain⟨hs,vs,rel,dat⟩:=Iw I1.hok hq g3;refine⟨"dict","dict.items",F.plainAttrs_dict,F.slot_dict_items,F.type_dict_items,dat.dictOf.typeIs,λb z=>by cases z;exact⟨o,h1',g2.2.1⟩,gj rfl (yq ?_)⟩;refine call_meetsIn F.slot_dict_items dat.dictOf.typeIs F.entry_dict_items (F.args_dict_items_1 _) (meets_dict_items (Gc X.prog X.w) a hs) ⟨⟨vs,dat.dictOf⟩,?_⟩;have v1:Heap.IsItemsView (s1.heap.push {cls:=.type "dict_items",data:=.fields #[.ref a]}) s1.heap.objs.size a:=⟨_,yc _ rfl,rfl,rfl⟩
 refine wpAny_pyIter_items (s:= {s1 with heap:=s1.heap.push {cls:=.type "dict_items",data:=.fields #[.ref a]}}) v1 (dat.push _) ?_;have sz:(s1.heap.push {cls:=.type "dict_items",data:=.fields #[.ref a]}).objs.size=s1.heap.objs.size+1:=sk ..;refine⟨_,[s1.heap.objs.size+1],_,_,H1,by rw[<-sz],I1.kept (t':=s1.toks) λb o e=>ja _ (ja _ e),LW g3,⟨.none,.none,?_⟩,λb hb=>?_,q⟩
 .rw[Wh rel,<-sz];exact yc _ rfl
 .have e:b=s1.heap.objs.size+1:=by simpa using hb
  subst e;exact I1.fpOk (gp _) (I1.hok.fresh (gp _))
def Cn:D->Res (List D)
 | .dct ks ds=>.ok ((ks.zip ds).map λp=>.tup [Ms p.1,p.2])
 |_=>.stuck
theorem G0(w:WL W H)(h:H a=some (.frz o (.dK kvs)))(hp:HasP K W H l kvs):SJ K W H (C9 a o kvs) (l.map λp=>.tup [Ms p.1,p.2]):=by
 intro W' H2 k w2;have h2:=FL w k h;have hl:=hp.len;refine⟨λi d ed=>?_,h2,by rw[la,hl]⟩
 have hi:i<l.length:=by
  have:=(ya.mp ed).1;rw[la]at this;exact this
 refine⟨⟨h2,by omega⟩,λx H3 z=>?_⟩;obtain⟨n,p,rfl,hn,hpi,rfl⟩:=z;refine⟨Ec hn,?_⟩;rw[wc,oa hi]at ed
 cases ed
 have e1:p.1=(l[i]).1:=by
  have:=congrArg (λz=>z[i]?) hp.1;simp only[wc,hpi,oa hi]at this;exact yb this
 obtain⟨v,g1,g2⟩:=hp.2.get (i:=i) (d:=(l[i]).2) (by rw[wc,oa hi];rfl);rw[wc,hpi]at g1
 cases g1;rw[Has];have g3:=(Has.keep k.keep w k.new g2).same (Ec (o:=.tup [kV p.1,p.2]) hn) w2;refine⟨n,[kV p.1,p.2],rfl,.of Ta,HasL.cons ?_ (HasL.cons g3 HasL.nil)⟩;rw[e1];exact Hv _
theorem Mw(h:XE X xw e f)(hbase:ye e "items" X.env (eval e X.env)=eval e X.env:=by rfl)(hline:(apos.endLine==pos.line)=true:=by rfl):XI X xw (.Tuple elts kt pt) (.Call (.Attribute e "items" apos) [] [] pos) (Dy Cn f):=⟨PI.weak (U6 h.h hbase hline) λσ H R ⟨W₀,H₀,W,δ,st,q⟩=>by
 refine⟨W₀,H₀,W,δ,st,?_⟩;unfold Dy at q;cases h1:f δ with
 |stuck=>rw[h1]at q;exact q
 |ex c fs=>rw[h1]at q;exact q
 |ok d=>
  rw[h1]at q
  intro v H1 k1 hv;cases d with
  |dct ks ds=>
   rw[Has]at hv
   obtain⟨a,kvs,rfl,⟨o,ea⟩,r5,r6⟩:=hv;exact⟨a,o,kvs,rfl,ea,q _ H1 k1 (G0 (st.fr.wl.same k1) ea (HasP.of r5 r6).1)⟩
  |_=>exact q.elim⟩
end
variable{a:qc}
section
variable {p pos2:vg}
end
section
variable {p:vg}{fs:Ca->Res (List D)}
end
theorem Vp:entryFor table "dict.update.loop"=some kj.«dict.update.loop» :=entryFor_of_tree (by kernel_rfl)
theorem Ki:plainId "dict.update.loop"=true:=by decide +kernel
section
variable {KK:Type}[DecidableEq KK]{knd:KeyKind prog w KK}{R:uv->Shared->Prop}{I:ca}{fp wr:List ca}{G:Array ql->Array ql->Prop}{P:Nat->Fa->Prop}{St:Nat->Shared->Prop}
theorem PR(W:WalksS prog w A.in1 I fp wr G n P St)(S:ca)(hSf:S∉fp)(base:ke)(hnew:∀ b∈S::wr,base.objs.size<=b)(kvs:List (KK×Fa))(hn:kvs.length=n)(hsz:n<=sizeLine)(hv:∀ i v,P i v->∃ t key k val,v=.ref t/\kvs[i]? =some (k,val)/\knd.is k key=true/\IsTup base t #[key,val]):
  ∀ (j i:Nat) (s:Shared),n-i=j->i<=n->St i s->(∀ b o,base.get? b=some o->s.heap.get? b=some o)->s.heap.DictOf knd S (merged [] (kvs.take i))->(∀ s',Moved (S::wr) G s s'->s'.heap.DictOf knd S (merged [] kvs)->R (.ok (.ret .none)) s')->
   im (pb prog w) A (.builtin "dict.update.loop" ⟨[.ref S,.ref I,fg (i:Int),.none],[]⟩) R s:=by
 have hSw:S∉wr:=λh=>hSf (W.sub _ h);have up:∀ b∈wr,b∈S::wr:=λb hb=>ua _ hb;have old:∀ b o,base.get? b=some o->b∉S::wr:=λb o e m=>absurd (qd e) (Nat.not_lt.mpr (hnew b m));intro j
 induction j with
 |zero=>
  intro i s hk hi st hb hS hR;have:i=n:=by omega
  subst this;refine dj Vp ?_;rw[qh Ki _];show wa _ A.in1 (pyNext (.ref I) >>= _) _ _ s;refine Da (W.done s _ _ st λs' mv=>?_);show wa _ _ (Builtin.Dict.addKeywords S [] >>= _) _ _ s';refine Da (ia (ia (hR s' (mv.mono up) ?_)));rw[lj (vv hn)]at hS
  obtain⟨o,es,ep,ho,r⟩:=hS;exact⟨o,es,ep,mv.heap S o hSw ho,r⟩
 |succ j ih=>
  intro i s hk hi st hb hS hR;have lt:i<n:=by omega
  refine dj Vp ?_;rw[qh Ki _];show wa _ A.in1 (pyNext (.ref I) >>= _) _ _ s;refine Da (W.item i s _ _ lt st λv s' pv st' mv=>?_);obtain⟨t,key,k,val,rfl,hkv,hkey,ht⟩:=hv i v pv
  have hS':s'.heap.DictOf knd S (merged [] (kvs.take i)):=by
   obtain⟨o,es,ep,ho,r⟩:=hS;exact⟨o,es,ep,mv.heap S o hSw ho,r⟩
  obtain⟨ot,e1,e2,e3⟩:=ht;obtain⟨m,e3⟩:=e3;have et:=mv.heap t ot (λz=>old t ot e1 (up _ z)) (hb t ot e1);have hT:s'.TypeIs (.ref t) "tuple":=⟨ot,et,e2⟩
  show wa _ A.in1 (yo [Value.ref t] _ >>= _) _ _ s';refine Da (ng ?_);refine Da (wpAny_tryCatch ?_);unfold Builtin.Dict.pairItems;refine Da (rm hT ?_);rw[if_pos (by decide)];refine Da (ss et e3 (ia ?_));show wa _ _ (yo [key,val] (dictSet S key val)) _ _ _
  have hs0:(merged ([]:List (KK×Fa)) (kvs.take i)).length<=sizeLine:=by
   have:=merged_length_le ([]:List (KK×Fa)) (kvs.take i);rw[ao,rd,zp]at this
   have h2:min i kvs.length<=i:=Nat.min_le_left _ _;exact uf this (uf h2 (uf hi hsz))
  refine ng (wpAny_dictSet_pairs (hsz:=hs0) hkey hS' λh' hS2 sb=>?_);refine ia (show _/\im (pb prog w) A (.builtin "dict.update.loop" ⟨[.ref S,.ref I,fg ((i:Int)+1),.none],[]⟩) R {s' with heap:=h',toks:=s'.toks+1} from⟨bn Ki _,?_⟩);have e5:fg ((i:Int)+1)=fg ((i+1:Nat):Int):=by congr 1
  rw[e5];refine ih (i+1) _ (by omega) lt (W.frame _ s' _ _ st' (gp _) λb hb o e=>sb.extBut _ _ (λq=>hSf (q▸hb)) e) (λb o e=>sb.extBut _ _ (λq=>old b o e (by rw[q];exact ib)) (mv.heap b o (λz=>old b o e (up _ z)) (hb b o e))) (by rw[merged_take_succ _ _ i _ hkv];exact hS2) λs'' mv2 hS3=>hR s'' ?_ hS3;exact Moved.trans W.gtrans ((mv.mono up).then_heap (gp _) λb o hb e=>sb.extBut _ _ (λq=>hb (by rw[q];exact ib)) e) mv2
theorem Mz:typeLookup (.type "list") "keys"=pure none:=by rw[lw,cq];kernel_rfl
theorem ZH{a:ca}{xs:Array Fa}{k:Nat}{Q:Option Fa->Shared->Prop}(hx:s.heap.get? a=some o)(hc:o.cls=.type "list")(hdat:o.data=.seq xs k)(hd:o.dict=none)(hA:A.handled=none)(h:∀ h' tk,(∀ b ob,s.heap.get? b=some ob->h'.get? b=some ob)->Q none {s with heap:=h',toks:=tk}):
  wa (pb prog w) A (getAttr? (.ref a) "keys") Q E s:=by
 obtain⟨c,dct,dat,sl⟩:=o;simp only at hc hdat hd;subst hc hdat hd;obtain⟨hp,g,d,tk,os⟩:=s;have hT:∀ tk',(⟨hp,g,d,tk',os⟩:Shared).TypeIs (.ref a) "list":=λ_=>⟨_,hx,rfl⟩;have f1:=sub_AttributeError;have f3:=F.slot_list_getattribute.lookup;have f4:=F.slot_list_getattribute.bind (.ref a);have f5:=am_list_getattr_none;unfold getAttr? getAttrBy? getAttrBy
 repeat (any_goals (first|assumption|exact hT _|((with_reducible show wa _ _ (call (Value.builtin "list.__getattribute__") _ _) _ _ _);refine yn F.slot_list_getattribute (hT _) am_entry_list_getattribute (F.args_list_getattribute_2 _ _) (meets_getattribute_miss_list a xs k sl "keys" _ Mz (by decide) (by rw[se];decide)) ⟨hx,hA,λh' tk' e hx'=>?_⟩)|wp_step))
 obtain⟨t',u',he⟩:=hx'.there;show wa _ _ (getattributeRaised _ _ _ _ _ _ _) _ _ _;unfold getattributeRaised
 repeat (any_goals (first|assumption|wp_step))
 exact h h' tk' hx'.keeps
theorem Rr{l:ca}{items:Array Fa}{n0:Nat}{kvs:List (KK×Fa)}(hh:A.handled=none)(hx:s.heap.get? l=some o)(hc:o.cls=.type "list")(hdat:o.data=.seq items n0)(hd:o.dict=none)(hn:kvs.length=items.size)(hsz:items.size<=sizeLine)(hv:∀ (i:Nat) (v:Fa),items[i]? =some v->∃ t key k val,v=Value.ref t/\kvs[i]? =some (k,val)/\knd.is k key=true/\IsTup s.heap t #[key,val])(h:∀ h' tk,h'.DictOf knd s.heap.objs.size (merged [] kvs)->(∀ b o,s.heap.get? b=some o->h'.get? b=some o)->Q (.ref s.heap.objs.size) {s with heap:=h',toks:=tk}):
  wa (pb prog w) A (call (.type "dict") [.ref l]) Q E s:=by
 refine callType_codes (Q₁:=λobj s₁=>obj=.ref s.heap.objs.size/\s₁= {s with heap:=s.heap.push {cls:=.type "dict",data:=.dict #[]}}) F.kt_called_dict (F.kt_typeCall_dict_1 _) F.entry_dict_init (kt_code_dict_new _ ⟨rfl,rfl⟩) ?_;rintro obj s₁ ⟨rfl,rfl⟩;have hnew:(s.heap.push {cls:=.type "dict",data:=.dict #[]}).DictOf knd s.heap.objs.size []:=Heap.DictOf.new s.heap;have hx':=ja {cls:=.type "dict",data:=.dict #[]} hx;have z1:(s.heap.push {cls:=.type "dict",data:=.dict #[]}).objs.size=s.heap.objs.size+1:=sk ..;have k1:∀ b o,s.heap.get? b=some o->(s.heap.push {cls:=.type "dict",data:=.dict #[]}).get? b=some o:=λb o e=>ja _ e;generalize (s.heap.push {cls:=.type "dict",data:=.dict #[]})=h1 at hnew hx' z1 k1 ⊢;refine⟨hnew.typeIs,F.args_dict_init_2 _ _,?_⟩;unfold kj.«dict.__init__»;refine Da ?_;unfold Builtin.Dict.selfAndRest;refine Da (wpAny_notOrdered_dict hnew.typeIs ?_);show wa _ _ (pure (s.heap.objs.size,[Value.ref l])) _ _ _;refine ia ?_;show wa _ _ (dv "dict.__init__" s.heap.objs.size (.ref l) [] .none) _ _ _;unfold dv;have hT:Shared.TypeIs {s with heap:=h1} (.ref l) "list":=⟨_,hx',hc⟩
 refine Da (rm hT ?_);rw[if_pos (by decide)];refine Da (ZH (s:= {s with heap:=h1}) hx' hc hdat hd hh λh2 tk2 k2=>?_);rw[if_pos (show(none:Option Fa).isNone=true from rfl)];refine Da (dq ?_);have hl2:h2.IsList l items:=⟨o,k2 _ _ hx',hc,n0,hdat⟩
 refine Da (xp (s:= {s with heap:=h2,toks:=tk2}) hl2 ?_)
 have lS:s.heap.objs.size<h2.objs.size:=by
  obtain⟨ob,_,_,hg,_⟩:=hnew;exact qd (k2 _ _ hg)
 have ll:l<s.heap.objs.size:=qd hx
 have hS2:h2.DictOf knd s.heap.objs.size []:=by
  obtain⟨ob,es,ep,hg,r⟩:=hnew;exact⟨ob,es,ep,k2 _ _ hg,r⟩
 have hlI:l≠h2.objs.size:=Re (On ll lS);have W:=(Walks.list (prog:=prog) (w:=w) (A:=A.in1.in1) (show A.in1.in1.handled=none from hh) h2.objs.size l hlI items).toS;refine ia ⟨bn Ki _,?_⟩;refine PR (knd:=knd) (A:=A.in1) W s.heap.objs.size ?_ s.heap ?_ kvs hn hsz (λi v pv=>hv i v pv) items.size 0 _ (by omega) (vh _) ?_ ?_ ?_ ?_
 .simp only[zc,pf,or_false,not_or];exact⟨Re lS,xm ll⟩
 .intro b hb;simp only[zc,pf,or_false]at hb;rcases hb with rfl|rfl
  .exact jd _
  .exact rl lS
 .exact⟨⟨_,yc _ rfl,rfl,rfl⟩,⟨o,ja _ (k2 _ _ hx'),hc,n0,hdat⟩⟩
 .exact λb o e=>ja _ (k2 _ _ (k1 _ _ e))
 .obtain⟨ob,es,ep,hg,r⟩:=hS2;exact⟨ob,es,ep,ja _ hg,r⟩
 .intro s' mv hS;obtain⟨h',g',d',tk',os'⟩:=s';have eg:g'=s.gens:=mv.gens;have ed:d'=s.drawn:=mv.drawn;have eo:os'=s.os:=mv.os;subst eg ed eo;refine⟨rfl,h h' tk' hS λb ob e=>mv.heap b ob ?_ (ja _ (k2 _ _ (k1 _ _ e)))⟩;have hb:=qd e;simp only[zc,pf,or_false,not_or];exact⟨Re hb,Re (On hb lS)⟩
end
def Rg(l:List (Hb×α)):List (Hb×α):=l.foldl (λacc p=>Og acc p.1 p.2) []
theorem PM(r:KV kvs vs):KV (Rg kvs) (merged [] vs):=by
 have go:∀ {kvs:List (Hb×V)} {vs:List (Hb×Fa)},KV kvs vs->∀ {a:List (Hb×V)} {b:List (Hb×Fa)},KV a b->KV (kvs.foldl (λacc p=>Og acc p.1 p.2) a) (vs.foldl (λacc kv=>stored acc kv.1 kv.2) b):=by
  intro kvs vs r;unfold KV at r
  induction r with
  |nil=>intro a b h;exact h
  |@cons p q ps qs h t ih=>
   intro a b hab;obtain⟨h1,h2⟩:=h;rw[cj,cj,<-h1];exact ih (QM hab p.1 h2)
 exact go r .nil
theorem HasP.merge(h:HasP K W H l kvs):HasP K W H (Rg l) (Rg kvs):=by
 have go:∀ (l:List (Hb×D)) (kvs:List (Hb×V)),HasP K W H l kvs->∀ (a:List (Hb×D)) (b:List (Hb×V)),HasP K W H a b->HasP K W H (l.foldl (λacc p=>Og acc p.1 p.2) a) (kvs.foldl (λacc p=>Og acc p.1 p.2) b):=by
  intro l
  induction l with
  |nil=>
   intro kvs h a b hab;obtain⟨h1,_⟩:=h;cases kvs with
   |nil=>exact hab
   |cons _ _=>cases h1
  |cons p l ih=>
   intro kvs h a b hab;obtain⟨v,r,rfl,h1,h2⟩:=h.cons;exact ih r h2 _ _ (hab.put p.1 h1)
 exact go l kvs h [] [] HasP.nil
theorem RC(l:List (Hb×α)):(Rg l).length<=l.length:=by
 have go:∀ (l a:List (Hb×α)),(l.foldl (λacc p=>Og acc p.1 p.2) a).length<=a.length+l.length:=by
  intro l
  induction l with
  |nil=>intro a;simp
  |cons p l ih=>
   intro a;have h1:=ih (Og a p.1 p.2);have h2:=AB a p.1 p.2;rw[cj,ba];omega
 have:=go l [];simpa [Rg] using this
section
variable {p:vg}
def PairsAt(K:td)(H:Hp):List V->List (Hb×V)->Prop
 | [],kvs=>kvs= []
 |x::xs,kvs=>∃ t k v r,x=.ref t/\kvs=(k,v)::r/\SqT K H t [kV k,v]/\PairsAt K H xs r
theorem PairsAt.len:∀ {xs:List V} {kvs:List (Hb×V)},PairsAt K H xs kvs->xs.length=kvs.length
 | [],_,h=>by rw[show _= [] from h];rfl
 |x::xs,_,h=>by
  obtain⟨t,k,v,r,_,rfl,_,h⟩:=h;rw[ba,ba,h.len]
theorem Mv{pins:List (ca×ki)}{σ:L2.St}{H:Hp}{s:Shared}(I:Inv X pins σ H s):∀ {xs:List V} {its:List Fa} {kvs:List (Hb×V)},PairsAt X.K H xs kvs->Vals xs its->
  ∃ vs:List (Hb×Fa),KV kvs vs/\∀ (i:Nat) (v:Fa),its[i]? =some v->∃ t key k val,v=Value.ref t/\vs[i]? =some (k,val)/\(Gc X.prog X.w).is k key=true/\IsTup s.heap t #[key,val]
 | [],its,kvs,h,r=>by
  cases r;rw[show kvs= [] from h];exact⟨[],.nil,λi v e=>by simp at e⟩
 |x::xs,its,kvs,h,r=>by
  obtain⟨t,k,v,rr,rfl,rfl,sq,h⟩:=h;cases r with
  |@cons _ u _ us r1 r2=>
   cases (show u=Value.ref t from r1);obtain⟨vs,e1,e2⟩:=Mv I h r2;obtain⟨ys,ry,py,_⟩:=I.tuple sq;cases ry with
   |@cons _ key _ _ q1 q2=>
    cases q2 with
    |@cons _ val _ _ q3 q4=>
     cases q4;refine⟨(k,val)::vs,.cons ⟨rfl,q3⟩ e1,λi w hw=>?_⟩;cases i with
     |zero=>cases hw;exact⟨t,key,k,val,rfl,rfl,Wo q1,py⟩
     |succ i=>exact e2 i w (by simpa using hw)
theorem NB(hc:X.calm=true):Di X (.type "dict") (λxs H Q=>∃ (l:ca) (ys:List V) (kvs:List (Hb×V)),xs= [.ref l]/\SqL X.K H l ys/\PairsAt X.K H ys kvs/\∀ n o,H n=none->Q (.ref n) (Pb H n (.frz o (.dK (Rg kvs))))):=by
 intro pins s σ H xs us Q I r h;obtain⟨l,ys,kvs,rfl,hq,hp,q⟩:=h;obtain⟨u,rfl,ru⟩:=vals1 r;cases ru;obtain⟨its,rv,⟨ob,n0,e,hcl,hd,hs⟩,hz⟩:=I.list hq;obtain⟨vs,kv,hv⟩:=Mv I hp rv;have hl1:=hp.len;have hl2:=rv.length;have hl3:=Wh kv
 have big:Tl<s.heap.objs.size:=by
  have h:jb<s.heap.objs.size:=(I.mod.glob.keeps I.bk).lt;exact On (by decide) h
 refine Rr (knd:=Gc X.prog X.w) (kvs:=vs) (I.ok.hd hc) e hcl hs hd (by simp;omega) (by simp;omega) (λi v hw=>hv i v (by simpa using hw)) λh' tk dd kk=>?_;obtain⟨ob',es,ep,ho',rr⟩:=id dd;refine⟨.ref s.heap.objs.size,_,I.laid (a:=s.heap.objs.size) (o:=.frz ob' (.dK (Rg kvs))) (t':=tk) kk (jd _) ⟨ho',?_,beq_eq_false_iff_ne.mpr (qk (Re big)),_,PM kv,dd⟩,rfl,q _ ob' I.fresh⟩;have:=RC kvs;omega
def Lj:List D->Option (List (Hb×D))
 | []=>some []
 | .tup [k,v]::ds=>match Lz k,Lj ds with
  |some kk,some l=>some ((kk,v)::l)
  |_,_=>none
 |_=>none
theorem Lv{K:td}{W:WS}{H:Hp}:∀ {ds:List D} {l:List (Hb×D)} {xs:List V},Lj ds=some l->HasL K W H ds xs->∃ kvs,PairsAt K H xs kvs/\HasP K W H l kvs
 | [],l,xs,e,h=>by
  cases e;rw[HasL]at h
  subst h;exact⟨[],rfl,HasP.nil⟩
 |d::ds,l,xs,e,h=>by
  unfold Lj at e;split at e
  .rename_i h1;cases h1
  .rename_i k v ds' h1;cases h1;split at e
   .rename_i kk l' e1 e2;cases e;rw[HasL]at h
    obtain⟨x,r,rfl,g1,g2⟩:=h;obtain⟨kvs,p1,p2⟩:=Lv e2 g2;rw[Has]at g1
    obtain⟨t,ys,rfl,sq,hy⟩:=g1;rw[HasL]at hy
    obtain⟨y1,r1,rfl,hk,hy⟩:=hy;rw[HasL]at hy
    obtain⟨y2,r2,rfl,hv,hy⟩:=hy;rw[HasL]at hy
    subst hy;have:=Ij (.inl hk) e1;subst this;exact⟨(kk,y2)::kvs,⟨t,kk,y2,kvs,rfl,rfl,sq,p1⟩,HasP.mk hv p2⟩
   .cases e
  .cases e
def Qg:D->Res D
 | .lst ds=>match Lj ds with
  |some l=>.ok (.dct ((Rg l).map (·.1)) ((Rg l).map (·.2)))
  |none=>.stuck
 |_=>.stuck
theorem Er(hc:X.calm=true)(hm:X.mg "dict"=none)(ha:XP X xw a fa)(hg:Gl X "dict":=by rfl)(he:aa [a] X.env=(false,eval a X.env)::aa [] X.env:=by rfl)(hpl:(zd pos (aa [] X.env)).any (·.1)=false:=by rfl):
  XE X xw (.Call (.Name "dict" p) [a] [] pos) (b1 Qg fa):=
 ⟨Ro (NB hc) (λW H d v Q w hv q=>by
  unfold Qg at q;split at q
  .split at q
   .rename_i l hl;obtain⟨ad,xs,e1,sq,r⟩:=hv.lst;obtain⟨kvs,p1,p2⟩:=Lv hl r;refine⟨ad,xs,kvs,by rw[e1],sq,p1,λn o hn=>q _ _ (Ec hn) ?_⟩;have m:=(p2.merge).same (Ec (o:=.frz o (.dK (Rg kvs))) hn) w;rw[Has];exact⟨n,Rg kvs,rfl,⟨o,Ta⟩,m.1,m.2⟩
   .exact q.elim
  .exact q.elim) hm (by decide +kernel) ha.h hg (by decide) (by decide) he hpl⟩
end
variable{Q:VK}{ad:ca}
theorem BB(r:KV kvs vs)(k:Hb):(cw vs k).isSome=(Fc kvs k).isSome:=by
 cases h:Fc kvs k with
 |none=>rw[(Yo r k).2 h];rfl
 |some v=>obtain⟨u,e,_⟩:=(Yo r k).1 v h;rw[e];rfl
theorem R1:OpR X (zh .In) (λy x H Q=>∃ ad kvs k,x=.ref ad/\Rd H ad (.dK kvs)/\y=kV k/\Q (.bl (Fc kvs k).isSome) H):=by
 intro pins s σ H y x u v Q I ry rx h;obtain⟨ad,kvs,k,rfl,hd,rfl,q⟩:=h;cases rx;obtain⟨_,hS,vs,rel,dd⟩:=Fq I.hok hd;refine wpAny_in_of (Wo ry) hS dd.mapOf ?_;exact⟨.bl (Fc kvs k).isSome,H,I.tok _,by rw[<-BB rel k];rfl,q⟩
theorem QU:OpR X (zh .NotIn) (λy x H Q=>∃ ad kvs k,x=.ref ad/\Rd H ad (.dK kvs)/\y=kV k/\Q (.bl (!(Fc kvs k).isSome)) H):=by
 intro pins s σ H y x u v Q I ry rx h;obtain⟨ad,kvs,k,rfl,hd,rfl,q⟩:=h;cases rx;obtain⟨_,hS,vs,rel,dd⟩:=Fq I.hok hd;refine wpAny_notIn_of (Wo ry) hS dd.mapOf ?_;exact⟨.bl (!(Fc kvs k).isSome),H,I.tok _,by rw[<-BB rel k];rfl,q⟩
def Js(d:D)(l:List (Hb×D)):Res D:=match Lz d with
 |some k=>.ok (.bl (Fc l k).isSome)
 |none=>.stuck
def Jv(d:D)(l:List (Hb×D)):Res D:=match Lz d with
 |some k=>.ok (.bl (!(Fc l k).isSome))
 |none=>.stuck
def Ey(op:D->List (Hb×D)->Res D)(f:Ca->Res D)(g:Ca->Res (List (Hb×D))):Ca->Res D:=λδ=>(f δ).bind λd=>(g δ).bind λl=>op d l
theorem Cz{op:D->List (Hb×D)->Res D}{R:V->V->Hp->Prop}(st:StHas X.K W₀ H₀ W H σ δ)(q:RE X.K xw W H (Ey op fa fq δ) Q)(h:∀ H2 d l v ad kvs,Same H H2->HasT X.K W H2 d v->Rd H2 ad (.dK kvs)->HasP X.K W H2 l kvs->RE X.K xw W H2 (op d l) Q->R v (.ref ad) H2):
  FQ X.K xw fa σ H λx H1=>tDQ X.K xw fq σ H1 λy H2=>R x y H2:=by
 refine⟨W₀,H₀,W,δ,st,?_⟩;unfold Ey at q;cases h1:fa δ with
 |stuck=>rw[h1]at q;exact q
 |ex c fs=>rw[h1]at q;exact q
 |ok d=>
  rw[h1]at q
  intro v H1 k1 hv;refine⟨W₀,H₀,W,δ,st.same k1,?_⟩;have q':RE X.K xw W H ((fq δ).bind λl=>op d l) Q:=q;cases h2:fq δ with
  |stuck=>rw[h2]at q';exact q'
  |ex c fs=>rw[h2]at q';exact λH2 k2=>q' H2 (k1.trans k2)
  |ok l=>
   rw[h2]at q'
   intro ad kvs H2 k2 hd hp;exact h H2 d l v ad kvs (k1.trans k2) (hv.same k2 (st.fr.wl.same k1)) hd hp (RE.same q' (k1.trans k2))
theorem Sv(h:HasP K W H l kvs)(k:Hb):(Fc kvs k).isSome=(Fc l k).isSome:=by
 rw[<-Wl,<-Wl,h.has k]
theorem YS(hv:HasT X.K W H d v)(hd:Rd H ad (.dK kvs))(hp:HasP X.K W H l kvs)(q:RE X.K xw W H (Js d l) Q):
  ∃ ad' kvs' k,V.ref ad=.ref ad'/\Rd H ad' (.dK kvs')/\v=kV k/\Q (.bl (Fc kvs' k).isSome) H:=by
 unfold Js at q;split at q
 .rename_i k hk;exact⟨ad,kvs,k,rfl,hd,Ij hv hk,by rw[Sv hp k];exact q.bl⟩
 .exact q.elim
theorem JN(hv:HasT X.K W H d v)(hd:Rd H ad (.dK kvs))(hp:HasP X.K W H l kvs)(q:RE X.K xw W H (Jv d l) Q):
  ∃ ad' kvs' k,V.ref ad=.ref ad'/\Rd H ad' (.dK kvs')/\v=kV k/\Q (.bl (!(Fc kvs' k).isSome)) H:=by
 unfold Jv at q;split at q
 .rename_i k hk;exact⟨ad,kvs,k,rfl,hd,Ij hv hk,by rw[Sv hp k];exact q.bl⟩
 .exact q.elim
theorem LG(ha:XP X xw a fa)(hb:XQ X xw b fq)(hm:bh .In b=false:=by rfl):XT X xw (.Compare a [.In] [b] pos) (tR (Ey Js fa fq)):=
 ⟨DE.t_of (f:=Ey Js fa fq) (PT.weak (Eo R1 ha.h hb.h hm) λσ H Q ⟨W₀,H₀,W,δ,st,q⟩=>Cz st q λH2 d l v ad kvs k hv hd hp q2=>YS hv hd hp q2)⟩
theorem R4(ha:XP X xw a fa)(hb:XQ X xw b fq)(hm:bh .NotIn b=false:=by rfl):XT X xw (.Compare a [.NotIn] [b] pos) (tR (Ey Jv fa fq)):=
 ⟨DE.t_of (f:=Ey Jv fa fq) (PT.weak (Eo QU ha.h hb.h hm) λσ H Q ⟨W₀,H₀,W,δ,st,q⟩=>Cz st q λH2 d l v ad kvs k hv hd hp q2=>JN hv hd hp q2)⟩
structure FunD(K:td)(x qual:xa)(st:sf)(f:ca)(fd:wf)(dV:Fa):Prop where
 ex:∃ (oc:Fa) (od:Option ca) (kV doc pm:Fa) (an:Option ca) (cdv ct:Fa) (osl:Array (Option Fa)),
  fd=fnOf x qual (Hi st) (Ad st) (Pa st) dV kV doc pm an cdv ct/\K.lookup f=some ⟨oc,od,.func fd,osl⟩/\rh K cdv qual=true
 kp:mf K (.ref f)=true
section
variable {p:vg}
end
structure FnL(P:ic)(w:vd)(K:td)(mg:xa->Option Fa)(base:ke)(k:Nat)(x:xa)(n:Nat)(m:List D->Res D)(i:Int):Prop where
 ex:∃ (fa:ca) (fd:wf) (ps:List xa) (v0:Fa),FnOk P w K mg base Oo k fa fd ps (VX K n m)/\mg x=some (.ref fa)/\mf K (.ref fa)=true/\Binds K fd ps [v0]/\RelV (.int i) v0
end L3
namespace PySem
open Sem (wp)
def D2(o o':ki):Prop:=o'.dict=o.dict/\∀ vs,o.data=.fields vs->∃ vs',o'.data=.fields vs'/\vs'[2]? =vs[2]?
theorem D2.refl(o:ki):D2 o o:=⟨rfl,λvs e=>⟨vs,e,rfl⟩⟩
theorem D2.trans{a b c:ki}(x:D2 a b)(y:D2 b c):D2 a c:=⟨y.1.trans x.1,λvs e=>by
 obtain⟨v1,e1,q1⟩:=x.2 vs e;obtain⟨v2,e2,q2⟩:=y.2 v1 e1
 exact⟨v2,e2,q2.trans q1⟩⟩
def DK(h h':ke):Prop:=∀ b o,h.get? b=some o->∃ o',h'.get? b=some o'/\D2 o o'
theorem DK.refl(h:ke):DK h h:=λ_ o e=>⟨o,e,D2.refl o⟩
theorem DK.trans{h1 h2 h3:ke}(x:DK h1 h2)(y:DK h2 h3):DK h1 h3:=λb o e=>
 let ⟨o1,e1,d1⟩:=x b o e;let ⟨o2,e2,d2⟩:=y b o1 e1
 ⟨o2,e2,d1.trans d2⟩
theorem DK.push(h:ke)(o:ki):DK h (h.push o):=λb u e=>⟨u,ja o e,D2.refl u⟩
theorem DK.upd(h:ke)(a:ca)(f:ki->ki)(hd:∀ o,h.get? a=some o->D2 o (f o))(hf:∀ o,h.get? a=some o->(f o).isFreed=false):DK h (h.update a f):=λb u e=>by
 by_cases hb:a=b
 .subst hb;exact⟨f u,uj f e (hf u e),hd u e⟩
 .exact⟨u,(il h f hb).trans e,D2.refl u⟩
structure KeepD{α:Type}(t:Sem α):Prop where
 out:∀ (M:Model) (Γ:Ctx) (P:α->vg->Shared->Prop) (Ee:Fa->vg->Shared->Prop) (p:vg) (s:Shared),wp M Γ t P Ee p s->wp M Γ t (λa p' s'=>P a p' s'/\DK s.heap s'.heap) Ee p s
namespace KeepD
variable {α β:Type}
theorem now(a:α):KeepD (Pure.pure a:Sem α):=⟨λ_ _ _ _ _ _ h=>⟨h,DK.refl _⟩⟩
theorem off(w:String):KeepD (PySem.unsupported w:Sem α):=⟨λ_ _ _ _ _ _ h=>h⟩
theorem seq{m:Sem α}{f:α->Sem β}(hm:KeepD m)(hf:∀ a,KeepD (f a)):KeepD (m >>= f):=⟨λM Γ P Ee p s h=>by
 rw[Sem.wp_bind']at h ⊢
 refine Sem.wp_mono M Γ m (λa p1 s1 h1=>?_) (λ_ _ _ x=>x) p s (hm.out M Γ _ Ee p s h)
 exact Sem.wp_mono M Γ (f a) (λb p2 s2 h2=>⟨h2.1,h1.2.trans h2.2⟩) (λ_ _ _ x=>x) p1 s1 ((hf a).out M Γ P Ee p1 s1 h1.1)⟩
theorem cond{c:Prop}[Decidable c]{t u:Sem α}(ht:KeepD t)(hu:KeepD u):KeepD (if c then t else u):=by split<;>assumption
theorem ld(a:ca):KeepD (PySem.load a):=⟨λM Γ P Ee p s h=>by
 unfold PySem.load at h ⊢;rw[Sem.wp_load]at h ⊢
 obtain⟨o,e,q⟩:=h;rw[vo]at q
 exact⟨o,e,by rw[vo];exact⟨q,DK.refl _⟩⟩⟩
theorem up(a:ca)(f:ki->ki)(hd:∀ o,(f o).dict=o.dict)(he:∀ o,(f o).data=o.data):KeepD (PySem.update a f):=⟨λM Γ P Ee p s h=>by
 unfold PySem.update at h ⊢;rw[Sem.wp_update]at h ⊢
 obtain⟨e,q⟩:=h;rw[vo]at q
 refine⟨e,?_⟩;rw[vo];refine⟨q,DK.upd _ _ _ (λo _=>⟨hd o,λvs e=>⟨vs,(he o).trans e,rfl⟩⟩) λo ho=>?_⟩;have al:=((Heap.get?_eq_some _ _ _).1 ho).2;have h1:=he o;revert h1;generalize f o=u;intro h1;obtain⟨c1,d1,t1,s1⟩:=u;obtain⟨c2,d2,t2,s2⟩:=o;dsimp only at h1;subst h1
 cases t1<;>first|rfl|cases al⟩
theorem stk:KeepD PySem.stack:=⟨λM Γ P Ee p s h=>by
 unfold PySem.stack at h ⊢;rw[Sem.wp_stack]at h ⊢
 rw[vo]at h ⊢
 exact⟨h,DK.refl _⟩⟩
theorem new(o:ki):KeepD (PySem.alloc o):=⟨λM Γ P Ee p s h=>by
 unfold PySem.alloc at h ⊢;rw[Sem.wp_alloc,vo]at h ⊢
 exact⟨h,DK.push _ _⟩⟩
theorem fld(v:Fa)(i:Nat):KeepD (PySem.field v i):=⟨λM Γ P Ee p s h=>by
 rw[wp_field_iff]at h ⊢
 obtain⟨a,o,vs,x,e1,e2,e3,e4,q⟩:=h
 exact⟨a,o,vs,x,e1,e2,e3,e4,q,DK.refl _⟩⟩
theorem put(v:Fa)(i:Nat)(x:Fa)(hi:i≠2):KeepD (PySem.setField v i x):=⟨λM Γ P Ee p s h=>by
 rw[wp_setField_iff]at h ⊢
 obtain⟨a,o,vs,e1,e2,e3,e4,q⟩:=h;refine⟨a,o,vs,e1,e2,e3,e4,q,DK.upd _ _ _ (λu hu=>⟨?_,λws ew=>⟨_,zn ew _,?_⟩⟩) λu hu=>?_⟩
 .unfold Obj.mapFields;split<;>rfl
 .exact Array.getElem?_setIfInBounds_ne hi
 .rw[e2]at hu;cases hu
  exact Obj.isFreed_of_fields (zn e3 _)⟩
end KeepD
local macro_rules| `(tactic| walk_at "keepd")=> `(tactic| repeat' with_reducible first
  |assumption
  |exact KeepD.now _
  |exact KeepD.off _
  |exact KeepD.fld _ _
  |exact KeepD.put _ _ _ (by decide)
  |exact KeepD.ld _
  |exact KeepD.stk
  |exact KeepD.new _
  |exact KeepD.up _ _ (λ_=>rfl) (λ_=>rfl)
  |apply KeepD.cond
  |apply KeepD.seq
  |intro _
  |split)
theorem M0(env:tu)(outer:List tu):KeepD (behindIsImport env outer):=by
 unfold behindIsImport
 walk_at "keepd"
theorem WH:KeepD underTheClaimsCaller:=by
 unfold underTheClaimsCaller
 walk_at "keepd"
theorem OT(env:tu)(i:Bool)(l:List tu):KeepD (keptBack env i l):=by
 have:=WH;cases l<;>unfold keptBack<;>walk_at "keepd"
theorem Kz:∀ l:List tu,KeepD (readyFrames l)
 | []=>KeepD.now _
 |env::outer=>by
  have r:=Kz outer;have a:=M0 env outer;have b:=λi=>OT env i outer;unfold readyFrames
  walk_at "keepd"
  all_goals first|exact b _|skip
theorem LM(l:List tu):KeepD (frameObject l):=by
 cases l with
 |nil=>exact KeepD.now _
 |cons env outer=>
  have r:=Kz (env::outer);unfold frameObject
  walk_at "keepd"
theorem J6(env:tu):KeepD (frameOf env):=by
 have a:KeepD frameEnvs:=by unfold frameEnvs;walk_at "keepd"
 have b:=LM;unfold frameOf
 walk_at "keepd"
 all_goals first|exact b _|skip
theorem MM(f:ca)(b:Bool):KeepD (entryPlaceOf f b):=by
 unfold entryPlaceOf
 walk_at "keepd"
theorem JM(a b c d e:Fa)(l:List Fa):KeepD (EntryCells.newEntry a b c d e l):=by
 unfold EntryCells.newEntry newFields newObj newObjAsIs;dsimp only
 walk_at "keepd"
theorem QT(e:Fa)(env:tu):KeepD (uo e env):=by
 have a:=J6 env;have b:=MM;have c:=JM;unfold uo
 walk_at "keepd"
 all_goals first|exact b _ _|exact c _ _ _ _ _ _|skip
theorem Fv(e:Fa)(f:Option ca):KeepD (jq e f):=by
 unfold jq
 walk_at "keepd"
variable{α:Type}{M:Model}{A:je}{E:Fa->Shared->Prop}{s:Shared}
theorem KeepD.anyK{t:Sem α}(k:KeepD t){Q:α->Shared->Prop}(h:wa M A t Q E s):wa M A t (λv s'=>Q v s'/\DK s.heap s'.heap) E s:=
 λΓ p hΓ=>k.out M Γ _ _ p s (h Γ p hΓ)
theorem KeepD.thn{t:Sem α}(k:KeepD t){Q Q':α->Shared->Prop}(h:wa M A t Q E s)(g:∀ v s',Q v s'->DK s.heap s'.heap->Q' v s'):wa M A t Q' E s:=
 af (KeepD.anyK k h) (λv s' q=>g v s' q.1 q.2) λ_ _ z=>z
end PySem
namespace L3
open PySem PySem.Spec PyProof.Rows L2 SeqAt
def DcOk(dx:Dx)(o:ki):Prop:=o.dict=dx.1/\(dx.2=true->∃ vs,o.data=.fields vs/\vs[2]? =some .none)
variable{dx:Dx}{o:ki}
theorem DcOk.to{o':ki}(h:DcOk dx o)(d:D2 o o'):DcOk dx o':=⟨d.1.trans h.1,λz=>by
 obtain⟨vs,e,q⟩:=h.2 z;obtain⟨vs',e',q'⟩:=d.2 vs e
 exact⟨vs',e',q'.trans q⟩⟩
structure Fly(P:ic)(w:vd)(l:List tu)(H:Hp)(s:Shared)(H':Hp)(a:ca)(cls:Fa)(dx:Dx)(h:ke):Prop where
 un:Un (Zp l) [] H H' s.heap h
 hok:HOk P w H' h
 frf:∀ b∈Zp l,H' b=none
 new:s.heap.get? a=none
 nh:H' a=none
 dc:∃ o,h.get? a=some o/\DcOk dx o
 fl:∃ B a0,dw B l a cls a0 h/\∀ b,b∉Zp l->((H' b).isSome=true\/(s.heap.get? b).isSome=true)->(B.get? b).isSome=true
variable{P:ic}{w:vd}{H H':Hp}{s:Shared}{a b:ca}{cls a0:Fa}{h h' B:ke}
section
variable {l:List tu}
theorem Wn(cov:∀ b,b∉Zp l->((H' b).isSome=true\/(s.heap.get? b).isSome=true)->(B.get? b).isSome=true)(s1:B.StaysIn h)(s2:B.StaysIn h')(hb:b∉Zp l)(q:(H' b).isSome=true\/(s.heap.get? b).isSome=true):h'.get? b=h.get? b:=by
 obtain⟨o,e⟩:=ym.mp (cov b hb q);rw[s1 b o e,s2 b o e]
theorem Zu(f:dw B l a cls a0 h)(up:h.UpToSlots h')(hb:b∈Zp l)(e:h.get? b=some o):∃ sl,h'.get? b=some {o with slots:=sl}:=by
 obtain⟨_,o',e',nf⟩:=f.2.2.1.mem hb;rw[e]at e'
 cases e';exact up b o e nf
theorem ZZ(un:Un (Zp l) [] H H' s.heap h)(cov:∀ b,b∉Zp l->((H' b).isSome=true\/(s.heap.get? b).isSome=true)->(B.get? b).isSome=true)(f:dw B l a cls a0 h)(s2:B.StaysIn h')(up:h.UpToSlots h'):Un (Zp l) [] H H' s.heap h' where
 keep:=λb o e n hb hx=>(Wn cov f.1 s2 hb (.inr (by rw[e];rfl))).trans (un.keep b o e n hb hx)
 slot:=λb o e n hb hx=>by
  obtain⟨sl,e1⟩:=un.slot b o e n hb hx;obtain⟨sl',e2⟩:=Zu f up hb e1;exact⟨sl',e2⟩
 free:=un.free
 there:=λb o e hx=>by
  obtain⟨o',e1⟩:=un.there b o e hx;by_cases hb:b∈Zp l
  .obtain⟨sl,e2⟩:=Zu f up hb e1;exact⟨_,e2⟩
  .exact⟨o',(Wn cov f.1 s2 hb (.inr (by rw[e];rfl))).trans e1⟩
 tups:=un.tups
 frzs:=un.frzs
 tbls:=un.tbls
theorem JS(hok:HOk P w H' h)(frf:∀ b∈Zp l,H' b=none)(cov:∀ b,b∉Zp l->((H' b).isSome=true\/(s.heap.get? b).isSome=true)->(B.get? b).isSome=true)(s1:B.StaysIn h)(s2:B.StaysIn h'):HOk P w H' h':=λb u e=>by
 have tr:∀ c v,H' c=some v->c∉Zp l:=λc v q z=>by rw[frf c z]at q;cases q
 refine(hok b u e).stay (λc v hc q=>?_) (λ_ q=>q) λ_ _ q=>q;rcases hc with rfl|hc
 .exact(Wn cov s1 s2 (tr c u e) (.inl (by rw[e];rfl))).trans q
 .exact(Wn cov s1 s2 (tr c _ hc) (.inl (by rw[hc];rfl))).trans q
end
def J8(P:ic)(w:vd):EB:=λl H s E e s'=>∃ a cls dx H',e=.ref a/\s'.os=s.os/\am s'.gens/\Fly P w l H s H' a cls dx s'.heap/\E cls dx H'
variable{X:Cx}{pins:List (ca×ki)}{σ:L2.St}{s':Shared}{M:Model}{Ex:Fa->Shared->Prop}
theorem Bv(I:Inv X pins σ H s)(os:s'.os=s.os)(bare:am s'.gens)(x:Fly X.prog X.w X.stack H s H' a cls dx s'.heap):Inv X pins σ H' s':=
 I.call' (ch:= []) os x.un x.hok bare λb z=>absurd z (by simp)
def T8(K:td)(n:Nat)(m:List D->Res D):Sp:=λvs H Q E=>vs.length=n/\∃ W ds,WL W H/\HasL K W H ds vs/\match m ds with
 | .ok d=>∀ v H',Same H H'->Has K W H' d v->Q v H'
 | .ex c fs=>∀ cls dx H',kl K jb c=some (some cls)->Same H H'->ExF H' dx fs->E cls dx H'
 | .stuck=>False
structure FnX(P:ic)(w:vd)(K:td)(mg:xa->Option Fa)(base:ke)(k:Nat)(x:xa)(n:Nat)(m:List D->Res D):Prop where
 ex:∃ f fd ps,FnOk P w K mg base (J8 P w) k f fd ps (T8 K n m)/\mg x=some (.ref f)/\mf K (.ref f)=true/\Binds K fd ps []
variable{K:td}{mg:xa->Option Fa}{base:ke}{k:Nat}{x:xa}{m:List D->Res D}
theorem FnX.mono{j n:Nat}(F:FnX P w K mg base j x n m)(h:j<=k):FnX P w K mg base k x n m:=by
 obtain⟨f,fd,ps,a,b⟩:=F.ex;exact⟨f,fd,ps,a.mono h,b⟩
structure FnXL(P:ic)(w:vd)(K:td)(mg:xa->Option Fa)(base:ke)(k:Nat)(x:xa)(n:Nat)(m:List D->Res D)(i:Int):Prop where
 ex:∃ (fa:ca) (fd:wf) (ps:List xa) (v0:Fa),FnOk P w K mg base (J8 P w) k fa fd ps (T8 K n m)/\mg x=some (.ref fa)/\mf K (.ref fa)=true/\Binds K fd ps [v0]/\RelV (.int i) v0
variable{a e:qc}{xw:XW}{es:List qc}{pos:vg}{st:sf}{sts:List sf}{g:Ca->Out}
section
variable {f:Ca->Res D}{ga:Ca->Res Bool}{fs:Ca->Res (List D)}{p:vg}
def Hm(n:Nat)(m:List D->Res D)(ds:List D):Res D:=if ds.length=n then m ds else .stuck
end
abbrev bmV:List Fa:= [.type "ValueError",.type "Exception",.type "BaseException",.type "object"]
structure ClsX(K:td)(c:xa):Prop where
 ex:∃ C,kl K jb c=some (some (.ref C))/\PySem.W.excIn K C bmV "ValueError.__new__"=true
variable{np cpos:vg}
section
variable {fs:Ca->Res (List D)}{c:xa}
end
abbrev markX(X:Cx)(a:ca):Cx:= {X with A:=X.A.mark (some (.ref a)),calm:=false,xe:=λ_ _=>False}
abbrev YD(X:Cx)(pins:List (ca×ki))(E:Fa->Shared->Prop):Cx:= {X with pn:=X.pn++pins,xe:=E}
variable{n:xa}{i:Nat}
section
variable {a:ca}
theorem JU(ok:X.Ok)(a:ca):(markX X a).Ok:=
 ⟨ok.mod,ok.kind,ok.glob,ok.blt,ok.above,ok.inj,ok.has,ok.cab,λz=>absurd (show false=true from z) (by decide),ok.frames,ok.stk,ok.exf,ok.bs,ok.bsz,ok.noex,ok.exfs,ok.funs,ok.frf⟩
theorem Gz(I:Inv X pins σ H s)(a:ca):Inv (markX X a) pins σ H s:=⟨JU I.ok a,I.os,I.bare,I.base,I.loc,I.cell,I.free,I.freeC,I.pin,I.hok,I.len⟩
theorem Bk(ok:X.Ok)(I:Inv (markX X a) pins σ H s):Inv X pins σ H s:=⟨ok,I.os,I.bare,I.base,I.loc,I.cell,I.free,I.freeC,I.pin,I.hok,I.len⟩
theorem M1(ok:X.Ok):(YD X pins Ex).Ok:=
 ⟨ok.mod,ok.kind,ok.glob,ok.blt,ok.above,ok.inj,ok.has,ok.cab,ok.hd,ok.frames,ok.stk,ok.exf,ok.bs,ok.bsz,ok.noex,ok.exfs,ok.funs,ok.frf⟩
theorem CT(I:Inv X pins σ H s):Inv (YD X pins Ex) [] σ H s:=⟨M1 I.ok,I.os,I.bare,I.base,I.loc,I.cell,I.free,I.freeC,λp hp=>I.pin p (by simpa using hp),I.hok,I.len⟩
theorem Hj{more:List (ca×ki)}(ok:X.Ok)(I:Inv (YD X pins Ex) more σ H s):Inv X pins σ H s:=⟨ok,I.os,I.bare,I.base,I.loc,I.cell,I.free,I.freeC,λp hp=>I.pin p (oq _ hp),I.hok,I.len⟩
theorem QH{φ:ke->Prop}(I:Inv X pins σ H s)(I':Inv X pins σ H' s')(hex:X.ex= [])(new:s.heap.get? a=none)(nh:H' a=none)(x:ObjOk X.prog X.w (Pb H' a (.ext φ)) s'.heap a (.ext φ)):Inv X pins σ (Pb H' a (.ext φ)) s':=by
 have ne:∀ b o,s.heap.get? b=some o->b≠a:=λb o e z=>by rw[z,new]at e;cases e
 have ne0:∀ b o,X.s₀.heap.get? b=some o->b≠a:=λb o e=>by
  obtain⟨o',e'⟩:=I.base.there b o e (by rw[hex];simp);exact ne b o' e'
 have up:∀ b o,H' b=some o->Pb H' a (.ext φ) b=some o:=λb o e=>by rw[Ha (Ua e nh)];exact e
 refine⟨I'.ok,I'.os,I'.bare,⟨I'.base.keep,I'.base.slot,λb o e n hx=>?_,I'.base.there,λb xs e=>up _ _ (I'.base.tups b xs e),λb o u e=>up _ _ (I'.base.frzs b o u e),λb ps e=>?_⟩,I'.loc,I'.cell,?_,λy c e=>?_,λp hp=>?_,λb u e=>?_,I'.len⟩
 .rw[Ha (ne0 b o e)];exact I'.base.free b o e n hx
 .obtain⟨m,e1⟩:=I'.base.tbls b ps e;exact⟨m,up _ _ e1⟩
 .obtain⟨m,⟨o,_,_,ho,_⟩,_⟩:=I.loc;rw[Ha (ne _ o ho)];exact I'.free
 .obtain⟨v,o,ho,_⟩:=I.cell y c e;rw[Ha (ne c o ho)];exact I'.freeC y c e
 .obtain⟨e,n,r⟩:=I'.pin p hp;refine⟨e,?_,r⟩;rw[Ha (ne p.1 _ (I.pin p hp).1)];exact n
 .by_cases hb:b=a
  .subst hb;rw[Ta]at e
   cases e;exact x
  .rw[Ha hb]at e
   exact(I'.hok b u e).stay (λ_ _ _ q=>q) (λc q=>up _ _ q) λc xs q=>up _ _ q
theorem RH{t:Nat}{v:Option Fa}{m:xa->Option Fa}(I:Inv X pins σ H s)(hN:X.N.Nodup)(hi:X.N[i]? =some n)(hm:s.heap.Ns X.env.locals m)(hl:∀ (j:Nat) (x:xa) (w:V),X.N[j]? =some x->σ[j]? =some (some w)->Wx X.env.scope x->∃ u,RelV w u/\Look X.env s.heap m x u)(hn:h'.Ns X.env.locals (λx=>if x=n then v else m x))(hs:dm X.env.locals s.heap h'):Inv X pins (σ.set i none) H {s with heap:=h',toks:=t}:=by
 obtain⟨oL,_,_,hoL,_⟩:=id hm;have cne:=I.cne;refine⟨I.ok,I.os,I.bare,⟨λb o e n hb hx=>?_,λb o e n hb hx=>?_,I.base.free,λb o e hx=>?_,I.base.tups,I.base.frzs,I.base.tbls⟩,⟨_,hn,λj y w e1 e2 e3=>?_⟩,λy c e=>?_,I.free,I.freeC,λp hp=>?_,λb u e=>?_,by simpa using I.len⟩
 .exact(hs.2 b (Re (yd (qd e) I.ok.above))).trans (I.base.keep b o e n hb hx)
 .obtain⟨sl,e1⟩:=I.base.slot b o e n hb hx;exact⟨sl,(hs.2 b (Re (yd (qd e) I.ok.above))).trans e1⟩
 .obtain⟨o',e1⟩:=I.base.there b o e hx;exact⟨o',(hs.2 b (Re (yd (qd e) I.ok.above))).trans e1⟩
 .have hj:j≠i:=by
   rintro rfl;rw[di]at e2
   cases q:σ[j]? with
   |none=>rw[q]at e2;cases e2
   |some z=>rw[q]at e2;cases e2
  rw[pd (qk hj)]at e2
  obtain⟨u,r,q⟩:=hl j y w e1 e2 e3;refine⟨u,r,?_⟩;rcases q with⟨k,e⟩|⟨k,c,e,z⟩
  .have:y≠n:=λe=>hj (Us hN e1 (e▸hi));exact .inl ⟨k,by simp[this,e]⟩
  .exact .inr ⟨k,c,e,z.sameBut hs (cne y c e)⟩
 .obtain⟨w,z⟩:=I.cell y c e;exact⟨w,z.sameBut hs (cne y c e)⟩
 .obtain⟨e,n,ne,nf,d⟩:=I.pin p hp;exact⟨(hs.2 p.1 ne).trans e,n,ne,nf,d⟩
 .refine(I.hok b u e).stay (λc w' hc q=>(hs.2 c ?_).trans q) (λ_ q=>q) λ_ _ q=>q;rintro rfl;rcases hc with rfl|hc
  .rw[I.free]at e;cases e
  .rw[I.free]at hc;cases hc
theorem Sq{A:je}{Q:Unit->Shared->Prop}(I:Inv X pins σ H s)(hN:X.N.Nodup)(hi:X.N[i]? =some n)(hk:X.env.kindOf n=some .local)(h:∀ s',Inv X pins (σ.set i none) H s'->Q () s'):wa M A (do bindName X.env n .none;unbindBehindTheSuite X.env n pos) Q Ex s:=by
 obtain⟨m,hm,hl⟩:=id I.loc;have hp:(X.env.scope.kind== .class||(X.env.scope.kind== .module&&X.env.locals != X.env.globals))=false:=by rw[I.ok.kind];rfl
 exact wpAny_nameGoes_keeps hk hm hp λh' v hn hs=>h _ (RH I hN hi hm hl hn hs)
end
structure MatchX(K:td)(C c:xa):Prop where
 ex:∃ vc vC,kl K jb c=some (some vc)/\kl K jb C=some (some vC)/\exmOne K vc vC=some true
variable{b₀:sf}{suite:List sf}
section
variable {a:ca}{vC:Fa}{C:xa}{rest:List cn}{Q:Flow->Shared->Prop}
theorem Jy{R:uv->Shared->Prop}(I:Inv X pins σ H s)(hst:X.stack=X.env::X.outer)(hfr:X.env.frame=some X.env.locals)(os:s'.os=s.os)(bare:am s'.gens)(x:Fly X.prog X.w X.stack H s H' a cls dx s'.heap)(hC:Gl X C)(hm:kl X.K jb C=some (some vC))(he:exmOne X.K cls vC=some true)(hdb:(C==("__debug__":xa))=false)(k:∀ h',Fly X.prog X.w X.stack H s H' a cls dx h'->R (.ok .brk) {s' with heap:=h'}):
  im (pb X.prog X.w) (X.A.mark (some (.ref a))) (.handlers (.ref a) [.ExceptHandler (some (.Name C np)) none [] pos] X.env) R s':=by
 have I':=Gz (Bv I os bare x) a;refine codeAny_handlers_test (Uq I' hC (zk I.ok.mod.kin I.ok.mod.glob hm) ?_ hdb);obtain⟨B,a0,f,cov⟩:=x.fl;obtain⟨ob,hob,hc⟩:=f.there
 have LT:Looks (pb X.prog X.w) s'.heap (typeOf (.ref a)) cls:=by
  subst hc;exact(Looks.ld hob).andThen .now
 exact(PySem.W.exm_one I'.kIn LT he).here (k s'.heap x)
theorem Wy(x:Fly X.prog X.w X.stack H s H' a cls dx s'.heap)(f:dw B X.stack a cls a0 s'.heap)(cov:∀ b,b∉Zp X.stack->((H' b).isSome=true\/(s.heap.get? b).isSome=true)->(B.get? b).isSome=true)(f':dw B X.stack a cls a0 h')(up:s'.heap.UpToSlots h')(dk:DK s'.heap h'):Fly X.prog X.w X.stack H s H' a cls dx h':=
 ⟨ZZ x.un cov f f'.1 up,JS x.hok x.frf cov f.1 f'.1,x.frf,x.new,x.nh,(let ⟨o,e,d⟩:=x.dc;let ⟨o',e',d'⟩:=dk a o e;⟨o',e',d.to d'⟩),B,a0,f',cov⟩
theorem Iy{hs:List cn}(I:Inv X pins σ H s)(hst:X.stack=X.env::X.outer)(hfr:X.env.frame=some X.env.locals)(x:Fly X.prog X.w X.stack H s H' a cls dx s'.heap)(k:∀ h',Fly X.prog X.w X.stack H s H' a cls dx h'->wa (pb X.prog X.w) X.A (jv (.ref a) X.env hs) Q Ex {s' with heap:=h'}):
  wa (pb X.prog X.w) X.A (uo (.ref a) X.env) (λ_ s₂=>wa (pb X.prog X.w) X.A (jq (.ref a) none) (λ_ s₃=>wa (pb X.prog X.w) X.A (jv (.ref a) X.env hs) Q Ex s₃) Ex s₂) Ex s':=by
 obtain⟨B,a0,f,cov⟩:=x.fl;have f2:dw B (X.env::X.outer) a cls a0 s'.heap:=by rw[<-hst];exact f
 refine(QT (.ref a) X.env).thn (Q:=λ_ s4=>∃ h₄,s4= {s' with heap:=h₄}/\Heap.HeldW B (X.env::X.outer) a cls a0 X.env.locals h₄/\s'.heap.UpToSlots h₄) (wpAny_looks_onW (by rw[<-hst];exact I.ok.frames) hfr f2 λh₄ held up₄=>⟨h₄,rfl,held,up₄⟩) λ_ s4 ⟨h₄,e4,held,up₄⟩ dk4=>?_;subst e4;refine(Fv (.ref a) none).thn (Q:=λ_ s5=>∃ h₅,s5= {s' with heap:=h₅}/\dw B (X.env::X.outer) a cls a0 h₅/\h₄.UpToSlots h₅) (wpAny_landsW held λh₅ f₅ up₅=>⟨h₅,rfl,f₅,up₅⟩) λ_ s5 ⟨h₅,e5,f₅,up₅⟩ dk5=>?_;subst e5;exact k h₅ (Wy x f cov (by rw[hst];exact f₅) (up₄.trans up₅) (dk4.trans dk5))
theorem XZ{H:Hp}(x:ExcAt a cls dx h):ObjOk P w H h a (.ext (ExcAt a cls dx)):=by
 obtain⟨o,vs,e,hc,hx,hd,hz⟩:=x;exact⟨⟨o,vs,e,hc,hx,hd,hz⟩,⟨o,e⟩,λh1 h2 ⟨o1,vs1,e1,hc1,hx1,hd1⟩ k=>⟨o1,vs1,k _ e1,hc1,hx1,hd1⟩⟩
theorem IS(x:Fly X.prog X.w X.stack H s H' a cls dx h):ExcAt a cls dx h:=by
 obtain⟨B,a0,f,cov⟩:=x.fl;obtain⟨oe,vs,he,hc,hd,_⟩:=f.first;obtain⟨od,ed,dd⟩:=x.dc;rw[he]at ed
 cases ed
 exact⟨oe,vs,he,hc,dd.1,hd,λz=>by
  obtain⟨vs',e',q⟩:=dd.2 z;rw[hd]at e';cases e'
  exact q⟩
theorem BH{D:Ends}{t:TS}(I:Inv X pins σ H s)(hex:X.ex= [])(hst:X.stack=X.env::X.outer)(hfr:X.env.frame=some X.env.locals)(os:s'.os=s.os)(bare:am s'.gens)(x:Fly X.prog X.w X.stack H s H' a cls dx s'.heap)(hC:Gl X C)(hm:kl X.K jb C=some (some vC))(he:exmOne X.K cls vC=some true)(hdb:(C==("__debug__":xa))=false)(hN:X.N.Nodup)(hi:X.N[i]? =some n)(hk:X.env.kindOf n=some .local)(hsu:∀ a,PSs (markX X a) (b₀::suite) t)(ht:t {nx:=λσ' H'=>D.nx (σ'.set i none) H',rt:=D.rt,bk:=λσ' H'=>D.bk (σ'.set i none) H',ct:=λσ' H'=>D.ct (σ'.set i none) H'} (σ.set i (some (.ref a))) (Pb H' a (.ext (ExcAt a cls dx)))):
  wa (pb X.prog X.w) X.A (uo (.ref a) X.env) (λ_ s₂=>wa (pb X.prog X.w) X.A (jq (.ref a) none) (λ_ s₃=>
   wa (pb X.prog X.w) X.A (jv (.ref a) X.env (.ExceptHandler (some (.Name C np)) (some n) (b₀::suite) pos::rest)) (SP X pins D) Ex s₃) Ex s₂) Ex s':=by
 refine Iy I hst hfr x λh5 x5=>?_;refine wpAny_handleBy_cons (Jy (s':= {s' with heap:=h5}) I hst hfr os bare x5 hC hm he hdb λh6 x6=>codeAny_handlers_suite_as ?_) (by intro q;cases q);obtain⟨B,a0,f,cov⟩:=x6.fl;refine(Fv (.ref a) none).thn (Q:=λ_ s7=>∃ h7,s7= {s' with heap:=h7}/\dw B X.stack a cls a0 h7/\h6.UpToSlots h7) (lands_againW f λh7 f7 up7=>⟨h7,rfl,f7,up7⟩) λ_ s7 ⟨h7,e7,f7,up7⟩ dk7=>?_;subst e7;have x7:=Wy (s':= {s' with heap:=h6}) x6 f cov f7 up7 dk7;have I7:Inv X pins σ H' {s' with heap:=h7}:=Bv (s':= {s' with heap:=h7}) I os bare x7;have I8:=QH I I7 hex x7.new x7.nh (XZ (IS x7));have hloc:Loc X.env.scope n:=.inl hk;refine Jo I8 hN hi hloc (v:=.ref a) rfl (λs8 I9=>?_) (.inr hk);refine af (hsu a pins _ _ _ _ (Gz I9 a) ht) (λfl s9 q=>?_) λ_ _ z=>bg z;cases fl with
 |next=>obtain⟨σ',H9,J,q⟩:=q;exact Sq (Bk I.ok J) hN hi hk λs10 K=>⟨_,H9,K,q⟩
 |brk=>obtain⟨σ',H9,J,q⟩:=q;exact Sq (Bk I.ok J) hN hi hk λs10 K=>⟨_,H9,K,q⟩
 |cont=>obtain⟨σ',H9,J,q⟩:=q;exact Sq (Bk I.ok J) hN hi hk λs10 K=>⟨_,H9,K,q⟩
 |ret u=>obtain⟨v,σ',H9,J,r,q⟩:=q;exact Sq (Bk I.ok J) hN hi hk λs10 K=>⟨v,_,H9,K,r,q⟩
end
variable{fd:wf}{ps:List xa}
section
variable {CX:EB}{f:ca}{sp:Sp}{dvs:List V}{ds:List Fa}{E:L2.St->XK}{p:vg}{t:TA}
theorem TN(F:FnOk X.prog X.w X.K X.mg X.base CX k f fd ps sp)(hr:Room k X.A)(hg:Gl X x)(hm:X.mg x=some (.ref f))(hk:mf X.K (.ref f)=true)(hb:Binds X.K fd ps ds)(hd:Vals dvs ds)(hx:∀ (pins:List (ca×ki)) (σ:L2.St) (H:Hp) (s:Shared) (e:Fa) (s':Shared),Inv X pins σ H s->CX X.stack H s (E σ) e s'->X.xe e s')(ha:PA X (e::es) t)(hdb:(x==("__debug__":xa))=false)(he:aa (e::es) X.env=(false,eval e X.env)::aa es X.env)(hpl:(zd pos (aa es X.env)).any (·.1)=false):
  PE X (.Call (.Name x p) (e::es) [] pos) (λσ H Q=>t σ H λvs H1=>sp (vs++dvs) H1 Q (E σ)):=by
 intro pins s σ H Q I h;refine lh (Uq I hg hm ?_ hdb);refine callWith_K (h₀:=X.base) I.ok.mod.kin hk (thn (ha pos pins s σ H _ I h) λus s1 ⟨vs,H1,I1,r,q⟩=>⟨I1.kIn,?_⟩) he hpl;have r2:Vals (vs++dvs) (us++ds):=r.append hd;have hl:(us++ds).length=ps.length:=by rw[<-r2.length];exact F.len _ _ _ _ q
 refine wpAny_call (gl (F.run X.A X.stack s1 H1 ⟨us,[]⟩ (us++ds) (vs++dvs) Q (E σ) hr I1.env0 (hb s1 us I1.kIn hl) r2 q) λr s' hq=>?_);cases r with
 |error e=>exact hx pins σ H1 s1 e s' I1 hq
 |ok fl=>
  cases fl with
  |ret u=>exact I1.after hq
  |next=>exact bg hq
  |brk=>exact bg hq
  |cont=>exact bg hq
theorem A2(h:PA X.nox es t):PA (YD X pins Ex) es t:=λq more s σ H Q I hw=>by
 have ok:X.Ok:=⟨I.ok.mod,I.ok.kind,I.ok.glob,I.ok.blt,I.ok.above,I.ok.inj,I.ok.has,I.ok.cab,I.ok.hd,I.ok.frames,I.ok.stk,I.ok.exf,I.ok.bs,I.ok.bsz,I.ok.noex,I.ok.exfs,I.ok.funs,I.ok.frf⟩
 have I':Inv X.nox (pins++more) σ H s:=⟨ok.wish _,I.os,I.bare,I.base,I.loc,I.cell,I.free,I.freeC,λz hz=>I.pin z (by show z∈(X.pn++pins)++more;rw[ak];exact hz),I.hok,I.len⟩
 refine af (h q _ s σ H Q I' hw) (λus s1 ⟨v,H',J,r,z⟩=>⟨v,H',?_,r,z⟩) λ_ _ z=>bg z;exact⟨I.ok,J.os,J.bare,J.base,J.loc,J.cell,J.free,J.freeC,λz hz=>J.pin z (by show z∈X.pn++(pins++more);rw[<-ak];exact hz),J.hok,J.len⟩
end
structure KindX(X:Cx)(e:qc)(st:sf)(gK:D->Ca->Out):Prop where
 ex:∃ cont:Ends->L2.St->VK,(∀ (pins:List (ca×ki)) (Ex:Fa->Shared->Prop) (te:TE),PE (YD X pins Ex) e te->PS (YD X pins Ex) st (λDn σ H=>te σ H (cont Dn σ)))/\
  ∀ (xw:XW) (W₀:WS) (H₀:Hp) (W:WS) (H:Hp) (d:D) (v:V) (σ:L2.St) (δ:Ca) (Dn:Ends),StHas X.K W₀ H₀ W H σ δ->Has X.K W H d v->RS X.K xw W₀ H₀ W H (gK d δ) Dn->cont Dn σ v H
theorem N0:KindX X e (.Return (some e) pos) (λd _=>.rt d):=
 ⟨λDn _ v H=>Dn.rt v H,λpins Ex te h=>Cp h,λxw W₀ H₀ W H d v σ δ Dn st hv q=>q v H st.fr.ext (Has.keep (λ_ _ e _=>e) st.fr.wl (λb z=>.inl (st.fr.sub b z)) hv)⟩
def M4(i:Nat):Out->Out
 | .nx δ=>.nx (δ.set i none)
 | .bk δ=>.bk (δ.set i none)
 | .ct δ=>.ct (δ.set i none)
 | .rt d=>.rt d
 |_=>.stuck
def BJ(cs:List xa)(f:Ca->Res D)(gK:D->Ca->Out)(go:Ca->Out)(gs:xa->List D->Ca->Out):Ca->Out:=λδ=>match f δ with
 | .ok d=>Em (gK d δ) go
 | .ex c fs=>if c∈cs then gs c fs δ else .stuck
 | .stuck=>.stuck
theorem StHas.unset{W₀ W:WS}{H₀:Hp}{δ:Ca}(h:StHas K W₀ H₀ W H σ δ)(i:Nat):StHas K W₀ H₀ W H (σ.set i none) (δ.set i none):=by
 have ne:∀ (j:Nat) (t:S),(δ.set i none)[j]? =some (some t)->i≠j/\δ[j]? =some (some t):=λj t e=>by
  have hj:i≠j:=by
   rintro rfl;rw[di]at e
   cases q:δ[i]? with
   |none=>rw[q]at e;cases e
   |some z=>rw[q]at e;cases e
  rw[pd hj]at e
  exact⟨hj,e⟩
 refine⟨h.fr,by simp[h.len],λj s e=>?_,λj l s1 s2 u u' a hjl e1 e2 e3 e4 os ot=>?_⟩
 .obtain⟨hj,e'⟩:=ne j s e;rw[pd hj];exact h.at' j s e'
 .obtain⟨hj,g1⟩:=ne j s1 e1;obtain⟨hl,g2⟩:=ne l s2 e2;rw[pd hj]at e3
  rw[pd hl]at e4
  exact h.ap j l s1 s2 u u' a hjl g1 g2 e3 e4 os ot
variable{hpos tpos:vg}{orelse:List sf}{nn:Nat}{gK:D->Ca->Out}{go gsu:Ca->Out}{hd:cn}
section
variable {fs:Ca->Res (List D)}{p:vg}{C:xa}
def G9(X:Cx)(orelse:List sf)(pins:List (ca×ki))(Dn:Ends):Flow->Shared->Prop:=λf s₁=>match f with| .next=>wa (pb X.prog X.w) X.A (execs orelse X.env) (SP X pins Dn) X.xe s₁|f=>SP X pins Dn f s₁
def K5(X:Cx)(hd:cn)(pins:List (ca×ki))(Dn:Ends):Fa->Shared->Prop:=λe s₁=>wa (pb X.prog X.w) X.A (uo e X.env) (λ_ s₂=>wa (pb X.prog X.w) X.A (jq e none) (λ_ s₃=>wa (pb X.prog X.w) X.A (jv e X.env [hd]) (SP X pins Dn) X.xe s₃) X.xe s₂) X.xe s₁
def ZW(X:Cx)(hd:cn)(orelse:List sf)(pins:List (ca×ki))(Dn:Ends)(sts:List sf)(s:Shared):Prop:=wa (pb X.prog X.w) X.A (execs sts X.env) (G9 X orelse pins Dn) (K5 X hd pins Dn) s
structure XB(X:Cx)(xw:XW)(hd:cn)(orelse sts:List sf)(g:Ca->Out):Prop where
 h:∀ (pins:List (ca×ki)) (s:Shared) (σ:L2.St) (H:Hp) (Dn:Ends),Inv X pins σ H s->GQ X.K xw g Dn σ H->ZW X hd orelse pins Dn sts s
theorem XB.try(h:XB X xw hd orelse sts g):XS X xw (.Try sts [hd] orelse [] tpos) g:=⟨λpins s σ H Dn I q=>wpAny_Try_except (h.h pins s σ H Dn I q)⟩
theorem KP{fa:ca}{vs0:List V}{ds0:List Fa}{d0:List D}{gs:xa->List D->Ca->Out}(cs:List xa)(G:FnOk X.prog X.w X.K X.mg X.base (J8 X.prog X.w) k fa fd ps (T8 X.K nn m))(hm:X.mg x=some (.ref fa))(hk:mf X.K (.ref fa)=true)(hb:Binds X.K fd ps ds0)(hd0:Vals vs0 ds0)(h0:∀ W H,HasL X.K W H d0 vs0)(hr:Room k X.A)(ha:XA X.nox Jq (a::es) fs)(kd:KindX X (.Call (.Name x p) (a::es) [] cpos) st gK)(hor:XSs X xw orelse go)(hcat:∀ (pins:List (ca×ki)) (σ:L2.St) (H H0 H':Hp) (s s':Shared) (ar:ca) (cls:Fa) (dx:Dx) (c:xa) (fs:List D) (W₀:WS) (H₀:Hp) (W:WS) (δ:Ca) (Dn:Ends),Inv X pins σ H s->s'.os=s.os->am s'.gens->Fly X.prog X.w X.stack H s H' ar cls dx s'.heap->ExF H' dx fs->
   kl X.K jb c=some (some cls)->c∈cs->StHas X.K W₀ H₀ W H0 σ δ->Same H0 H'->RS X.K xw W₀ H₀ W H0 (gs c fs δ) Dn->
   wa (pb X.prog X.w) X.A (uo (.ref ar) X.env) (λ_ s₂=>wa (pb X.prog X.w) X.A (jq (.ref ar) none) (λ_ s₃=>
    wa (pb X.prog X.w) X.A (jv (.ref ar) X.env [hd]) (SP X pins Dn) X.xe s₃) X.xe s₂) X.xe s')(hg:Gl X x)(hdb:(x==("__debug__":xa))=false)(he:aa (a::es) X.env=(false,eval a X.env)::aa es X.env)(hpl:(zd cpos (aa es X.env)).any (·.1)=false):
  XB X xw hd orelse [st] (BJ cs (λδ=>(noex (fs δ)).bind λds=>Hm nn m (ds++d0)) gK go gs):=⟨by
 intro pins s σ H Dn I ⟨W₀,H₀,W,δ,sth,q⟩;obtain⟨cont,kp,kr⟩:=kd.ex;unfold ZW K5;generalize hEx:(λ(e:Fa) (s₁:Shared)=>wa (pb X.prog X.w) X.A (uo e X.env) (λ_ s₂=>wa (pb X.prog X.w) X.A (jq e none) (λ_ s₃=>wa (pb X.prog X.w) X.A (jv e X.env [hd]) (SP X pins Dn) X.xe s₃) X.xe s₂) X.xe s₁)=Ex;have D1nx:∀ σ' H',GQ X.K xw go Dn σ' H'->∀ s',Inv X pins σ' H' s'->wa (pb X.prog X.w) X.A (execs orelse X.env) (SP X pins Dn) X.xe s':=λσ' H' h s' J=>hor.h pins s' σ' H' Dn J h
 have pe:=TN (X:=YD X pins Ex) (p:=p) (pos:=cpos) (E:=λσ' cls dx H'=>σ'=σ/\Same H H'/\∃ c fs',kl X.K jb c=some (some cls)/\((noex (fs δ)).bind λds=>Hm nn m (ds++d0))=.ex c fs'/\ExF H' dx fs') G hr hg hm hk hb hd0 (λmore σ' H1 s1 e s' J h=>by
  obtain⟨ar,cls,dx,H',rfl,os,bare,fl,rfl,sm,c,fs',hn,hf,xf⟩:=h;have J':=Hj I.ok J;show Ex (.ref ar) s';subst hEx;unfold BJ at q;dsimp only at q;rw[hf]at q
  have q':RS X.K xw W₀ H₀ W H (if c∈cs then gs c fs' δ else .stuck) Dn:=q;split at q'
  .rename_i hc;exact hcat pins σ' H1 H H' s1 s' ar cls dx c fs' W₀ H₀ W δ Dn J' os bare fl xf hn hc sth sm q'
  .exact q'.elim) (A2 ha.h) hdb he hpl
 refine af (Ar (kp pins Ex _ pe) [] s σ H {nx:=GQ X.K xw go Dn,rt:=Dn.rt,bk:=Dn.bk,ct:=Dn.ct} (CT I) ?_) (λfl s1 h1=>?_) λe s1 h1=>h1
 .refine⟨W₀,H₀,W,δ,sth,?_⟩;unfold BJ at q;dsimp only at q;cases hf:fs δ with
  |stuck=>rw[hf]at q;exact q
  |ex c gs'=>rw[hf]at q;exact bg q
  |ok ds=>
   rw[hf]at q
   intro vs H1 k1 hv;have hv':HasL X.K W H1 (ds++d0) (vs++vs0):=hv.append (h0 W H1);have q1:RS X.K xw W₀ H₀ W H (match Hm nn m (ds++d0) with| .ok d=>Em (gK d δ) go| .ex c fs=>if c∈cs then gs c fs δ else .stuck| .stuck=>.stuck) Dn:=q;have ec:((noex (Res.ok ds)).bind λds=>Hm nn m (ds++d0))=Hm nn m (ds++d0):=rfl;by_cases hl:(ds++d0).length=nn
   .have em:Hm nn m (ds++d0)=m (ds++d0):=if_pos hl;rw[em]at q1
    refine⟨by rw[<-hv'.length];exact hl,W,ds++d0,sth.fr.wl.same k1,hv',?_⟩;cases h:m (ds++d0) with
    |ok d=>
     rw[h]at q1
     intro v H2 k2 hd2;refine kr xw W₀ H₀ W H2 d v σ δ _ (sth.same (k1.trans k2)) hd2 ?_;have q2:RS X.K xw W₀ H₀ W H (Em (gK d δ) go) Dn:=q1;have q3:=RS.step q2 (Step.same (W:=W) (k1.trans k2));cases hgk:gK d δ with
     |nx δ'=>
      rw[hgk]at q3
      exact λW' H' σ' kk st'=>⟨W₀,H₀,W',δ',st',RS.step (o:=go δ') q3 kk⟩
     |bk δ'=>rw[hgk]at q3;exact q3
     |ct δ'=>rw[hgk]at q3;exact q3
     |rt d'=>rw[hgk]at q3;exact q3
     |ex c' fs'=>rw[hgk]at q3;exact q3
     |stuck=>rw[hgk]at q3;exact q3
    |ex c fs'=>
     exact λcls dx H2 hn k2 xf=>⟨rfl,k1.trans k2,c,fs',hn,by rw[ec,em,h],xf⟩
    |stuck=>rw[h]at q1;exact q1
   .have em:Hm nn m (ds++d0)=.stuck:=if_neg hl;rw[em]at q1
    exact q1.elim
 .cases fl with
  |next=>obtain⟨σ',H',J,z⟩:=h1;exact D1nx σ' H' z s1 (Hj I.ok J)
  |brk=>obtain⟨σ',H',J,z⟩:=h1;exact⟨σ',H',Hj I.ok J,z⟩
  |cont=>obtain⟨σ',H',J,z⟩:=h1;exact⟨σ',H',Hj I.ok J,z⟩
  |ret u=>obtain⟨v,σ',H',J,r,z⟩:=h1;exact⟨v,σ',H',Hj I.ok J,r,z⟩⟩
end
def J4(fs:Ca->Res (List D))(nn:Nat)(m:List D->Res D)(d0:List D):Ca->Res D:=λδ=>(noex (fs δ)).bind λds=>Hm nn m (ds++d0)
def QS(i:Nat)(gsu:Ca->Out):xa->List D->Ca->Out:=λc fs δ=>M4 i (gsu (δ.set i (some (.d (.exc c fs)))))
section
variable {fs:Ca->Res (List D)}{p:vg}{C:xa}
theorem LY(i:Nat)(cs:List xa)(hcs:∀ c∈cs,MatchX X.K C c)(hex:X.ex= [])(hst:X.stack=X.env::X.outer)(hfr:X.env.frame=some X.env.locals)(hN:X.N.Nodup)(hi:X.N[i]? =some n)(hk:X.env.kindOf n=some .local)(hgC:Gl X C)(hdC:(C==("__debug__":xa))=false)(hsu:∀ a,XSs (markX X a) Jq (b₀::suite) gsu)(pins:List (ca×ki))(σ:L2.St)(H H0 H':Hp)(s s':Shared)(ar:ca)(cls:Fa)(dx:Dx)(c:xa)(xs:List D)(W₀:WS)(H₀:Hp)(W:WS)(δ:Ca)(Dn:Ends)(I:Inv X pins σ H s)(os:s'.os=s.os)(bare:am s'.gens)(fl:Fly X.prog X.w X.stack H s H' ar cls dx s'.heap)(xf:ExF H' dx xs)(hn:kl X.K jb c=some (some cls))(hc:c∈cs)(sth:StHas X.K W₀ H₀ W H0 σ δ)(sm:Same H0 H')(q:RS X.K xw W₀ H₀ W H0 (QS i gsu c xs δ) Dn):
  wa (pb X.prog X.w) X.A (uo (.ref ar) X.env) (λ_ s₂=>wa (pb X.prog X.w) X.A (jq (.ref ar) none) (λ_ s₃=>
   wa (pb X.prog X.w) X.A (jv (.ref ar) X.env [.ExceptHandler (some (.Name C np)) (some n) (b₀::suite) hpos]) (SP X pins Dn) X.xe s₃) X.xe s₂) X.xe s':=by
 obtain⟨vc,vC,e1,e2,e3⟩:=(hcs c hc).ex;rw[hn]at e1
 cases e1;have k2:Same H0 (Pb H' ar (.ext (ExcAt ar cls dx))):=λb o e=>by rw[Ha (Ua (sm b o e) fl.nh)];exact sm b o e
 refine BH (t:=GQ X.K Jq gsu) I hex hst hfr os bare fl hgC e2 e3 hdC hN hi hk (λa=>(hsu a).h) ⟨W₀,H₀,W,δ.set i (some (.d (.exc c xs))),(sth.same k2).set (x:=.exc c xs) (v:=.ref ar) (by rw[Has];exact⟨ar,cls,dx,rfl,hn,Ta,xf.to (λb o u e=>by rw[Ha (Ua e fl.nh)];exact e) λb kvs e=>by rw[Ha (Ua e fl.nh)];exact e⟩),?_⟩;unfold QS at q;cases hq:gsu (δ.set i (some (.d (.exc c xs)))) with
 |nx δ'=>rw[hq]at q;exact λW' H2 σ2 Y4 st2=>q W' H2 _ ((Step.same k2).trans Y4) (st2.unset i)
 |bk δ'=>rw[hq]at q;exact λW' H2 σ2 Y4 st2=>q W' H2 _ ((Step.same k2).trans Y4) (st2.unset i)
 |ct δ'=>rw[hq]at q;exact λW' H2 σ2 Y4 st2=>q W' H2 _ ((Step.same k2).trans Y4) (st2.unset i)
 |rt d=>rw[hq]at q;exact q
 |ex c' fs'=>rw[hq]at q;exact q.elim
 |stuck=>rw[hq]at q;exact q.elim
theorem WV(i:Nat)(cs:List xa)(F:FnX X.prog X.w X.K X.mg X.base k x nn m)(hcs:∀ c∈cs,MatchX X.K C c)(hN:X.N.Nodup)(hr:Room k X.A)(ha:XA X.nox Jq (a::es) fs)(kd:KindX X (.Call (.Name x p) (a::es) [] cpos) st gK)(hor:XSs X xw orelse go)(hsu:∀ a,XSs (markX X a) Jq (b₀::suite) gsu)(hi:X.N[i]? =some n:=by rfl)(hk:X.env.kindOf n=some .local:=by rfl)(hex:X.ex= []:=by rfl)(hst:X.stack=X.env::X.outer:=by rfl)(hfr:X.env.frame=some X.env.locals:=by rfl)(hgC:Gl X C:=by rfl)(hdC:(C==("__debug__":xa))=false:=by decide)(hg:Gl X x:=by rfl)(hdb:(x==("__debug__":xa))=false:=by decide)(he:aa (a::es) X.env=(false,eval a X.env)::aa es X.env:=by rfl)(hpl:(zd cpos (aa es X.env)).any (·.1)=false:=by rfl):
  XS X xw (.Try [st] [.ExceptHandler (some (.Name C np)) (some n) (b₀::suite) hpos] orelse [] tpos) (BJ cs (J4 fs nn m []) gK go (QS i gsu)):=by
 obtain⟨fa,fd,ps,G,hm,hkp,hb⟩:=F.ex;exact XB.try<|KP cs G hm hkp hb .nil (λW H=>HasL.nil) hr ha kd hor (LY i cs hcs hex hst hfr hN hi hk hgC hdC hsu) hg hdb he hpl
end
end L3
namespace L3
open PySem PySem.Spec PySem.Calls PyProof.Rows PySem.W Builtin Builtin.ObjectAttr Builtin.Getset_descriptor
structure ExcK(K:td)(C:ca):Prop where
 ga:ik K (.ref C) "__getattribute__"=some (some (.builtin "BaseException.__getattribute__"))
 gt:ik K (.ref C) "__getattr__"=some none
 cl:ik K (.ref C) "__class__"=some (some (.builtin "object.__class__"))
 ob:mroIn K C (.type "object")=some true
 be:mroIn K C (.type "BaseException")=some true
section
variable {prog:ic}{w:vd}{A:je}{E:Fa->Shared->Prop}{h:ke}{g:Array ql}{d:Drawn}{t:Nat}{os:OsState}{K:td}{a C:ca}{o:ki}
end
end L3
namespace L3
open PySem PySem.Spec PyProof.Rows L2 SeqAt
variable{X:Cx}{xw:XW}{a:qc}{es:List qc}{fa:Ca->Res D}{pos p2:vg}{c:xa}
section
variable {fs:Ca->Res (List D)}{p:vg}
inductive IsC(K:td)(mg:xa->Option Fa):xa->V->Prop
 |own {c:xa} {C:ca}:mg c=some (.ref C)->IsC K mg c (.ref C)
 |blt {c:xa} {T:String}:mg c=none->vf c=some (.type T)->c≠"__name__"->IsC K mg c (.ty T)
structure XC(X:Cx)(e:qc)(v:V):Prop where
 h:PE X e (tC v)
structure XCs(X:Cx)(es:List qc)(vs:List V):Prop where
 h:PA X es (λ_ H Q=>Q vs H)
def Z7:V->Fa
 | .ref a=>.ref a
 | .ty T=>.type T
 |_=>.none
structure IsiX(K:td)(tb:List (xa×Bool))(vs:List V):Prop where
 cls:∀ v∈vs,(∃ a,v=.ref a)\/∃ T,v=.ty T
 ok:∀ c b,tb.lookup c=some b->∃ C,kl K jb c=some (some (.ref C))/\ExcK K C/\PySem.W.kitAny K (.ref C) (vs.map Z7)=some b
end
variable{b:qc}
section
variable {c tg:qc}{p:vg}
end
def Mj{α:Type}(xs:List α)(lo st:Option Int):List α:=(sliceRange (ai lo none st xs.length).1 (ai lo none st xs.length).2.1 (ai lo none st xs.length).2.2).filterMap (xs[·]?)
theorem Ux{xs:List V}{us:List Fa}(r:Vals xs us):∀ l:List Nat,Vals (l.filterMap (xs[·]?)) (l.filterMap (us[·]?))
 | []=>.nil
 |i::l=>by
  rw[uh,uh]
  have g:∀ {xs:List V} {us:List Fa},Vals xs us->∀ i:Nat,(xs[i]? =none/\us[i]? =none)\/∃ x u,xs[i]? =some x/\us[i]? =some u/\RelV x u:=by
   intro xs us r
   induction r with
   |nil=>intro i;exact .inl ⟨rfl,rfl⟩
   |cons h r ih=>
    intro i;cases i with
    |zero=>exact .inr ⟨_,_,rfl,rfl,h⟩
    |succ i=>simpa using ih i
  rcases g r i with⟨e1,e2⟩|⟨x,u,e1,e2,h⟩
  .rw[e1,e2];exact Ux r l
  .rw[e1,e2];exact .cons h (Ux r l)
theorem Jw{K:td}{W:WS}{H:Hp}{ds:List D}{xs:List V}(r:HasL K W H ds xs):∀ l:List Nat,HasL K W H (l.filterMap (ds[·]?)) (l.filterMap (xs[·]?))
 | []=>HasL.nil
 |i::l=>by
  rw[uh,uh]
  have g:∀ {ds:List D} {xs:List V},HasL K W H ds xs->∀ i:Nat,(ds[i]? =none/\xs[i]? =none)\/∃ d x,ds[i]? =some d/\xs[i]? =some x/\Has K W H d x:=by
   intro ds
   induction ds with
   |nil=>intro xs r i;rw[HasL]at r;subst r;exact .inl ⟨rfl,rfl⟩
   |cons d ds ih=>
    intro xs r i;rw[HasL]at r
    obtain⟨v,r',rfl,hv,hr⟩:=r;cases i with
    |zero=>exact .inr ⟨_,_,rfl,rfl,hv⟩
    |succ i=>simpa using ih hr i
  rcases g r i with⟨e1,e2⟩|⟨x,u,e1,e2,h⟩
  .rw[e1,e2];exact Jw r l
  .rw[e1,e2];exact HasL.cons h (Jw r l)
section
variable {lo:Option qc}{st:qc}{fl fh:Ca->Res (Option Int)}
def S7(K:td)(te:TE)(tl th:TO):TE:=λσ H Q=>te σ H λx H1=>tl σ H1 λl H2=>th σ H2 λu H3=>∃ a xs,x=.ref a/\SqL K H3 a xs/\u≠some 0/\∀ p,H3 p=none->Q (.ref p) (Pb H3 p (.lst (Mj xs l u)))
theorem BV{te:TE}{tl th:TO}(he:PE X a te)(hl:PO X lo tl)(hu:PO X (some st) th):PE X (.Subscript a (.Slice lo none (some st) p2) pos) (S7 X.K te tl th):=by
 intro pins s σ H Q I h;refine Subscript_ (thn (he pins s σ H _ I h) λv s1 ⟨x,H1,I1,r1,q1⟩=>?_);refine wpAny_Slice (thn (hl pins s1 σ H1 _ I1 q1) λvl s2 ⟨l,H2,I2,pl,q2⟩=>?_);rw[evalPart_none];refine ia (thn (hu pins s2 σ H2 _ I2 q2) λvu s3 ⟨u,H3,I3,pu,q3⟩=>?_);obtain⟨b,xs,rfl,sq,h0,q⟩:=q3;cases (show v=Value.ref b from r1);have I4:Inv X pins σ H3 {s3 with heap:=s3.heap.push {cls:=.type "slice",data:=.fields #[vl,.none,vu]}}:=I3.kept (t':=s3.toks) λb ob q=>ja _ q;obtain⟨its,r,ht,hz⟩:=I4.list sq;have hlen:=r.length;show wa (pb X.prog X.w) X.A (iu a (.Slice lo none (some st) p2) (.ref b) (.ref s3.heap.objs.size)) (EP X pins σ Q) X.xe {s3 with heap:=s3.heap.push {cls:=.type "slice",data:=.fields #[vl,.none,vu]}};refine tail_any (ops:= [.ref b,.ref s3.heap.objs.size]) ht.isList.typeIs slot_list_getitem.lookup ?_ (by with_unfolding_all rfl);refine ju ht.isList (Heap.IsSliceOf.new ..) pl .none pu h0 ?_ (by rw[jc]<;>omega);have hsz:=slicePick_size_le its.toArray l none u
 have e:slicePick its.toArray l none u=(Mj its l u).toArray:=by
  unfold slicePick Mj;simp
 rw[e]at hsz ⊢
 have rr:Vals (Mj xs l u) (Mj its l u):=by
  unfold Mj;rw[hlen];exact Ux r _
 exact⟨.ref _,_,I4.laid (t':=s3.toks) (o:=.lst (Mj xs l u)) (λb ob q=>ja _ q) (jd _) ⟨by rw[rr.length];simp at hsz;omega,_,0,rr,yc _ rfl⟩,rfl,q _ (I4.hok.fresh (jd _))⟩
def R3(d:D)(lo st:Option Int):Res (List D):=match d with
 | .lst ds=>if st=some 0 then .stuck else .ok (Mj ds lo st)
 |_=>.stuck
theorem FX(ha:XP X xw a fa)(hl:XO X xw lo fl)(hh:XO X xw (some st) fh):XF X xw (.Subscript a (.Slice lo none (some st) p2) pos) (b3 R3 fa fl fh):=
 ⟨PE.weak (BV ha.h hl.h hh.h) λσ H Q ⟨W₀,H₀,W,δ,st,q⟩=>Px (G:=λH r=>RF X.K xw W H r Q) st (λ_ _ _ q=>q) (λ_ q=>q) (λ_ _ _ k q=>RF.same q k) q λH2 d v l u k w hv q2=>by
  unfold R3 at q2;split at q2
  .split at q2
   .exact q2.elim
   .rename_i h0;obtain⟨a1,xs,e1,sq,r⟩:=hv.lst;refine⟨a1,xs,e1,sq,h0,λp hp=>q2 p _ H2 (Same.refl _) hp ?_⟩;unfold Mj;rw[r.length];exact Jw r _
  .exact q2.elim⟩
end
variable{st:sf}{g:Ca->Out}{σ:L2.St}{H:Hp}
def Uo(i:Nat)(δ:Ca):Ca:=match δ[i]? with
 |some (some (.o ds))=>δ.set i (some (.d (.lst ds)))
 |_=>δ
def Ue(i:Nat)(g:Ca->Out):Ca->Out:=λδ=>g (Uo i δ)
theorem LH{i:Nat}{Dn:Ends}(h:GQ X.K xw (Ue i g) Dn σ H):GQ X.K xw g Dn σ H:=by
 obtain⟨W₀,H₀,W,δ,st,q⟩:=h;have q':RS X.K xw W₀ H₀ W H (g (Uo i δ)) Dn:=q;unfold Uo at q';split at q'
 .rename_i ds h;obtain⟨v,e,a,xs,r1,r2,r3,r4,r5⟩:=st.at' i _ h;subst r1;obtain⟨st2,hd⟩:=st.freeze h e;exact⟨W₀,H₀,_,_,st2,RS.less (λb z=>z.1) q'⟩
 .exact⟨W₀,H₀,W,δ,st,q'⟩
theorem Sg(i:Nat)(h:XS X xw st g):XS X xw st (Ue i g):=⟨λpins s σ H Dn I q=>h.h pins s σ H Dn I (LH q)⟩
theorem Z4{P:List Fa->Prop}(h:∀ a0:Fa,P [a0]):∀ us:List Fa,us.length=1->P us
 | [a0],_=>h a0
theorem HQ{P:List Fa->Prop}(h:∀ a0 a1:Fa,P [a0,a1]):∀ us:List Fa,us.length=2->P us
 | [a0,a1],_=>h a0 a1
theorem A5{P:List Fa->Prop}(h:∀ a0 a1 a2:Fa,P [a0,a1,a2]):∀ us:List Fa,us.length=3->P us
 | [a0,a1,a2],_=>h a0 a1 a2
theorem us4{P:List Fa->Prop}(h:∀ a0 a1 a2 a3:Fa,P [a0,a1,a2,a3]):∀ us:List Fa,us.length=4->P us
 | [a0,a1,a2,a3],_=>h a0 a1 a2 a3
theorem us5{P:List Fa->Prop}(h:∀ a0 a1 a2 a3 a4:Fa,P [a0,a1,a2,a3,a4]):∀ us:List Fa,us.length=5->P us
 | [a0,a1,a2,a3,a4],_=>h a0 a1 a2 a3 a4
theorem JA(f:xa)(v:V):∀ fs:List (xa×V),f∉fs.map (·.1)->Bl f v fs=fs++ [(f,v)]
 | [],_=>rfl
 |(g,x)::r,h=>by
  rw[ac]at h
  have h1:¬ g=f:=λz=>h (by rw[<-z];exact ib);have h2:f∉r.map (·.1):=λz=>h (ua _ z);show(if g=f then(g,v)::r else(g,x)::Bl f v r)=_;rw[if_neg h1,JA f v r h2];rfl
variable{K:td}{W:WS}{dx x:ca}
section
variable {W₀:WS}{H₀ H':Hp}{δ:Ca}
theorem StHas.poke{C:ca}{fl fl':List (xa×V)}(h:StHas K W₀ H₀ W H σ δ)(hW:W x)(h0:H₀ x=none)(hx:H x=some (.ins C dx fl))(no:∀ (j:Nat) (t:S) (v:V),δ[j]? =some (some t)->σ[j]? =some (some v)->¬ Owns H t v x):StHas K W₀ H₀ W (Pb H x (.ins C dx fl')) σ δ:=by
 have kk:Pg W H (Pb H x (.ins C dx fl')):=λb o e n=>by rw[Ha (λz=>n (by rw[z];exact hW))];exact e
 have hw:∀ b,W b->W b\/H b=none:=λb z=>.inl z
 have bk:∀ (j:Nat) (s:S) (v:V) (b:ca),δ[j]? =some (some s)->σ[j]? =some (some v)->Owns (Pb H x (.ins C dx fl')) s v b->Owns H s v b:=λj s v b e e' o=>by
  obtain⟨v',h1,h2⟩:=h.at' j s e;rw[e']at h1;cases h1
  refine Owns.back h2 (λc o ec z y=>?_) o;rcases y with⟨y,_⟩|⟨zs,y⟩
  .rw[Ha (λq=>by rw[q]at y;exact no j s v e e' y)];exact z
  .rw[Ha (λq=>by rw[q,hx]at z;cases z;cases y)];exact z
 refine⟨⟨λb o e=>by rw[Ha (Ua e h0)];exact h.fr.ext _ _ e,h.fr.sub,⟨λb z=>?_,λq hq=>by rw[Ha (h.fr.wl.noW hW hq)];exact h.fr.wl.tab q hq⟩,h.fr.wl0⟩,h.len,λi s e=>?_,λi j s t u v b ij e1 e2 e3 e4 o1 o2=>h.ap i j s t u v b ij e1 e2 e3 e4 (bk i s u b e1 e3 o1) (bk j t v b e2 e4 o2)⟩
 .by_cases hb:b=x
  .rw[hb];exact⟨_,Ta,trivial⟩
  .rw[Ha hb];exact h.fr.wl b z
 .obtain⟨v,h1,h2⟩:=h.at' i s e;exact⟨v,h1,h2.mv h.fr.wl kk hw λb o e1 h1' _ h3' _=>⟨h1',by rw[Ha (λz=>by rw[z]at e1;exact no i s v e h1 e1)];exact h3'⟩⟩
theorem StHas.born{C:ca}(h:StHas K W₀ H₀ W H σ δ)(hx:H x=none)(hd:H dx=none)(ne:dx≠x):
  StHas K W₀ H₀ (λb=>W b\/b=x) (Pb (Pb H dx (.own x)) x (.ins C dx [])) σ δ:=by
 have sm:Same H (Pb (Pb H dx (.own x)) x (.ins C dx [])):=λb o e=>by rw[Ha (Ua e hx),Ha (Ua e hd)];exact e
 have hw:∀ b,(W b\/b=x)->W b\/H b=none:=λb z=>z.elim .inl λz=>.inr (by rw[z];exact hx);refine⟨⟨h.fr.ext.trans sm,λb z=>.inl (h.fr.sub b z),⟨λb z=>?_,(h.fr.wl.same sm).tab⟩,h.fr.wl0⟩,h.len,λi s e=>?_,(h.same sm).ap⟩
 .rcases z with z|z
  .exact h.fr.wl.same sm b z
  .rw[z];exact⟨_,Ta,trivial⟩
 .obtain⟨v,h1,h2⟩:=h.at' i s e;exact⟨v,h1,h2.mv h.fr.wl (Same.keep sm) hw λb o _ h1' _ h3' _=>⟨.inl h1',sm _ _ h3'⟩⟩
theorem StHas.front{v:Option V}(h:StHas K W₀ H₀ W H σ δ):StHas K W₀ H₀ W H (v::σ) (none::δ):=by
 refine⟨h.fr,by simp[h.len],λi s e=>?_,λi j s t u v' a hij e1 e2 e3 e4 os ot=>?_⟩
 .cases i with
  |zero=>cases e
  |succ i=>exact h.at' i s e
 .cases i with
  |zero=>cases e1
  |succ i=>
   cases j with
   |zero=>cases e2
   |succ j=>exact h.ap i j s t u v' a (λz=>hij (by rw[z])) e1 e2 e3 e4 os ot
end
def Im:List (xa×(Ca->Res D))->Ca->Res (List D)
 | [],_=>.ok []
 |p::r,δ=>(p.2 δ).bind λd=>(Im r δ).bind λds=>.ok (d::ds)
def Ss(n:Nat)(c:xa)(fs:List (xa×(Ca->Res D)))(ds:List D):Res D:=(Im fs (none::Sb n ds)).bind λes=>.ok (.obj c (fs.map (·.1)) es)
def RI(K:td)(W₀:WS)(H₀:Hp)(W:WS)(δ:Ca)(σ:L2.St)(C dx x:ca)(ks:List xa)(ds:List D)(r:Res (List D))(Dn:Ends):Prop:=match r with
 | .ok es=>∀ H' fl',StHas K W₀ H₀ W H' σ δ->H' x=some (.ins C dx fl')->fl'.map (·.1)=ks->HasL K W H' (ds++es) (fl'.map (·.2))->Dn.nx σ H'
 |_=>False
def M7(K:td)(C:ca)(fs:List (xa×(Ca->Res D))):TS:=λDn σ H=>∃ W₀ H₀ W δ x dx fl ds,(StHas K W₀ H₀ W H σ δ/\∀ (j:Nat) (t:S) (v:V),δ[j]? =some (some t)->σ[j]? =some (some v)->¬ Owns H t v x)/\σ[0]? =some (some (.ref x))/\W x/\H₀ x=none/\H x=some (.ins C dx fl)/\
 HasL K W H ds (fl.map (·.2))/\(fl.map (·.1)++fs.map (·.1)).Nodup/\fl.length+fs.length<1000/\RI K W₀ H₀ W δ σ C dx x (fl.map (·.1)++fs.map (·.1)) ds (Im fs δ) Dn
structure XIn(X:Cx)(C:ca)(sts:List sf)(fs:List (xa×(Ca->Res D))):Prop where
 h:PSs X sts (M7 X.K C fs)
variable{e:qc}{f fb:Ca->Res D}{p1 p3:vg}
section
variable {C:ca}{fs:List (xa×(Ca->Res D))}{sts:List sf}{p:vg}{fld:xa}
theorem F0:XIn X C [] []:=⟨PSs.weak Jx λDn σ H ⟨W₀,H₀,W,δ,x,dx,fl,ds,⟨st,_⟩,_,_,_,hx,hds,_,_,q⟩=>q H fl st hx (by simp) (by rw[bj];exact hds)⟩
theorem Tq(cl:Cls X.K C)(hn:NoAttr X.K C fld)(he:XE X Jq e f)(hr:XIn X C sts fs){self:xa}(hN:X.N[0]? =some self:=by rfl)(hv:Wx X.env.scope self:=by first|exact Or.inl rfl|exact Or.inr (Or.inl rfl)|exact Or.inr (Or.inr rfl))(hd:(self==("__debug__":xa))=false:=by decide)(hcd:(self==("__classdict__":xa))=false:=by decide)(hs:ph e (some (.Attribute (.Name self p1) fld p2)) pos.line X.env=pure false:=by rfl):
  XIn X C (.Assign [.Attribute (.Name self p1) fld p2] e pos::sts) ((fld,f)::fs):=⟨by
 refine PSs.weak (Co (U2 (Bi hN hv hd hcd) he.h hs) hr.h) λDn σ H ⟨W₀,H₀,W,δ,x,dx,fl,ds,⟨st,no⟩,e0,hW,h0,hx,hds,nd,ln,q⟩=>?_;rw[ba]at ln
 show DQ X.K Jq f σ H _;refine⟨W₀,H₀,W,δ,st,?_⟩;have eq1:Im ((fld,f)::fs) δ=(f δ).bind λd=>(Im fs δ).bind λds=>.ok (d::ds):=rfl;rw[eq1]at q
 cases h1:f δ with
 |stuck=>rw[h1]at q;exact q.elim
 |ex c fs=>rw[h1]at q;exact q.elim
 |ok d=>
  rw[h1]at q
  intro v H1 k hv;have hx1:=k _ _ hx;have st1:=st.same k
  have no1:∀ (j:Nat) (t:S) (v:V),δ[j]? =some (some t)->σ[j]? =some (some v)->¬ Owns H1 t v x:=λj t v e e' o=>by
   obtain⟨v',h1,h2⟩:=st.at' j t e;rw[e']at h1;cases h1
   exact no j t v e e' (Owns.back h2 (λc o _ z _=>k _ _ z) o)
  refine⟨.ref x,e0,x,C,dx,fl,rfl,hx1,cl,hn,by omega,?_⟩
  have hf:fld∉fl.map (·.1):=λz=>by
   rw[ac,cu]at nd
   exact nd.2.2 _ z _ ib rfl
  rw[JA _ _ _ hf];have kk:Pg W H1 (Pb H1 x (.ins C dx (fl++ [(fld,v)]))):=λb o e n=>by rw[Ha (λz=>n (by rw[z];exact hW))];exact e
  have ek:(fl++ [(fld,v)]).map (·.1)++fs.map (·.1)=fl.map (·.1)++((fld,f)::fs).map (·.1):=by simp
  refine⟨W₀,H₀,W,δ,x,dx,fl++ [(fld,v)],ds++ [d],⟨st1.poke hW h0 hx1 no1,λj t v e e' o=>by
   obtain⟨v',h1,h2⟩:=st1.at' j t e;rw[e']at h1;cases h1
   refine no1 j t v e e' (Owns.back h2 (λc o _ z y=>?_) o);rcases y with⟨y,_⟩|⟨zs,y⟩
   .rw[Ha (λq=>by rw[q]at y;exact no1 j t v e e' y)];exact z
   .rw[Ha (λq=>by rw[q,hx1]at z;cases z;cases y)];exact z⟩,e0,hW,h0,Ta,?_,by rw[ek];exact nd,by rw[ud,qg];omega,?_⟩
  .rw[kg];exact HasL.keep kk st1.fr.wl (λb z=>.inl z) ((hds.same k st.fr.wl).snoc hv)
  .rw[ek];cases h2:Im fs δ with
   |stuck=>rw[h2]at q;exact q.elim
   |ex c gs=>rw[h2]at q;exact q.elim
   |ok es=>
    rw[h2]at q
    intro H' fl' g1 g2 g3 g4;rw[ak]at g4
    exact q H' fl' g1 g2 g3 g4⟩
end
def spI(K:td)(C:ca)(n:Nat)(nl:Nat)(c:xa)(fs:List (xa×(Ca->Res D))):Sp:=λvs H Q _=>∃ x dx vs' H1 W ds,vs=V.ref x::vs'/\vs'.length=n/\H=Pb (Pb H1 dx (.own x)) x (.ins C dx [])/\H1 x=none/\H1 dx=none/\dx≠x/\
 WL W H1/\HasL K W H1 ds vs'/\match Im fs (none::Sb nl ds) with
  | .ok es=>∀ H' fl,Same H1 H'->H' x=some (.ins C dx fl)->fl.map (·.1)=fs.map (·.1)->HasL K W H' es (fl.map (·.2))->Q .non H'
  |_=>False
structure FnI(P:ic)(w:vd)(K:td)(mg:xa->Option Fa)(base:ke)(k:Nat)(c:xa)(n nl:Nat)(fs:List (xa×(Ca->Res D))):Prop where
 ex:∃ j C f fd ps,j+1<=k/\FnOk P w K mg base Oo j f fd ps (spI K C n nl c fs)/\Mk K C f/\mg c=some (.ref C)/\kl K jb c=some (some (.ref C))/\Binds K fd ps []
variable{P:ic}{w:vd}{mg:xa->Option Fa}{base:ke}{j k n nl:Nat}
theorem FnI.mono{fs:List (xa×(Ca->Res D))}(F:FnI P w K mg base j c n nl fs)(h:j<=k):FnI P w K mg base k c n nl fs:=by
 obtain⟨i,C,f,fd,ps,a,b⟩:=F.ex;exact⟨i,C,f,fd,ps,uf a h,b⟩
theorem MS{qual:xa}{C fa:ca}{fd:wf}{N ps:List xa}{fs:List (xa×(Ca->Res D))}(F:Fun K "__init__" qual st fa fd)(S:FnScope N ps (Pa st))(M:Mk K C fa)(hm:mg c=some (.ref C))(hc:kl K jb c=some (some (.ref C)))(hb:Binds K fd ps [])(body:∀ (cdv:Fa) (A:je) (outer:List tu) (s:Shared) (H:Hp) (E:XK),Room k (A.deeper (wn qual (Pa st) s.heap.objs.size fa cdv))->
   XIn (Qo Oo P w K mg base N qual (Pa st) fa cdv A outer s H E).nox C (Ad st) fs)(hps:ps.length=n+1:=by rfl)(hN:N.length=nl+1:=by rfl)(hnd:(fs.map (·.1)).Nodup:=by decide +kernel)(hl:fs.length<1000:=by decide):FnI P w K mg base (k+1+1) c n nl fs:=by
 refine⟨k+1,C,fa,fd,ps,jd _,F.ok S (λvs H Q E h=>?_) (λcdv A outer s H vs Q E hr h=>?_),M,hm,hc,hb⟩
 .obtain⟨x,dx,vs',H1,W,ds,rfl,h1,_⟩:=h;rw[ba,h1,hps]
 .obtain⟨x,dx,vs',H1,W,ds,rfl,h1,rfl,hx,hdx,ne,wl,hd,q⟩:=h;have s0:=Pj (N:=kc nl ("":xa)) wl hd;rw[pj]at s0
  have es:L2.start N (V.ref x::vs')=some (V.ref x)::L2.start (kc nl ("":xa)) vs':=by
   unfold L2.start;rw[pj,hN,ba,ac,lg,Nat.add_sub_add_right]
  refine⟨_,(body cdv A outer s _ E hr).h,W,H1,(λb=>W b\/b=x),none::Sb nl ds,x,dx,[],[],?_,by rw[es];rfl,.inr rfl,hx,Ta,HasL.nil,by simpa using hnd,by simpa using hl,?_⟩
  .rw[es];refine⟨(s0.born hx hdx ne).front,λj t v e _ o=>?_⟩;cases j with
   |zero=>cases e
   |succ j=>
    have e:(Sb nl ds)[j]? =some (some t):=e;unfold Sb at e;rcases ag.mp (qe e) with m|m
    .obtain⟨d,_,ed⟩:=jf.mp m;cases ed;exact o
    .have:=(List.mem_replicate.mp m).2;cases this
  .cases h2:Im fs (none::Sb nl ds) with
   |stuck=>rw[h2]at q;exact q.elim
   |ex c gs=>rw[h2]at q;exact q.elim
   |ok es=>
    rw[h2]at q
    exact λH' fl' st' g2 g3 g4=>q H' fl' st'.fr.ext g2 (by simpa using g3) (HasL.keep (λ_ _ e _=>e) st'.fr.wl (λb z=>.inl (.inl z)) (show HasL K (λb=>W b\/b=x) H' es (fl'.map (·.2)) from g4))
variable{gs:Ca->Res (List D)}
section
variable {fs:List (xa×(Ca->Res D))}{p:vg}{fld:xa}
theorem P4(F:FnI X.prog X.w X.K X.mg X.base k c n nl fs)(hr:Room k X.A)(ha:XA X xw (a::es) gs)(hg:Gl X c:=by rfl)(hdb:(c==("__debug__":xa))=false:=by decide)(he:aa (a::es) X.env=(false,eval a X.env)::aa es X.env:=by rfl)(hpl:(zd pos (aa es X.env)).any (·.1)=false:=by rfl):
  XE X xw (.Call (.Name c p) (a::es) [] pos) (b1 (La n (Ss nl c fs)) gs):=⟨by
 obtain⟨j,C,fi,fd,ps,hj,G,M,hm,hn,hb⟩:=F.ex;refine PE.weak (AV M G (hr.mono hj) hg hm hb .nil HA ha.h hdb he hpl) λσ H Q ⟨W₀,H₀,W,δ,st,q⟩=>?_;refine Yl st q λH2 ds vs k w st2 hv _ q2=>?_;unfold La at q2;split at q2
 .rename_i hl;intro x dx hx hdx ne;rw[bj];refine⟨x,dx,vs,H2,W,ds,rfl,by rw[<-hv.length];exact hl,rfl,hx,hdx,ne,w,hv,?_⟩;unfold Ss at q2;cases h:Im fs (none::Sb nl ds) with
  |stuck=>rw[h]at q2;exact q2.elim
  |ex c gs=>rw[h]at q2;exact q2.elim
  |ok es=>
   rw[h]at q2
   exact λH' fl k' g1 g2 g3=>⟨rfl,q2 _ _ k' (by
    rw[Has]
    exact⟨x,C,dx,fl,rfl,hn,g1,(λz=>by obtain⟨o,e,_⟩:=w x z;rw[hx]at e;cases e),g2,g3⟩)⟩
 .exact q2.elim⟩
def Fj(c fld:xa):D->Res D
 | .obj c' ks ds=>if c'=c then(match (ks.zip ds).lookup fld with|some d=>.ok d|none=>.stuck) else .stuck
 |_=>.stuck
structure FldK(K:td)(c fld:xa):Prop where
 ex:∃ C,kl K jb c=some (some (.ref C))/\Cls K C/\NoAttr K C fld
theorem WE{K:td}{W:WS}{H:Hp}{g:xa}{d:D}:∀ {fl:List (xa×V)} {ds:List D},HasL K W H ds (fl.map (·.2))->((fl.map (·.1)).zip ds).lookup g=some d->∃ v,fl.lookup g=some v/\Has K W H d v
 | [],ds,_,e=>by simp at e
 |(k,v)::r,[],h,e=>by simp at e
 |(k,v)::r,d'::ds,h,e=>by
  rw[HasL]at h
  obtain⟨x,r',e1,h1,h2⟩:=h;rw[ac]at e1
  cases e1;rw[ac,Do,yg]at e
  rw[yg];cases hk:g==k with
  |true=>rw[hk]at e;cases e;exact⟨_,rfl,h1⟩
  |false=>rw[hk]at e;exact WE h2 e
theorem Xt(T:FldK X.K c fld)(he:XE X xw e f)(hb:ye e fld X.env (eval e X.env)=eval e X.env:=by rfl):XE X xw (.Attribute e fld pos) (b1 (Fj c fld) f):=
 ⟨PE.weak (E2 he.h hb) λσ H Q ⟨W₀,H₀,W,δ,st,q⟩=>MI st q λH2 d v k w st2 hv _ q2=>by
  unfold Fj at q2;cases d with
  |obj c' ks ds=>
   dsimp only at q2;split at q2
   .rename_i hc;subst hc;split at q2
    .rename_i d' hd;rw[Has]at hv
     obtain⟨ar,C,dx,fl,rfl,hn,hH,_,rfl,hL⟩:=hv;obtain⟨C',hn',cl,na⟩:=T.ex;rw[hn]at hn'
     cases hn';obtain⟨u,hu,hh⟩:=WE hL hd;exact⟨ar,C,dx,fl,u,rfl,hH,cl,na,hu,q2 u H2 (Same.refl _) hh⟩
    .exact q2.elim
   .exact q2.elim
  |_=>exact q2.elim⟩
def B9(w:vd)(e:zu)(p:xa×xa):Prop:=e.hash=UT w (.inr p.1)/\(∃ t,e.key=.str p.1 t)/\∃ t,e.val=.str p.2 t
structure GlobQ(w:vd)(K:td)(mg:xa->Option Fa)(x:xa)(l:List (xa×xa)):Prop where
 h:∃ (ad:ca) (o:ki) (es:Array zu) (n:Nat),mg x=some (.ref ad)/\K.lookup ad=some o/\o.ExactDict/\o.data=.dict es n/\Paired (B9 w) es.toList l/\(l.map (·.1)).Nodup
end
variable{x:xa}{apos cpos:vg}
section
variable {pos' p:vg}
def Qv(j i:Nat):Ca->Out:=λδ=>match δ[i]? with
 |some (some (.o ds))=>match ds[ds.length-1]? with
  |some d=>.nx ((δ.set i (some (.o ds.dropLast))).set j (some (.d d)))
  |none=>.stuck
 |_=>.stuck
theorem HasL.dropLast{ds:List D}{xs:List V}(h:HasL K W H ds xs):HasL K W H ds.dropLast xs.dropLast:=by
 rw[List.dropLast_eq_take,List.dropLast_eq_take,h.length];exact HasL.take _ h
theorem O3(j i:Nat){y:xa}(hNd:X.N.Nodup)(hN:X.N[i]? =some x:=by rfl)(hNj:X.N[j]? =some y:=by rfl)(hv:Wx X.env.scope x:=by first|exact Or.inl rfl|exact Or.inr (Or.inl rfl)|exact Or.inr (Or.inr rfl))(hd:(x==("__debug__":xa))=false:=by decide)(hcd:(x==("__classdict__":xa))=false:=by decide)(hx:Loc X.env.scope y:=by first|exact Or.inl rfl|exact Or.inr rfl)(hbase:ye (.Name x p1) "pop" X.env (eval (.Name x p1) X.env)=eval (.Name x p1) X.env:=by rfl)(hline:(p2.endLine==p3.line)=true:=by rfl)(hsw:ph (.Call (.Attribute (.Name x p1) "pop" p2) [] [] p3) (some (.Name y pos')) pos.line X.env=pure false:=by rfl)(hf:X.fn y=true\/X.env.scope.names.lookup y=some .local:=by first|exact .inl rfl|exact .inr rfl|assumption):
  XS X xw (.Assign [.Name y pos'] (.Call (.Attribute (.Name x p1) "pop" p2) [] [] p3) pos) (Qv j i):=⟨
 PS.weak (Ht hNd hNj hx (B2 aj PySem.F.slot_list_pop PySem.F.type_list_pop B1 (Bi hN hv hd hcd) hbase hline) hsw hf) λDn σ H h=>by
  obtain⟨W₀,H₀,W,δ,st,q⟩:=h;unfold Qv at q;split at q
  .rename_i ds h;split at q
   .rename_i d hd;obtain⟨v,e1,a,xs,rfl,r2,r3,r4,r5⟩:=st.at' i _ h;rw[r5.length]at hd
    obtain⟨u,hu,hh⟩:=r5.get hd;have kk:Pg W H (Pb H a (.lst xs.dropLast)):=λb o e n=>by rw[Ha (λz=>n (by rw[z];exact r2))];exact e
    have st2:=st.change h e1 r4 r2 r5.dropLast;exact⟨_,e1,.inl ⟨rfl,xs,.of r4⟩,a,xs,u,rfl,rfl,r4,hu,q W _ _ ⟨kk,λ_ z=>.inl z⟩ (st2.set (Has.keep kk st.fr.wl (λb z=>.inl z) hh))⟩
   .exact q.elim
  .exact q.elim⟩
theorem Rw(l b:ca)(xs ys:Array Fa)(n m:Nat)(sl:Array (Option Fa))(g0:¬(!xs.isEmpty&&nk (xs.size+ys.size))=true)(g1:xs.size<=sizeLine)(g2:xs.size+ys.size<=sizeLine+1):
  Meets (kj.«list.extend» ⟨[.ref l,.ref b],[]⟩) (λ_ R s=>s.heap.get? l=some {cls:=.type "list",data:=.seq xs n}/\s.heap.get? b=some {cls:=.type "list",data:=.seq ys m,slots:=sl}/\
   R (.ok (.ret .none)) {s with heap:=s.heap.update l (xn (· ++ys))}):=
 .of_wp λ_ _ _ _ s h=>by
  obtain⟨h0,h1,h2,h3,h4⟩:=s;obtain⟨el,eb,r⟩:=h;have g3:(xs++ys).size<=sizeLine+1:=by rw[fu];exact g2
  wp_walk using (mw el rfl (hz:=g1) (_hz':=g3)),wpAny_loadPart' el,wpAny_loadPart' eb;exact⟨_,rfl,r⟩
def X6(K:td):V->List V->Hp->VK->Prop:=λx vs H Q=>∃ l b xs zs,x=.ref l/\vs= [.ref b]/\H l=some (.lst xs)/\SqL K H b zs/\xs.length+zs.length<=sizeLine/\Q .non (Pb H l (.lst (xs++zs)))
theorem CU:U4 X "list.extend" (X6 X.K):=by
 intro pins s σ H x vs v us Q I rx rv h;obtain⟨l,b,xs,zs,rfl,rfl,hH,hB,hz,q⟩:=h;cases rx;obtain⟨u,rfl,ru⟩:=rv.one;cases ru;obtain⟨z,its,n,r,hl,e⟩:=I.lstM hH;obtain⟨its2,r2,⟨⟨cls2,dd2,data2,sl2⟩,n2,e2,hc2,hd2,hs2⟩,hz2⟩:=I.list hB;simp only at hc2 hd2 hs2;subst hc2 hd2 hs2;have k1:=r.length;have k2:=r2.length;have hsz:its.toArray.size+its2.toArray.size<=sizeLine:=by rw[jc,jc];omega
 have hlong:¬ (!its.toArray.isEmpty&&nk (its.toArray.size+its2.toArray.size))=true:=by rw[LN hsz,vp];exact Db
 refine yn F.slot_list_extend ⟨_,e,rfl⟩ F.entry_list_extend (F.args_list_extend_2 _ _) (Rw l b its.toArray its2.toArray n n2 sl2 hlong (by rw[jc];omega) (by omega)) ⟨e,e2,?_⟩;refine⟨.non,_,I.lset (its':=its++its2) hH e (by simp) (r.append r2) ?_,rfl,q⟩;rw[ud];omega
def CL(i:Nat)(δ:Ca)(r:Res D):Out:=match δ[i]? with
 |some (some (.o ds))=>Kj r λx=>match x with
  | .lst es=>@ite Out (ds.length+es.length<=100000) (xc _) (.nx (δ.set i (some (.o (ds++es))))) .stuck
  |_=>.stuck
 |_=>.stuck
def MA(i:Nat)(f:Ca->Res D):Ca->Out:=λδ=>CL i δ (f δ)
theorem M3(i:Nat)(he:XE X xw e f)(hN:X.N[i]? =some x:=by rfl)(hv:Wx X.env.scope x:=by first|exact Or.inl rfl|exact Or.inr (Or.inl rfl)|exact Or.inr (Or.inr rfl))(hd:(x==("__debug__":xa))=false:=by decide)(hcd:(x==("__classdict__":xa))=false:=by decide)(hsE:aa [e] X.env=(false,eval e X.env)::aa [] X.env:=by rfl)(hbase:ye (.Name x p1) "extend" X.env (eval (.Name x p1) X.env)=eval (.Name x p1) X.env:=by rfl)(hfew:((zd p3 (aa [e] X.env)).all (λx=> !x.1)&&(ms p3 (om [] X.env)).all (λx=>x.1.isSome)
   &&decide (([e]:List qc).length+([]:List rk).length+(if([]:List rk).isEmpty then 0 else 1)<30))=true:=by rfl)(hline:(p2.endLine==p3.line)=true:=by rfl)(hplain:(zd p3 (aa [] X.env)).any (·.1)=false:=by rfl)(hsw:ph (.Call (.Attribute (.Name x p1) "extend" p2) [e] [] p3) none pos.line X.env=pure false:=by rfl):
  XS X xw (.Expr (.Call (.Attribute (.Name x p1) "extend" p2) [e] [] p3) pos) (MA i f):=⟨
 PS.weak (Hx (OF aj PySem.F.slot_list_extend PySem.F.type_list_extend CU (Bi hN hv hd hcd) (Xe he.h Hk hsE) hbase hfew hline hsE hplain) hsw) λDn σ H h=>by
  obtain⟨W₀,H₀,W,δ,st,q⟩:=h;unfold MA CL at q;split at q
  .rename_i ds h;obtain⟨v,e1,a,xs,rfl,r2,r3,r4,r5⟩:=st.at' i _ h;refine⟨_,e1,.inl ⟨rfl,xs,.of r4⟩,?_⟩;refine Rj st q λH2 d u st2 hu q2=>?_;cases d with
   |lst es=>
    dsimp only at q2;split at q2
    .rename_i hlen;obtain⟨v',e1',a',ys,e',r2',r3',r4',r5'⟩:=st2.at' i _ h;rw[e1]at e1'
     cases e1';cases e';rw[Has]at hu
     obtain⟨b,zs,rfl,lr,hz⟩:=hu;have sz:sizeLine=16777216:=se;refine⟨a,b,ys,zs,rfl,rfl,r4',lr.sq,?_,?_⟩
     .have:=r5'.length;have:=hz.length;omega
     .refine q2 W _ σ ⟨λc o e n=>?_,λ_ z=>.inl z⟩ (st2.change h e1 r4' r2' (r5'.append hz));rw[Ha (λz=>n (by rw[z];exact r2'))];exact e
    .exact q2.elim
   |_=>exact q2.elim
  .exact q.elim⟩
def SX:V->List V->Hp->VK->Prop:=λx vs H Q=>∃ a kvs k d,x=.ref a/\vs= [kV k,d]/\Rd H a (.dK kvs)/\Q ((Fc kvs k).getD d) H
theorem DU:U4 X "dict.get" SX:=by
 intro pins s σ H x vs v us Q I rx rv h;obtain⟨a,kvs,k,d,rfl,rfl,hr,q⟩:=h;cases rx;cases rv with
 |cons ry rv=>
  obtain⟨u,rfl,ru⟩:=(show Vals [d] _ from rv).one;obtain⟨_,hS,ws,rel,dd⟩:=Fq I.hok hr;refine call_meetsIn PySem.F.slot_dict_get dd.typeIs PySem.F.entry_dict_get (PySem.F.args_dict_get_3 _ _ _) (meets_dict_get_default (Gc X.prog X.w) a (Wo ry) hS u) ⟨_,dd.mapOf,?_⟩;refine⟨_,H,I.tok _,?_,q⟩;obtain⟨g1,g2⟩:=Yo rel k;cases h:Fc kvs k with
  |some z=>
   obtain⟨w',hw,rw'⟩:=g1 z h;rw[hw];exact rw'
  |none=>rw[g2 h];exact ru
def ZE(l:List (Hb×D))(d e:D):Res D:=match Lz d with
 |some k=>.ok ((Fc l k).getD e)
 |none=>.stuck
def UG(f:Ca->Res (List (Hb×D)))(g:Ca->Res (List D)):Ca->Res D:=λδ=>(f δ).bind λl=>(g δ).bind λds=>match ds with
 | [d,e]=>ZE l d e
 |_=>.stuck
theorem ZU{o:qc}{to:TE}{t:TA}(ho:PE X o to)(ha:PA X (e::es) t)(hbase:ye o "get" X.env (eval o X.env)=eval o X.env:=by rfl)(hfew:((zd cpos (aa (e::es) X.env)).all (λx=> !x.1)&&(ms cpos (om [] X.env)).all (λx=>x.1.isSome)
   &&decide ((e::es).length+([]:List rk).length+(if([]:List rk).isEmpty then 0 else 1)<30))=true:=by rfl)(hline:(apos.endLine==cpos.line)=true:=by rfl)(hs:aa (e::es) X.env=(false,eval e X.env)::aa es X.env:=by rfl)(hplain:(zd cpos (aa es X.env)).any (·.1)=false:=by rfl):
  PE X (.Call (.Attribute o "get" apos) (e::es) [] cpos) (λσ H Q=>to σ H λx H1=>(∃ a kvs,x=.ref a/\Rd H1 a (.dK kvs))/\t σ H1 λxs H2=>SX x xs H2 Q):=by
 intro pins s σ H Q I h;refine aw hbase hfew hline rfl (thn (ho pins s σ H _ I h) λv s1 ⟨x,H1,I1,r1,ty,q1⟩=>?_);obtain⟨a,kvs,rfl,hr⟩:=ty;have r2:=r1;cases r2;obtain⟨_,hS,ws,rel,dd⟩:=Fq I1.hok hr;refine⟨"dict","dict.get",PySem.F.plainAttrs_dict,PySem.F.slot_dict_get,PySem.F.type_dict_get,dd.typeIs,dd.mapOf.noDict,?_⟩;have hA:=ha cpos pins s1 σ H1 _ I1 q1;rw[hs]at hA ⊢
 refine gj (by show(false||(zd cpos (aa es X.env)).any (·.1))=false;rw[hplain]<;>rfl) (Calls.evalArgs_plain ?_);exact thn hA λus s2 ⟨vs,H2,I2,r3,q2⟩=>DU pins s2 σ H2 _ vs _ us Q I2 r1 r3 q2
theorem O4{fq:Ca->Res (List (Hb×D))}(ho:XQ X xw a fq)(ha:XA X xw (e::es) gs)(hbase:ye a "get" X.env (eval a X.env)=eval a X.env:=by rfl)(hfew:((zd cpos (aa (e::es) X.env)).all (λx=> !x.1)&&(ms cpos (om [] X.env)).all (λx=>x.1.isSome)
   &&decide ((e::es).length+([]:List rk).length+(if([]:List rk).isEmpty then 0 else 1)<30))=true:=by rfl)(hline:(apos.endLine==cpos.line)=true:=by rfl)(hs:aa (e::es) X.env=(false,eval e X.env)::aa es X.env:=by rfl)(hplain:(zd cpos (aa es X.env)).any (·.1)=false:=by rfl):
  XE X xw (.Call (.Attribute a "get" apos) (e::es) [] cpos) (UG fq gs):=⟨
 PE.weak (ZU ho.h ha.h hbase hfew hline hs hplain) λσ H Q h=>by
  obtain⟨W₀,H₀,W,δ,st,q⟩:=h;unfold UG at q;refine⟨W₀,H₀,W,δ,st,?_⟩;cases h1:fq δ with
  |stuck=>rw[h1]at q;exact q
  |ex c fs=>rw[h1]at q;exact q
  |ok l=>
   rw[h1]at q
   intro ar kvs H1 k1 hr hp;refine⟨⟨ar,kvs,rfl,hr⟩,W₀,H₀,W,δ,st.same k1,?_⟩;simp only[Res.bind_ok]at q;cases h2:gs δ with
   |stuck=>rw[h2]at q;exact q
   |ex c fs=>rw[h2]at q;exact λH2 k2=>q H2 (k1.trans k2)
   |ok ds=>
    rw[h2,Res.bind_ok]at q
    intro vs H2 k2 hvs;split at q
    .rename_i d e';unfold ZE at q;split at q
     .rename_i k hk;rw[HasL]at hvs
      obtain⟨x1,r1,rfl,g1,hvs⟩:=hvs;rw[HasL]at hvs
      obtain⟨x2,r2,rfl,g2,hvs⟩:=hvs;rw[HasL]at hvs
      subst hvs;have e1:=Ij g1.top hk;have hp2:=hp.same k2 (st.same k1).fr.wl;obtain⟨p1,p2⟩:=hp2.get k;refine⟨ar,kvs,k,x2,rfl,by rw[e1],Rd.same hr k2,q _ H2 (k1.trans k2) ?_⟩;cases hg:Fc l k with
      |some d'=>
       obtain⟨v,hv,hh⟩:=p1 d' hg;rw[hv];exact hh
      |none=>rw[p2 hg];exact g2
     .exact q.elim
    .exact q.elim⟩
end
theorem AJ(n:Nat)(g:Ca->Out)(ds:List D)(c:xa)(fs:List D):Xc n g ds≠ .ex c fs:=by
 rw[Pd];cases g (Sb n ds)<;>(intro z;cases z)
theorem Fn.toX(F:Fn P w K mg base k x n (Xc j g)):FnX P w K mg base k x n (Xc j g):=by
 obtain⟨f,fd,ps,a,b⟩:=F.ex
 have sp:∀ vs H Q E,T8 K n (Xc j g) vs H Q E->VX K n (Xc j g) vs H Q E:=λvs H Q E h=>by
  obtain⟨h1,W,ds,h2,h3,q⟩:=h;refine⟨h1,W,ds,h2,h3,?_⟩;cases h:Xc j g ds with
  |ok d=>rw[h]at q;exact q
  |ex c fs=>exact absurd h (AJ j g ds c fs)
  |stuck=>rw[h]at q;exact q
 refine⟨f,fd,ps,⟨λvs H Q E h=>a.len vs H Q E (sp vs H Q E h),λA outer s H args us vs Q E hr h0 hb hv h=>gl (a.run A outer s H args us vs Q E hr h0 hb hv (sp vs H Q E h)) λr s' q=>?_⟩,b⟩;cases r with
 |error e=>exact(show False from q).elim
 |ok fl=>cases fl<;>exact q
section
variable {ff:Ca->Res (List D)}
def TF(ff:Ca->Res (List D)):Ca->Out:=λδ=>Kj (ff δ) λds=>.rt (.lst ds)
theorem GW(he:XF X xw e ff):XSO X xw [.Return (some e) pos] (TF ff):=⟨PSs.weak (Ar (Cp he.h)) λDn σ H h=>by
 obtain⟨W₀,H₀,W,δ,st,q⟩:=h;unfold TF at q;refine⟨W₀,H₀,W,δ,st,?_⟩;cases h1:ff δ with
 |stuck=>rw[h1]at q;exact q
 |ex c fs=>rw[h1]at q;exact λH' k'=>q H' (st.fr.ext.trans k')
 |ok ds=>
  rw[h1]at q
  intro a xs H1 k n r;have sm:Same H1 (Pb H1 a (.lst xs)):=λc o e=>by rw[Ha (Ua e n)];exact e
  refine q a xs _ ((st.fr.ext.trans k).trans sm) (Same.free (st.fr.ext.trans k) n) Ta (HasL.keep (Same.keep sm) (st.same k).fr.wl (λb z=>?_) r);rcases z with z|z
  .exact .inl (st.fr.sub b z)
  .exact .inr (by rw[z];exact n)⟩
end
def FI:D->D->Res D
 | .str x,.int n=>@ite (Res D) (0<=n/\n<=1000/\x.length<=1000) (xc _) (.ok (.str (ii x n))) .stuck
 |_,_=>.stuck
theorem UC:MulOk x 0:=by
 refine⟨?_,λ_ h=>?_,λh=>?_⟩<;>first|rfl|omega|simp_all|decide
theorem QP(ha:XP X xw a fa)(hb:XP X xw b fb):XE X xw (.BinOp a .Mult b pos) (b2 FI fa fb):=⟨by
 refine Wm PU (λW H d e v u Q w hv hu q=>?_) ha.h hb.h;unfold FI at q;split at q
 .split at q
  .rename_i n hj;refine⟨_,_,hv.str,hu.int,?_,q.str⟩;by_cases h:1<=n
   .exact Qz h hj.2.1 hj.2.2
   .have:n=0:=by omega
    rw[this];exact UC
  .exact q.elim
 .exact q.elim⟩
end L3
namespace L2
open PySem PySem.Spec PyProof.Rows
variable {X:Cx}{pos:vg}
end L2
namespace L3
open PySem PySem.Spec PyProof.Rows L2 SeqAt
variable {X:Cx}{pos:vg}{tgs:List qc}{ts:List D->Ca->Res Ca}
end L3
namespace PySem
open Sem (wp)
section
variable {prog:ic}{w:vd}{A:je}{E:Fa->Shared->Prop}{h:ke}{g:Array ql}{d:Drawn}{t:Nat}{os:OsState}
variable {nm q:xa}{C N f:ca}{bs bm bmB:List Fa}{hdct:Bool}{sn:List xa}{sub:List Fa}{ab:Bool}{col:Option Bool}{dd:Option ca}{k0 k1 k2 k3 k5:Option Fa}{B newId initId:String}
end
end PySem
namespace PySem
open Sem (wp)
open Builtin Builtin.ObjectAttr W
section
variable {prog:ic}{w:vd}{A:je}{E:Fa->Shared->Prop}{h:ke}{g:Array ql}{d:Drawn}{t:Nat}{os:OsState}{K:td}
variable {nm q:xa}{C N e:ca}{bs bm bmB:List Fa}{hdct:Bool}{sn:List xa}{sub:List Fa}{ab:Bool}{col:Option Bool}{dd:Option ca}{k0 k1 k2 k3 k5:Option Fa}{newId:String}
abbrev YX:List Fa:= [.type "ValueError",.type "Exception",.type "BaseException",.type "object"]
def OX:Nat->List Fa->Bool
 |0,l=>l==YX
 |n+1,.ref _::r=>OX n r
 |_+1,_=>false
end
end PySem
namespace PySem
open Sem (wp)
open W
section
variable {prog:ic}{w:vd}{A:je}{E:Fa->Shared->Prop}{h:ke}{g:Array ql}{d:Drawn}{t:Nat}{os:OsState}
variable {nm q:xa}{C N e:ca}{bs bm bmB:List Fa}{hdct:Bool}{sn:List xa}{sub:List Fa}{ab:Bool}{col:Option Bool}{dd:Option ca}{k0 k1 k2 k3 k5:Option Fa}{B newId initId:String}
end
end PySem
namespace L2
open PySem PySem.Spec PyProof.Rows
def QG(a C:ca)(h:ke):Prop:=∃ t0 sl,h.get? a=some ⟨.ref C,none,.fields #[.ref t0,.none,.none,.none,.bool false,.none],sl⟩
def RG(a C:ca)(dx:Option ca)(h:ke):Prop:=∃ t0 sl,h.get? a=some ⟨.ref C,dx,.fields #[.ref t0,.none,.none,.none,.bool false,.none],sl⟩
structure XInit(K:td)(C S f:ca):Prop where
 obj:∃ nm q N bs bm hdct sn sub ab col dd k0 k1 k2 k3 k5,K.lookup C=some (excClassObj nm q C N bs bm hdct sn sub ab col dd k0 k1 k2 k3 k5 "ValueError.__new__")/\PySem.W.nsOkIn K N=true/\
  kl K N "__init__"=some (some (.ref f))/\PySem.W.tailIn K YX bm=true
 ini:PySem.W.typeIn K (.ref f)=some (.type "function")
 kpC:mf K (.ref C)=true
 sa:ik K (.ref C) "__setattr__"=some (some (.builtin "object.__setattr__"))
 ob:mroIn K C (.type "object")=some true
 cl:∃ cd n,PySem.W.clsIn K C=some cd/\OX n cd.mro=true/\cd.hasDict=true
 bga:specialIn K (.ref S) "__getattribute__"=some (some (.builtin "type.__getattribute__"))
 brd:PySem.W.readsIn K S (.type "type")=true
 bfi:PySem.W.findCls K (.ref S) (.type "type") "__init__"=some (.val (.builtin "ValueError.__init__"))
section
variable {X:Cx}{pos p apos p2:vg}{a b o e:qc}{es:List qc}{ta tb to:TE}{t:TA}{C S f:ca}
end
end L2
namespace L3
open PySem PySem.Spec PyProof.Rows L2 SeqAt
def spE(C:ca)(attr:xa):Sp:=λvs H Q _=>∃ a i,vs= [.ref a,.int i]/\i.natAbs.log2<1920/\(toString i:xa).length<=1000/\H a=some (.ext (QG a C))/\∀ d,H d=none->Q .non (Pb (Pb H a (.ext (RG a C (some d)))) d (.xd [(attr,.int i)]))
structure XInE(X:Cx)(C:ca)(attr:xa)(sts:List sf):Prop where
 h:PSs X sts (λD σ H=>∃ a i,σ[0]? =some (some (.ref a))/\σ[1]? =some (some (.int i))/\i.natAbs.log2<1920/\(toString i:xa).length<=1000/\H a=some (.ext (QG a C))/\∀ d,H d=none->D.nx σ (Pb (Pb H a (.ext (RG a C (some d)))) d (.xd [(attr,.int i)])))
variable{X:Cx}
section
variable {C S f:ca}{xb self x attr c0:xa}{p1 p2 p3 p4 p5 p6 p7 p8 p9 q1 q2 q3 q4:vg}{j:Nat}
end
section
variable {pins:List (ca×ki)}{σ:L2.St}{H:Hp}{s:Shared}{a C:ca}{dx:Option ca}{M:Model}{Ex:Fa->Shared->Prop}
end
end L3
namespace PySem
open Sem (wp)
section
variable {M:Model}{A:je}{E:Fa->Shared->Prop}{s:Shared}{env:tu}
variable {nm q:xa}{C N:ca}{bs bm:List Fa}{hdct:Bool}{sn:List xa}{sub:List Fa}{ab:Bool}{col:Option Bool}{dd:Option ca}{k0 k1 k2 k3 k5:Option Fa}{newId:String}
end
end PySem
namespace L2
open PySem PySem.Spec PyProof.Rows
section
variable {X:Cx}{C S f:ca}{fd:wf}{ps:List xa}{sp:Sp}{k:Nat}{x:xa}{p pos:vg}{e:qc}{es:List qc}{t:TA}
end
end L2
namespace L3
open PySem PySem.Spec PyProof.Rows L2 SeqAt
structure FnE(P:ic)(w:vd)(K:td)(mg:xa->Option Fa)(base:ke)(k:Nat)(c attr:xa):Prop where
 ex:∃ j C S f fd ps,j+1<=k/\FnOk P w K mg base Oo j f fd ps (spE C attr)/\XInit K C S f/\mg c=some (.ref C)/\kl K jb c=some (some (.ref C))/\Binds K fd ps []
variable{X:Cx}{xw:XW}
section
variable {C S f:ca}{fd:wf}{ps:List xa}{k:Nat}{x c attr:xa}{p pos np cpos:vg}{e a:qc}{es:List qc}{t:TA}{fs:Ca->Res (List D)}
end
section
variable {tg it:qc}{f:Ca->Res (List D)}
end
end L3
namespace L3
open PySem PySem.Spec PySem.Calls PyProof.Rows PySem.W Builtin Builtin.ObjectAttr Builtin.Getset_descriptor
section
variable {prog:ic}{w:vd}{A:je}{E:Fa->Shared->Prop}{h:ke}{g:Array ql}{d:Drawn}{t:Nat}{os:OsState}{K:td}{a C:ca}{o:ki}{od:Option ki}{name:xa}{v:Fa}
end
end L3
namespace L3
open PySem PySem.Spec PyProof.Rows L2 SeqAt
structure FldX(K:td)(c attr:xa):Prop where
 ex:∃ C,kl K jb c=some (some (.ref C))/\ExcK K C/\wu K C=true/\ik K (.ref C) attr=some none
section
variable {X:Cx}{xw:XW}{e:qc}{f:Ca->Res D}{pos:vg}{attr:xa}{ta:TE}
end
end L3
namespace PySem
open Sem (wp)
open Builtin Builtin.ObjectAttr W
section
variable {prog:ic}{w:vd}{A:je}{E:Fa->Shared->Prop}{h:ke}{g:Array ql}{d:Drawn}{t:Nat}{os:OsState}{K:td}{C e dx:ca}{m:xa->Option Fa}{ns:List xa}
end
end PySem
namespace L2
open PySem PySem.Spec PyProof.Rows
def UJ:V->Prop
 | .int i=>i.natAbs.log2<1920/\(toString i:xa).length<=1000
 | .str x=>(reprText x).length<=1000
 | .non=>True
 |_=>False
structure PJ(X:Cx)(parts:List qc)(P:St->Prop)(b:Nat):Prop where
 h:∀ (pins:List (ca×ki)) (s:Shared) (σ:St) (H:Hp) (acc:xa) (Q:Fa->Shared->Prop),Inv X pins σ H s->P σ->acc.length+b<=sizeLine->(∀ s' z tk,Inv X pins σ H s'->Q (.str z tk) s')->wa (pb X.prog X.w) X.A (joinParts acc (evalEach parts X.env)) Q X.xe s
variable{X:Cx}
section
variable {pos p:vg}{parts:List qc}{P:St->Prop}{b:Nat}
end
variable{f:ca}
section
variable {apos:vg}{o:qc}{to:TE}{C S:ca}
end
structure RoomH(k:Nat)(A:je):Prop where
 dp:A.depth+3*k+5<recursionLimit
 un:A.units+16*k+200<zr
 gd:A.guards=some []
structure FnOkH(P:ic)(w:vd)(K:td)(mg:xa->Option Fa)(base:ke)(CX:EB)(k:Nat)(f:ca)(fd:wf)(ps:List xa)(sp:Sp):Prop where
 len:∀ vs H Q E,sp vs H Q E->vs.length=ps.length
 run:∀ (A:je) (outer:List tu) (s:Shared) (H:Hp) (args:Args) (us:List Fa) (vs:List V) (Q:VK) (E:XK),RoomH k A->Env0 P w K mg base A outer s H->xv s fd args (ps.zip us)->Vals vs us->sp vs H Q E->
  im (pb P w) A (.call (.ref f) args) (CR CX outer P w H s Q E) s
section
variable {C S:ca}{fd:wf}{ps:List xa}{sp:Sp}{k:Nat}
end
end L2
namespace L3
open PySem PySem.Spec PyProof.Rows L2 SeqAt
def GY:Bool->V->Prop
 |true,v=>∃ n,v=.int n/\UJ (.int n)
 |false,v=>UJ v
def SmallL:List (xa×Bool)->List V->Prop
 | [],[]=>True
 |k::ks,v::vs=>GY k.2 v/\SmallL ks vs
 |_,_=>False
def spG(C:ca)(ks:List (xa×Bool)):Sp:=λvs H Q _=>∃ a xs,vs=.ref a::xs/\SmallL ks xs/\H a=some (.ext (QG a C))/\∀ d,H d=none->Q .non (Pb (Pb H a (.ext (RG a C (some d)))) d (.xd ((ks.map (·.1)).zip xs)))
theorem SmallL.length:∀ {ks:List (xa×Bool)} {xs:List V},SmallL ks xs->xs.length=ks.length
 | [],[],_=>rfl
 |_::_,_::_,h=>by rw[ba,ba,SmallL.length h.2]
 | [],_::_,h=>h.elim
 |_::_,[],h=>h.elim
structure XInG(X:Cx)(C:ca)(ks:List (xa×Bool))(sts:List sf):Prop where
 h:PSs X sts (λD σ H=>∃ a xs,σ[0]? =some (some (.ref a))/\(∀ i v,xs[i]? =some v->σ[i+1]? =some (some v))/\SmallL ks xs/\H a=some (.ext (QG a C))/\∀ d,H d=none->D.nx σ (Pb (Pb H a (.ext (RG a C (some d)))) d (.xd ((ks.map (·.1)).zip xs))))
variable{X:Cx}{f:ca}{x:xa}
section
variable {C S:ca}{xb self y attr attr2:xa}{p1 p2 p3 p7 p8 p9 q1 q2 q3 q4 r1 r2 r3 r4:vg}{v1 v2:qc}{rest:List qc}{P:L2.St->Prop}{b:Nat}{k k2:Bool}
end
structure FnG(P:ic)(w:vd)(K:td)(mg:xa->Option Fa)(base:ke)(k:Nat)(c:xa)(ks:List (xa×Bool)):Prop where
 ex:∃ j C S f fd ps,j+1<=k/\FnOkH P w K mg base Oo j f fd ps (spG C ks)/\XInit K C S f/\mg c=some (.ref C)/\kl K jb c=some (some (.ref C))/\Binds K fd ps []
section
variable {xw:XW}{C S:ca}{fd:wf}{ps:List xa}{k:Nat}{c:xa}{ks:List (xa×Bool)}{p pos np cpos:vg}{e a:qc}{es:List qc}{t:TA}{fs:Ca->Res (List D)}
end
end L3
namespace PySem
open Sem (wp)
section
variable {prog:ic}{w:vd}{A:je}{E:Fa->Shared->Prop}{s:Shared}{env:tu}
variable {nm q:xa}{C N:ca}{bs bm:List Fa}{hdct:Bool}{sn:List xa}{sub:List Fa}{ab:Bool}{col:Option Bool}{dd:Option ca}{k0 k1 k2 k3 k5:Option Fa}{newId:String}
end
end PySem
namespace L3
open PySem PySem.Spec PyProof.Rows L2 SeqAt
variable{X:Cx}{pins:List (ca×ki)}{σ:L2.St}{H:Hp}{s:Shared}{b:ca}{A:je}{Ex:Fa->Shared->Prop}
section
variable {s1:Shared}{C:ca}{cls a0:Fa}{dx:Option ca}{M:Model}{Q:Unit->Shared->Prop}
end
variable{xw:XW}{k:Nat}{c:xa}{np cpos pos:vg}{a:qc}{es:List qc}
section
variable {ar:ca}{ks:List (xa×Bool)}{p:vg}{j:Nat}{fs:Ca->Res (List D)}
end
variable{pos2 p2:vg}{st:sf}{x:xa}
section
variable {ea:qc}{eas:List qc}{fs fa:Ca->Res (List D)}{p hpos tpos np2 cpos2:vg}{orelse:List sf}{k2 nn jj:Nat}{C n c2:xa}{ks:List (xa×Bool)}{m:List D->Res D}{gK:D->Ca->Out}{go:Ca->Out}
end
def eqT(l m:List (Hb×D)):Bool:=(l.length==m.length)&&l.all λp=>match Fc m p.1 with
 |some y=>Tf p.2 y
 |none=>false
def Q9(d e:D):Res D:=match d,e with
 | .dct ks ds,.dct js es=>if(ds.all (Qb 39)&&es.all (Qb 39))=true then .ok (.bl (eqT (ks.zip ds) (js.zip es))) else .stuck
 |_,_=>.stuck
def GI(d e:D):Res D:=match d,e with
 | .dct ks ds,.dct js es=>if(ds.all (Qb 39)&&es.all (Qb 39))=true then .ok (.bl (!eqT (ks.zip ds) (js.zip es))) else .stuck
 |_,_=>.stuck
variable{W:WS}{K:td}{ds:List D}
theorem D0(I:Inv X pins σ H s)(hu:A.units+39<zr){m:List (Hb×D)}{kb:List (Hb×V)}{vb:List (Hb×Fa)}(hm:HasP X.K W H m kb)(rb:KV kb vb)(gm:∀ p∈m,Qb 39 p.2=true):
  ∀ {l:List (Hb×D)} {ka:List (Hb×V)} {va:List (Hb×Fa)},HasP X.K W H l ka->KV ka va->(∀ p∈l,Qb 39 p.2=true)->
   PySem.W.KeqHits A s vb va (l.all λp=>match Fc m p.1 with|some y=>Tf p.2 y|none=>false):=by
 intro l
 induction l with
 |nil=>
  intro ka va h r _;obtain⟨h1,_⟩:=h;cases ka with
  |nil=>cases r;exact .nil
  |cons _ _=>cases h1
 |cons p l ih=>
  intro ka va h r g;obtain⟨v,t,rfl,h1,h2⟩:=h.cons;cases r with
  |cons q r=>
   rename_i b u;obtain⟨k,d⟩:=p;obtain⟨kk,uu⟩:=b;obtain⟨q1,q2⟩:=q;dsimp only at q1 q2;subst q1;rw[ls];cases hg:Fc m k with
   |none=>
    have:=(Yo rb k).2 ((hm.get k).2 hg);exact .miss this
   |some y=>
    obtain⟨w1,e1,hy⟩:=(hm.get k).1 y hg;obtain⟨u1,e2,r1⟩:=(Yo rb k).1 w1 e1
    have gy:Qb 39 y=true:=by
     have:∀ (m:List (Hb×D)),Fc m k=some y->∃ p∈m,p.2=y:=by
      intro m
      induction m with
      |nil=>intro e;cases e
      |cons z m ih2=>
       intro e;by_cases hz:z.1=k
       .rw[Ng hz]at e;cases e;exact⟨z,ib,rfl⟩
       .rw[Rf hz]at e
        obtain⟨p,hp,ep⟩:=ih2 e;exact⟨p,ua _ hp,ep⟩
     obtain⟨p,hp,ep⟩:=this m hg;rw[<-ep];exact gm p hp
    exact .hit e2 (VB I 39 A hu (.inl h1) (.inl hy) q2 r1 (g _ ib) gy).1 (ih h2 r λz hz=>g z (ua _ hz))
def Ca0(K:td)(f:Bool->Bool):R2:=λx y H Q=>∃ W l m a b ka kb,x=.ref a/\y=.ref b/\Rd H a (.dK ka)/\Rd H b (.dK kb)/\HasP K W H l ka/\HasP K W H m kb/\(∀ p∈l,Qb 39 p.2=true)/\(∀ p∈m,Qb 39 p.2=true)/\Q (.bl (f (eqT l m))) H
theorem X1(hu:X.A.units+40<zr):OpR X (zh .NotEq) (Ca0 X.K not):=by
 intro pins s σ H x y v u Q I rx ry h;obtain⟨W,l,m,a,b,ka,kb,rfl,rfl,ha,hb,hl,hm,g1,g2,q⟩:=h;cases rx;cases ry;obtain⟨_,sa,va,ra,da⟩:=Fq I.hok ha;obtain⟨_,sb,vb,rb,db⟩:=Fq I.hok hb;have hits:=D0 I (A:=X.A.in1) (by show X.A.units+1+39<zr;omega) hm rb g2 hl ra g1;refine PySem.W.keq_ne sa sb da db (by omega) (λ_=>hits) ⟨.bl (!(va.length==vb.length&&l.all λp=>match Fc m p.1 with|some y=>Tf p.2 y|none=>false)),H,I,rfl,?_⟩;rw[<-Wh ra,<-Wh rb,<-hl.len,<-hm.len];exact q
theorem IK{ks:List Hb}{v:V}(h:HasT K W H (.dct ks ds) v):∃ a kvs,v=.ref a/\Rd H a (.dK kvs)/\HasP K W H (ks.zip ds) kvs/\(ks.zip ds).map (·.2)=ds:=by
 rcases h with h|⟨_,_,_,h1,_⟩
 .rw[Has]at h
  obtain⟨a,kvs,rfl,e,h1,h2⟩:=h;obtain⟨p1,p2,p3⟩:=HasP.of h1 h2;exact⟨a,kvs,rfl,.inr e,p1,p3⟩
 .cases h1
theorem DB{l:List (Hb×D)}(h:l.map (·.2)=ds)(g:ds.all (Qb 39)=true):∀ p∈l,Qb 39 p.2=true:=λp hp=>by
 rw[<-h,Uf]at g
 exact g _ (jf.mpr ⟨p,hp,rfl⟩)
theorem P5(hu:X.A.units+40<zr):CmpR X xw .NotEq GI:=⟨⟨_,X1 hu,λW H d e v u Q w hv hu q=>by
  unfold GI at q;split at q
  .split at q
   .rename_i hs;rw[ze]at hs
    obtain⟨a,ka,e1,r1,p1,z1⟩:=IK hv;obtain⟨b,kb,e2,r2,p2,z2⟩:=IK hu;exact⟨W,_,_,a,b,ka,kb,e1,e2,r1,r2,p1,p2,DB z1 hs.1,DB z2 hs.2,q.bl⟩
   .exact q.elim
  .exact q.elim⟩,(λd e z h=>by
   unfold GI at h;split at h
   .split at h<;>cases h;exact⟨_,rfl⟩
   .cases h),by decide,by decide⟩
section
variable {p:vg}{fa:Ca->Res D}
theorem MB:Di X (.type "dict") (λxs H Q=>∃ (l:ca) (kvs:List (Hb×V)),xs= [.ref l]/\Rd H l (.dK kvs)/\∀ n o,H n=none->Q (.ref n) (Pb H n (.frz o (.dK kvs)))):=by
 intro pins s σ H xs us Q I r h;obtain⟨l,kvs,rfl,hq,q⟩:=h;obtain⟨u,rfl,ru⟩:=vals1 r;cases ru;obtain⟨hz,hS,vs,kv,dd⟩:=Fq I.hok hq
 have big:Tl<s.heap.objs.size:=by
  have h:jb<s.heap.objs.size:=(I.mod.glob.keeps I.bk).lt;exact On (by decide) h
 refine kt_call_dict hS dd (by rw[<-Wh kv];exact hz) λh' dn same=>?_;obtain⟨ob',es,ep,ho',rr⟩:=id dn;have kk:∀ b o,s.heap.get? b=some o->h'.get? b=some o:=λb o e=>(same.2 b (Re (qd e))).trans (ja _ e);exact⟨.ref s.heap.objs.size,_,I.laid (a:=s.heap.objs.size) (o:=.frz ob' (.dK kvs)) (t':=s.toks) kk (jd _) ⟨ho',hz,beq_eq_false_iff_ne.mpr (qk (Re big)),_,kv,dn⟩,rfl,q _ ob' I.fresh⟩
def Xr:D->Res D
 | .dct ks ds=>.ok (.dct ks ds)
 |_=>.stuck
theorem QW(hm:X.mg "dict"=none)(ha:XP X xw a fa)(hg:Gl X "dict":=by rfl)(he:aa [a] X.env=(false,eval a X.env)::aa [] X.env:=by rfl)(hpl:(zd pos (aa [] X.env)).any (·.1)=false:=by rfl):
  XE X xw (.Call (.Name "dict" p) [a] [] pos) (b1 Xr fa):=
 ⟨Ro MB (λW H d v Q w hv q=>by
  unfold Xr at q;split at q
  .rcases hv with hv|⟨_,_,_,h1,_⟩
   .rw[Has]at hv
    obtain⟨ad,kvs,rfl,e,h1,h2⟩:=hv;refine⟨ad,kvs,rfl,.inr e,λn o hn=>q _ _ (Ec hn) ?_⟩;rw[Has];exact⟨n,kvs,rfl,⟨o,Ta⟩,h1,h2.same (Ec hn) w⟩
   .cases h1
  .exact q.elim) hm (by decide +kernel) ha.h hg (by decide) (by decide) he hpl⟩
end
variable{W₀:WS}{H₀:Hp}
section
variable {W1:WS}{H1:Hp}{Dn:Ends}
def F5(K:td)(W₀:WS)(H₀:Hp)(ks:List Hb)(ds:List D)(Q:V->Hp->Prop):Prop:=∀ a kvs H',Same H₀ H'->H₀ a=none->H' a=some (.dK kvs)->kvs.map (·.1)=ks->HasL K (λb=>W₀ b\/b=a) H' ds (kvs.map (·.2))->Q (.ref a) H'
def RSQ(K:td)(xw:XW)(W₀:WS)(H₀:Hp)(W:WS)(H:Hp)(o:Out)(Dn:Ends):Prop:=match o with
 | .rt (.dct ks ds)=>F5 K W₀ H₀ ks ds Dn.rt
 |o=>RS K xw W₀ H₀ W H o Dn
def Wa0(K:td)(xw:XW)(g:Ca->Out):TS:=λDn σ H=>∃ W₀ H₀ W δ,StHas K W₀ H₀ W H σ δ/\RSQ K xw W₀ H₀ W H (g δ) Dn
end
structure NoQ(g:Ca->Out):Prop where
 h:∀ δ ks ds,g δ≠ .rt (.dct ks ds)
section
variable {sts:List sf}{g1 g2:Ca->Out}{p:vg}
structure XSQ(X:Cx)(xw:XW)(sts:List sf)(g:Ca->Out):Prop where
 h:PSs X sts (Wa0 X.K xw g)
def Pa0(K:td)(n:Nat)(m:List D->Res D):Sp:=λvs H Q E=>vs.length=n/\∃ W ds,WL W H/\HasL K W H ds vs/\match m ds with
 | .ok (.dct ks fs)=>F5 K W H ks fs Q
 | .ok d=>∀ v H',Same H H'->Has K W H' d v->Q v H'
 | .ex c fs=>∀ cls dx H',kl K jb c=some (some cls)->Same H H'->ExF H' dx fs->E cls dx H'
 | .stuck=>False
structure FnQX(P:ic)(w:vd)(K:td)(mg:xa->Option Fa)(base:ke)(k:Nat)(x:xa)(n:Nat)(m:List D->Res D):Prop where
 ex:∃ f fd ps,FnOk P w K mg base (J8 P w) k f fd ps (Pa0 K n m)/\mg x=some (.ref f)/\mf K (.ref f)=true/\Binds K fd ps []
end
theorem IG:∀ {xs:List V} {us:List Fa},xs.length=us.length->(∀ (i:Nat) (x:V) (u:Fa),xs[i]? =some x->us[i]? =some u->RelV x u)->Vals xs us
 | [],[],_,_=>.nil
 | [],_::_,h,_=>by simp at h
 |_::_,[],h,_=>by simp at h
 |x::xs,u::us,h,r=>.cons (r 0 x u rfl rfl) (IG (by simpa using h) λi y v e1 e2=>r (i+1) y v (by simpa using e1) (by simpa using e2))
variable{e:qc}{f:Ca->Res D}
section
variable {p:vg}
end
def MJ(G H:Hp):Hp:=λb=>match G b with
 |some o=>some o
 |none=>H b
variable{G:Hp}
theorem Qs{o:HO}(h:G b=some o):MJ G H b=some o:=by unfold MJ;rw[h]
theorem Ol(h:G b=none):MJ G H b=H b:=by unfold MJ;rw[h]
theorem _root_.L2.Inv.laids{h':ke}{t':Nat}(I:Inv X pins σ H s)(k:∀ b u,s.heap.get? b=some u->h'.get? b=some u)(hG:∀ b o,G b=some o->s.heap.objs.size<=b)(new:∀ b o,G b=some o->ObjOk X.prog X.w (MJ G H) h' b o):Inv X pins σ (MJ G H) {s with heap:=h',toks:=t'}:=by
 have gn:∀ b o,H b=some o->G b=none:=λb o e=>by
  cases h:G b with
  |none=>rfl
  |some u=>
   have:=hG b u h;rw[I.hok.fresh this]at e;cases e
 have gh:∀ b o,s.heap.get? b=some o->G b=none:=λb o e=>by
  cases h:G b with
  |none=>rfl
  |some u=>exact absurd (yd (qd e) (hG b u h)) (oh _)
 have keep:∀ b o,H b=some o->MJ G H b=some o:=λb o e=>by rw[Ol (gn b o e)];exact e
 refine I.un ⟨λb u q _ _ _=>k b u q,λb u q _ _ _=>⟨u.slots,k b u q⟩,λb u q n _=>by rw[Ol (gh b u q)];exact n,λb u q _=>⟨u,k b u q⟩,λb xs q=>keep b _ q,λb o u q=>keep b _ q,λb ps q=>⟨#[],by rw[keep b _ q];simp⟩⟩ λb u e=>?_;cases h:G b with
 |some o=>
  rw[Qs h]at e;cases e
  exact new b u h
 |none=>
  rw[Ol h]at e
  exact(I.hok b u e).stay (λc v _ q=>k c v q) (λc q=>keep c _ q) λc xs q=>keep c _ q
theorem UP{β:Type}:∀ {as:List ca} {ks:List β} {j:Nat} {b:ca} {p:β},as.Nodup->as[j]? =some b->ks[j]? =some p->(as.zip ks).lookup b=some p
 | [],_,_,_,_,_,h,_=>by simp at h
 |_::_,[],_,_,_,_,_,h=>by simp at h
 |a::as,q::ks,0,b,p,hn,h1,h2=>by
  have e1:a=b:=by simpa using h1
  have e2:q=p:=by simpa using h2
  subst e1 e2;simp
 |a::as,q::ks,j+1,b,p,hn,h1,h2=>by
  rw[mm]at hn
  have h1':as[j]? =some b:=by simpa using h1
  have ne:(b==a)=false:=by
   rw[beq_eq_false_iff_ne];intro z;rw[z]at h1'
   exact hn.1 (qe h1')
  rw[Do,yg,ne];exact UP hn.2 h1' (by simpa using h2)
theorem UM{β:Type}:∀ {as:List ca} {ks:List β} {b:ca} {p:β},(as.zip ks).lookup b=some p->∃ j:Nat,as[j]? =some b/\ks[j]? =some p
 | [],_,_,_,h=>by simp at h
 |_::_,[],_,_,h=>by simp at h
 |a::as,q::ks,b,p,h=>by
  rw[Do,yg]at h
  by_cases e:(b==a)=true
  .rw[e]at h
   have:q=p:=by simpa using h
   exact⟨0,by simpa using (beq_iff_eq.mp e).symm,by simpa using this⟩
  .have e':(b==a)=false:=by simpa using e
   rw[e']at h
   obtain⟨j,h1,h2⟩:=UM h;exact⟨j+1,by simpa using h1,by simpa using h2⟩
variable{apos:vg}
section
variable {p:vg}
def VH(a:ca):ki:= {cls:=.type "dict_items",data:=.fields #[.ref a]}
theorem UN{te:TE}(hc:X.calm=true)(hm:X.mg "list"=none)(hg:Gl X "list")(h:PE X e te)(hbase:ye e "items" X.env (eval e X.env)=eval e X.env)(hline:(apos.endLine==pos2.line)=true)(he:aa [.Call (.Attribute e "items" apos) [] [] pos2] X.env=(false,eval (.Call (.Attribute e "items" apos) [] [] pos2) X.env)::aa [] X.env)(hpl:(zd pos (aa [] X.env)).any (·.1)=false):
  PE X (.Call (.Name "list" p) [.Call (.Attribute e "items" apos) [] [] pos2] [] pos) (λσ H Q=>te σ H λx H1=>∃ a o kvs,x=.ref a/\H1 a=some (.frz o (.dK kvs))/\kvs.length<=sizeLine/\
   ∀ (n:ca) (as:List ca) (H2:Hp),as.length=kvs.length->Same H1 H2->(∀ (j:Nat) (b:ca) (q:Hb×V),as[j]? =some b->kvs[j]? =some q->H1 b=none/\H2 b=some (.tup [kV q.1,q.2]))->H2 n=none->Q (.ref n) (Pb H2 n (.lst (as.map V.ref)))):=by
 intro pins s σ H Q I q;refine lh (Dk I hg hm (show vf "list"=some (.type "list") by decide +kernel) ?_ (by decide) (by decide));refine cg ?_ he hpl;rw[he];show wa _ _ (spliced ((false,eval _ X.env)::zd pos (aa [] X.env))) _ _ s;refine vn (ko hbase hline (thn (h pins s σ H _ I q) λv s1 ⟨x,H1,I1,r1,q1⟩=>?_));obtain⟨a,o,kvs,rfl,hq,hn,qn⟩:=q1;cases r1;obtain⟨h1',_,hS,vs',r',o',es,ep,g1,g2,g3,g4⟩:=(show _/\_ from I1.hok a _ hq)
 rw[h1']at g1;cases g1
 obtain⟨hs,vs,rel,dat⟩:=Iw I1.hok hq g3;refine⟨"dict","dict.items",F.plainAttrs_dict,F.slot_dict_items,F.type_dict_items,dat.dictOf.typeIs,λb z=>by cases z;exact⟨o,h1',g2.2.1⟩,gj rfl (yq ?_)⟩;refine call_meetsIn F.slot_dict_items dat.dictOf.typeIs F.entry_dict_items (F.args_dict_items_1 _) (meets_dict_items (Gc X.prog X.w) a hs) ⟨⟨vs,dat.dictOf⟩,?_⟩;refine bp ?_;have v1:Heap.IsItemsView (s1.heap.push (VH a)) s1.heap.objs.size a:=⟨_,yc _ rfl,rfl,rfl⟩
 have sz:(s1.heap.push (VH a)).objs.size=s1.heap.objs.size+1:=sk ..;refine PySem.W.kdx_call (s:= {s1 with heap:=s1.heap.push (VH a)}) (knd:=Gc X.prog X.w) (kvs:=vs) (ep:=ep) (I1.ok.hd hc) v1 (dat.push _) (by rw[<-Wh rel];exact hn) λh' tk acc c as kk hS' hl hG hacc=>?_;have hlen:as.length=kvs.length:=by rw[hl];exact(Wh rel).symm
 have nd:as.Nodup:=vk.imp (λh=>Re h) hG.rise;have n0:s1.heap.objs.size<=(s1.heap.push (VH a)).objs.size:=by rw[sz];exact gp _
 have ab:∀ b∈as,(s1.heap.push (VH a)).objs.size<b:=hG.above;obtain⟨G,hGd⟩:∃ G:Hp,G=λb=>((as.zip kvs).lookup b).map λq=>HO.tup [kV q.1,q.2]:=⟨_,rfl⟩
 have gs:∀ b o',G b=some o'->∃ (j:Nat) (q:Hb×V),as[j]? =some b/\kvs[j]? =some q/\o'=.tup [kV q.1,q.2]:=λb o' e=>by
  rw[hGd]at e
  obtain⟨q,e1,rfl⟩:=jh.mp e;obtain⟨j,h1,h2⟩:=UM e1;exact⟨j,q,h1,h2,rfl⟩
 have gi:∀ (j:Nat) (b:ca) (q:Hb×V),as[j]? =some b->kvs[j]? =some q->G b=some (.tup [kV q.1,q.2]):=λj b q h1 h2=>by
  rw[hGd];show((as.zip kvs).lookup b).map _=_;rw[UP nd h1 h2];rfl
 have gn0:G (s1.heap.push (VH a)).objs.size=none:=by
  cases z:G (s1.heap.push (VH a)).objs.size with
  |none=>rfl
  |some o'=>
   obtain⟨j,q,h1,_⟩:=gs _ _ z;exact absurd (ab _ (qe h1)) (oh _)
 have eqH:Pb (MJ G H1) (s1.heap.push (VH a)).objs.size (.lst (as.map V.ref))=MJ (Pb G (s1.heap.push (VH a)).objs.size (.lst (as.map V.ref))) H1:=by
  funext b;by_cases hb:b=(s1.heap.push (VH a)).objs.size
  .subst hb;rw[Ta,Qs Ta]
  .rw[Ha hb];unfold MJ;rw[Ha hb]
 have hv:Vals (as.map V.ref) acc.toList:=by
  rw[hacc];refine IG (by rw[la,la]) λi x u hx hu=>?_;rw[wc]at hx hu
  obtain⟨b,hb,rfl⟩:=jh.mp hx;rw[hb]at hu
  cases hu;rfl
 have kk':∀ b u,s1.heap.get? b=some u->h'.get? b=some u:=λb u e=>kk b u (ja _ e)
 have I2:Inv X pins σ (MJ (Pb G (s1.heap.push (VH a)).objs.size (.lst (as.map V.ref))) H1) {s1 with heap:=h',toks:=tk}:=by
  refine I1.laids kk' (λb o' e=>?_) λb o' e=>?_
  .by_cases hb:b=(s1.heap.push (VH a)).objs.size
   .rw[hb];exact n0
   .rw[Ha hb]at e
    obtain⟨j,q,h1,_⟩:=gs _ _ e;exact uf n0 (rl (ab _ (qe h1)))
  .by_cases hb:b=(s1.heap.push (VH a)).objs.size
   .subst hb;rw[Ta]at e;cases e
    exact⟨by rw[la,hlen];exact hn,acc.toList,c,hv,hS'⟩
   .rw[Ha hb]at e
    obtain⟨j,q,h1,h2,rfl⟩:=gs _ _ e;obtain⟨key,k,x,e1,e2,e3⟩:=hG.pairs j b h1;obtain⟨u,e4,ru⟩:=LX rel h2;rw[e4]at e1
    cases e1;exact⟨show(2:Nat)<=sizeLine by rw[se];decide,[key,x],.cons (ZL e2) (.cons ru .nil),_,e3,rfl,_,rfl⟩
 refine⟨.ref _,_,I2,rfl,?_⟩;rw[<-eqH];refine qn _ as (MJ G H1) hlen (λb o' e=>?_) (λj b q h1 h2=>⟨I1.hok.fresh (uf n0 (rl (ab _ (qe h1)))),Qs (gi j b q h1 h2)⟩) (by rw[Ol gn0];exact I1.hok.fresh n0);cases z:G b with
 |none=>rw[Ol z];exact e
 |some o2=>
  obtain⟨j,q,h1,_⟩:=gs _ _ z;rw[I1.hok.fresh (uf n0 (rl (ab _ (qe h1))))]at e
  cases e
def Gs:D->Res (List D)
 | .dct ks ds=>@ite (Res (List D)) (ks.length<=sizeLine) (xc _) (.ok ((ks.zip ds).map λp=>.tup [Ms p.1,p.2])) .stuck
 |_=>.stuck
theorem Ls{K:td}{W:WS}{H:Hp}:∀ (kvs:List (Hb×V)) (ds:List D) (as:List ca),HasL K W H ds (kvs.map (·.2))->as.length=kvs.length->(∀ (j:Nat) (b:ca) (q:Hb×V),as[j]? =some b->kvs[j]? =some q->H b=some (.tup [kV q.1,q.2]))->
  HasL K W H (((kvs.map (·.1)).zip ds).map λp=>D.tup [Ms p.1,p.2]) (as.map V.ref)
 | [],ds,as,h,hl,_=>by
  have:as= []:=wk.mp (by simpa using hl);subst this;rw[fk,List.zip_nil_left,fk,fk,HasL]
 |q::kvs,[],as,h,hl,_=>by rw[ac,HasL]at h;cases h
 |q::kvs,d::ds,[],h,hl,_=>by simp at hl
 |q::kvs,d::ds,b::as,h,hl,ht=>by
  rw[ac,HasL]at h
  obtain⟨x,r,e,hx,hr⟩:=h;cases e;have h0:=ht 0 b q rfl rfl;rw[ac,Do,ac,ac,HasL];refine⟨_,_,rfl,?_,Ls kvs ds as hr (by simpa using hl) λj b' q' h1 h2=>ht (j+1) b' q' (by simpa using h1) (by simpa using h2)⟩;rw[Has];refine⟨b,_,rfl,.inl (.inl h0),?_⟩;rw[HasL];refine⟨_,_,rfl,Hv q.1,?_⟩;rw[HasL];refine⟨_,_,rfl,hx,?_⟩;rw[HasL]
theorem HS(hc:X.calm=true)(hm:X.mg "list"=none)(h:XE X xw e f)(hg:Gl X "list":=by rfl)(hbase:ye e "items" X.env (eval e X.env)=eval e X.env:=by rfl)(hline:(apos.endLine==pos2.line)=true:=by rfl)(he:aa [.Call (.Attribute e "items" apos) [] [] pos2] X.env=(false,eval (.Call (.Attribute e "items" apos) [] [] pos2) X.env)::aa [] X.env:=by rfl)(hpl:(zd pos (aa [] X.env)).any (·.1)=false:=by rfl):
  XF X xw (.Call (.Name "list" p) [.Call (.Attribute e "items" apos) [] [] pos2] [] pos) (Dy Gs f):=
 ⟨PE.weak (UN hc hm hg h.h hbase hline he hpl) λσ H Q ⟨W₀,H₀,W,δ,st,q⟩=>by
  refine⟨W₀,H₀,W,δ,st,?_⟩;unfold Dy at q;cases h1:f δ with
  |stuck=>rw[h1]at q;exact q
  |ex c fs=>rw[h1]at q;exact q
  |ok d=>
   rw[h1]at q
   intro v H1 k1 hv;have q':RF X.K xw W H (Gs d) Q:=q;unfold Gs at q';split at q'
   .rename_i ks ds;split at q'
    .rename_i hn;rw[Has]at hv
     obtain⟨a,kvs,rfl,⟨o,ea⟩,r5,r6⟩:=hv;have hl:kvs.length<=sizeLine:=by rw[<-r5,la]at hn;exact hn
     refine⟨a,o,kvs,rfl,ea,hl,λn as H2 hla k2 ht hn2=>?_⟩;subst r5;exact q' n _ H2 (k1.trans k2) hn2 (Ls kvs ds as (HasL.same r6 k2 (st.fr.wl.same k1)) hla λj b q h1 h2=>(ht j b q h1 h2).2)
    .exact q'.elim
   .exact q'.elim⟩
end
section
variable {b:qc}{fa fb:Ca->Res (List (Hb×D))}{p:vg}
end
section
variable {H':Hp}{δ:Ca}
end
variable{p1 p3:vg}{tg:qc}
section
variable {p:vg}{ie:qc}{fi:Ca->Res D}{ff:Ca->Res (List D)}
def RN(K:td)(xw:XW)(W:WS)(H:Hp)(r:Res (List D))(Q:VK):Prop:=match r with
 | .ok all=>∀ a (bs:List ca) H1,Same H H1->H a=none->H1 a=some (.lst (bs.map V.ref))->bs.Nodup->a∉bs->bs.length=all.length->(∀ b∈bs,H b=none/\H1 b=some (.lst []))->Q (.ref a) H1
 | .ex c fs=>∀ H',Same H H'->xw c fs H'
 | .stuck=>False
def tNil:TE:=λ_ H Q=>∀ a,H a=none->Q (.ref a) (Pb H a (.lst []))
variable {scope:xr}{iter:qc}{fl:Ca->Res (List D)}{t:D->Ca->Res Ca}
end
section
variable {p:vg}{fs:Ca->Res (List D)}
end
structure NoR(g:Ca->Out):Prop where
 h:∀ δ d,g δ≠ .rt d
variable{α:Type}
theorem F1{r:Res α}{k:α->Out}{d:D}(h:∀ a,k a≠ .rt d):Kj r k≠ .rt d:=by
 cases r with
 |ok a=>exact h a
 |ex c fs=>intro e;cases e
 |stuck=>intro e;cases e
variable{i:Nat}
theorem NoR.set:NoR (Vb i f):=⟨λδ d=>F1 λk e=>by cases e⟩
def L5(xs:List xa):Prop:=xs.length<=100/\∀ x∈xs,(reprText x).length<=1000
section
variable {p:vg}
end
def spR(K:td)(C:ca)(attr:xa):Sp:=λvs H Q _=>∃ a l xs,vs= [.ref a,.ref l]/\SqL K H l (xs.map V.str)/\L5 xs/\H a=some (.ext (QG a C))/\∀ n o d,H n=none->H d=none->d≠n->Q .non (Pb (Pb (Pb H n (.frz o (.lst (xs.map V.str)))) a (.ext (RG a C (some d)))) d (.xd [(attr,.ref n)]))
structure XInR(X:Cx)(C:ca)(attr:xa)(sts:List sf):Prop where
 h:PSs X sts (λD σ H=>∃ a l xs,σ[0]? =some (some (.ref a))/\σ[1]? =some (some (.ref l))/\SqL X.K H l (xs.map V.str)/\L5 xs/\H a=some (.ext (QG a C))/\∀ n o d,H n=none->H d=none->d≠n->D.nx σ (Pb (Pb (Pb H n (.frz o (.lst (xs.map V.str)))) a (.ext (RG a C (some d)))) d (.xd [(attr,.ref n)])))
variable{attr:xa}
section
variable {C S f:ca}{xb self:xa}{p7 p8 p9 q1 q2 q3 q4 q5 q6 r1 r2 r3:vg}{z:xa}
end
structure FnR(P:ic)(w:vd)(K:td)(mg:xa->Option Fa)(base:ke)(k:Nat)(c attr:xa):Prop where
 ex:∃ j C S f fd ps,j+1<=k/\FnOkH P w K mg base Oo j f fd ps (spR K C attr)/\XInit K C S f/\mg c=some (.ref C)/\kl K jb c=some (some (.ref C))/\Binds K fd ps []
section
variable {C S f:ca}{fd:wf}{ps:List xa}{p:vg}{t:TA}{fs:Ca->Res (List D)}
end
def F6(y:V)(xs:List V):Option Nat:=xs.findIdx? λz=>Ay z y
def Da0(K:td):V->List V->Hp->VK->Prop:=λx vs H Q=>∃ l xs y j,x=.ref l/\vs= [y]/\SqL K H l xs/\Ji y=true/\xs.all Ji=true/\F6 y xs=some j/\Q (.int (j:Int)) H
theorem WZ{y:V}{xs:List V}{its:List Fa}(r:Vals xs its)(f:xs.all Ji=true){x:V}{u:Fa}(h1:xs[i]? =some x)(h2:its[i]? =some u):Zx y u=Ay x y:=by
 obtain⟨u',e,ru⟩:=r.get h1;rw[h2]at e;cases e
 exact YB ru (Uf.mp f x (qe h1))
theorem A1:U4 X "list.index" (Da0 X.K):=by
 intro pins s σ H x vs v us Q I rx rv h;obtain⟨l,xs,y,j,rfl,rfl,sq,fy,fs,hj,q⟩:=h;cases rx;obtain⟨u,rfl,ru⟩:=rv.one;obtain⟨its,r,pl,hz⟩:=I.list sq;obtain⟨o,n,e,hc,hd,hdt⟩:=pl;obtain⟨cls,dd,data,sl⟩:=o;simp only at hc hd hdt;subst hc hd hdt;have hl:=r.length;obtain⟨jl,hit,hno⟩:=wo.mp hj
 have at':∀ m (hm:m<its.toArray.size) (hx:m<xs.length),Zx y its.toArray[m]=Ay xs[m] y:=λm hm hx=>by
  refine WZ r fs (i:=m) (oa hx) ?_;rw[oa (by simpa using hm)];simp
 have sz:sizeLine=16777216:=se
 refine yn F.slot_list_index ⟨_,e,rfl⟩ F.entry_list_index (F.args_list_index_2 _ _) (SeqAt.list_indexAt l its.toArray n none sl u (Zx y) j (by rw[jc];omega) (by omega) (by rw[at' j _ jl];exact hit) (λm hm hmj=>by
  rw[at' m hm (by omega)];have:=hno m hmj
  simpa using this)) ⟨e,λz hz'=>Jj ru fy r fs z (by simpa using hz'),?_⟩
 exact⟨.int (j:Int),H,I.tok _,⟨_,rfl⟩,q⟩
def TL(d:D)(as:List D):Res D:=match d,as with
 | .lst ds,[y]=>if(Mc y&&ds.all Mc)=true then(match ds.findIdx? λz=>Tf z y with
  |some j=>.ok (.int (j:Int))
  |none=>.stuck) else .stuck
 |_,_=>.stuck
def bL(op:D->List D->Res D)(f:Ca->Res D)(g:Ca->Res (List D)):Ca->Res D:=λδ=>(f δ).bind λx=>match x with
 | .lst ds=>(g δ).bind (op (.lst ds))
 |_=>.stuck
theorem CF{d:D}{v:V}(h:Has K W H d v)(f:Mc d=true):∀ {ds:List D} {xs:List V},HasL K W H ds xs->ds.all Mc=true->xs.all Ji=true/\(xs.map λz=>Ay z v)=ds.map λz=>Tf z d
 | [],_,r,_=>by rw[HasL]at r;subst r;exact⟨rfl,rfl⟩
 |e::ds,_,r,fs=>by
  rw[HasL]at r
  obtain⟨x,q,rfl,hx,hq⟩:=r;rw[ls,ze]at fs
  obtain⟨h1,h2⟩:=CF h f hq fs.2;refine⟨by rw[ls,Vh hx fs.1,h1];rfl,?_⟩;rw[ac,ac,h2,BL hx h fs.1 f]
theorem Vy(p:α->Bool)(l:List α):l.findIdx? p=(l.map p).findIdx? id:=by rw[List.findIdx?_map];rfl
section
variable {o:qc}{fs:Ca->Res (List D)}
theorem EI{Q:VK}{op:D->List D->Res D}{r:V->List V->Hp->VK->Prop}(hop:∀ W H2 ds as l xs vs,WL W H2->SqL X.K H2 l xs->HasL X.K W H2 ds xs->HasL X.K W H2 as vs->RE X.K xw W H2 (op (.lst ds) as) Q->r (.ref l) vs H2 Q)(h:DQ X.K xw (bL op f fs) σ H Q):FQ X.K xw f σ H λx H1=>W8 X.K "list" x H1/\tDA X.K xw fs σ H1 λvs H2=>r x vs H2 Q:=by
 obtain⟨W₀,H₀,W,δ,st,q⟩:=h;refine⟨W₀,H₀,W,δ,st,?_⟩;unfold bL at q;cases h1:f δ with
 |stuck=>rw[h1]at q;exact q
 |ex c fs=>rw[h1]at q;exact q
 |ok d=>
  rw[h1]at q
  intro v H1 k1 hv;cases d with
  |lst ds=>
   have q':RE X.K xw W H ((fs δ).bind (op (.lst ds))) Q:=q;obtain⟨l,xs,rfl,sq,rr⟩:=hv.lst;refine⟨.inl ⟨rfl,xs,sq⟩,W₀,H₀,W,δ,st.same k1,?_⟩;cases h2:fs δ with
   |stuck=>rw[h2]at q';exact q'
   |ex c gs=>rw[h2]at q';exact λH2 k2=>q' H2 (k1.trans k2)
   |ok as=>
    rw[h2]at q'
    intro vs H2 k2 ha
    have sq2:SqL X.K H2 l xs:=by
     rcases sq with(z|⟨o,z⟩)|z
     .exact .inl (.inl (k2 _ _ z))
     .exact .inl (.inr ⟨o,k2 _ _ z⟩)
     .exact .inr z
    exact hop W H2 ds as l xs vs ((st.fr.wl.same k1).same k2) sq2 (rr.same k2 (st.fr.wl.same k1)) ha (RE.same (show RE X.K xw W H (op (.lst ds) as) Q from q') (k1.trans k2))
  |_=>exact q.elim
theorem RW(ho:XP X xw o f)(ha:XA X xw [e] fs)(hbase:ye o "index" X.env (eval o X.env)=eval o X.env:=by rfl)(hfew:((zd cpos (aa [e] X.env)).all (λx=> !x.1)&&(ms cpos (om [] X.env)).all (λx=>x.1.isSome)
   &&decide (([e]:List qc).length+([]:List rk).length+(if([]:List rk).isEmpty then 0 else 1)<30))=true:=by rfl)(hline:(apos.endLine==cpos.line)=true:=by rfl)(hs:aa [e] X.env=(false,eval e X.env)::aa [] X.env:=by rfl)(hplain:(zd cpos (aa [] X.env)).any (·.1)=false:=by rfl):
  XE X xw (.Call (.Attribute o "index" apos) [e] [] cpos) (bL TL f fs):=
 ⟨PE.weak (OF aj PySem.F.slot_list_index PySem.F.type_list_index A1 ho.h ha.h hbase hfew hline hs hplain) λσ H Q h=>EI (λW H2 ds as l xs vs w sq r ra q=>by
  unfold TL at q;split at q
  .rename_i ds' y e1;cases e1;rw[HasL]at ra
   obtain⟨v,t,rfl,hv,ht⟩:=ra;rw[HasL]at ht
   subst ht;split at q
   .rename_i hf;rw[ze]at hf
    obtain⟨a1,a2⟩:=CF hv hf.1 r hf.2;split at q
    .rename_i j hj;refine⟨l,xs,v,j,rfl,rfl,sq,Vh hv hf.1,a1,?_,q (.int (j:Int)) H2 (Same.refl _) (by rw[Has])⟩;unfold F6;rw[Vy,a2,<-Vy];exact hj
    .exact q.elim
   .exact q.elim
  .exact q.elim) h⟩
end
section
variable {prog:ic}{w:vd}{E:Fa->Shared->Prop}{it l:ca}{xs:Array Fa}
end
section
variable {p:vg}
end
section
variable {p:vg}{fs:Ca->Res (List D)}
end
end L3
namespace L3
open PySem
open Sem (wp)
section
variable {prog:ic}{w:vd}{K:Type}[DecidableEq K]{knd:KeyKind prog w K}{A:je}{R:uv->Shared->Prop}{I:ca}{fp wr:List ca}{G:Array ql->Array ql->Prop}{n:Nat}{P:Nat->Fa->Prop}{St:Nat->Shared->Prop}{E:Fa->Shared->Prop}{s:Shared}
def SB(knd:KeyKind prog w K)(h:ke)(a:ca)(σ:List K):Prop:=h.SetOf knd a (λk=>decide (k∈σ)) σ.length
end
open PySem.Spec PyProof.Rows L2 SeqAt
variable{X:Cx}{xw:XW}{pos p2:vg}{a e:qc}{fa:Ca->Res D}
section
variable {p pos2:vg}
end
section
variable {o:qc}{es:List qc}{f:Ca->Res D}{gs:Ca->Res (List D)}{p apos:vg}{fld m:xa}{cs:List xa}
structure OwnK(K:td)(C:ca):Prop where
 hg:plainGet K C "__class__"=true
 hd:wu K C=true
 ha:ik K (.ref C) "__class__"=some (some (.builtin "object.__class__"))
 hn:specialIn K (.builtin "object.__class__") "__get__"=some (some (.builtin "getset_descriptor.__get__"))
 ht:PySem.W.takesIn K (.builtin "object.__class__")=some true
 hm:mroIn K C (.type "object")=some true
structure IsiO(K:td)(tb:List (xa×Bool))(vc:V):Prop where
 cls:∃ a,vc=.ref a
 ok:∀ c b,tb.lookup c=some b->∃ C,kl K jb c=some (some (.ref C))/\OwnK K C/\PySem.W.kitOne K (.ref C) (Z7 vc)=some b
structure MtK(P:ic)(w:vd)(K:td)(mg:xa->Option Fa)(base:ke)(k:Nat)(c m:xa)(n:Nat)(g:List D->Res D):Prop where
 ex:∃ C f fd ps,kl K jb c=some (some (.ref C))/\Cls K C/\Meth K C m f/\FnOk P w K mg base Oo k f fd ps (VX K n g)/\Binds K fd ps []
end
end L3
namespace L3
open PySem PyProof.Rows
section
variable {prog:ic}{w:vd}{A:je}{E:Fa->Shared->Prop}{s:Shared}{T:String}{r d:ca}{n:Nat}{P:Nat->Fa->Prop}{OK:ke->Prop}
end
open PySem.Spec L2 SeqAt
section
variable {X:Cx}{xw:XW}{e:qc}{f:Ca->Res D}{p pos:vg}
end
end L3
namespace L3
open PySem PySem.SeqAt PySem.MeetsSeq PySem.MeetsSeq2 PySem.MeetsSeq3
section
variable {P:ic}{w:vd}
end
end L3
namespace L3
open PySem PySem.Spec PyProof.Rows L2 SeqAt
variable{X:Cx}{xw:XW}{pins:List (ca×ki)}{σ:L2.St}{W:WS}{H:Hp}{s:Shared}
variable{i:Nat}
section
variable {K:td}{W₀:WS}{H₀ H':Hp}{δ:Ca}
theorem StHas.innerK{j:Nat}{t:Tp}{cs:List Ch}{c c':Ch}{a b:ca}{ob ob':HO}(h:StHas K W₀ H₀ W H σ δ)(hi:δ[i]? =some (some (.k t cs)))(hs:σ[i]? =some (some (.ref a)))(ha:H a=some ob)(hc:cs[j]? =some c)(co:EY c)(hb:(ML ob)[j]? =some (.ref b))(mo:Hn ob')(co':EY c')(q:H₀ b=none->W b->Pg W H (Pb H b ob')->ChHas K H₀ W (Pb H b ob') c' (.ref b)):StHas K W₀ H₀ W (Pb H b ob') σ (δ.set i (some (.k t (cs.set j c')))):=by
 obtain⟨v,e,a',ob2,e',h1,h2,h3,h4,h5,h6⟩:=h.at' i _ hi;rw[hs]at e;cases e;cases e'
 rw[ha]at h1;cases h1
 have own:Owns H (.k t cs) (.ref a) b:=.inr ⟨a,ob,j,c,rfl,ha,hc,co,hb⟩;obtain⟨hba,hap⟩:=h5 j c b hc co hb;have ha':Pb H b ob' a=some ob:=by rw[Ha (qk hba)];exact ha
 have hj:j<cs.length:=(ya.mp hc).1
 obtain⟨hWb,h0b,_⟩:=(h.at' i _ hi).elim λv z=>by
  have:v=.ref a:=by have:=z.1;rw[hs]at this;exact(yb (yb this)).symm
  subst this;exact z.2.owns own
 have get:∀ k z,(cs.set j c')[k]? =some z->(k=j/\z=c')\/(k≠j/\cs[k]? =some z):=λk z e=>by
  by_cases hk:j=k
  .subst hk;rw[me hj]at e
   exact .inl ⟨rfl,(yb e).symm⟩
  .rw[pd hk]at e
   exact .inr ⟨qk hk,e⟩
 refine h.changeS hi hs own mo (λh0 kk=>⟨a,ob,rfl,ha',h2,h3,by rw[List.length_set];exact h4,?_,λk z x e1 e2=>?_⟩) (λb2 o m t' v hm e e'=>h.ap i m _ _ _ _ b2 hm hi e hs e' ?_)
 .intro k z b2 e1 zo e2
  have old:∀ m z,(cs.set j c')[m]? =some z->EY z->∃ z',cs[m]? =some z'/\EY z':=λm z e o=>by
   rcases get m z e with⟨rfl,rfl⟩|⟨_,e⟩
   .exact⟨c,hc,co⟩
   .exact⟨z,e,o⟩
  obtain⟨z',g1,g2⟩:=old k z e1 zo;obtain⟨f1,f2⟩:=h5 k z' b2 g1 g2 e2;refine⟨f1,λm z2 hm e3 o3=>?_⟩;obtain⟨z3,g3,g4⟩:=old m z2 e3 o3;exact f2 m z3 hm g3 g4
 .rcases get k z e1 with⟨rfl,rfl⟩|⟨hk,e1⟩
  .rw[hb]at e2;cases e2
   exact q h0b hWb kk
  .have hz:=h6 k z x e1 e2;cases z with
   |d y=>exact Has.keep kk h.fr.wl (λb z=>.inl z) hz
   |l ds=>
    obtain⟨b2,xs,rfl,f1,f2,f3,f4⟩:=hz;have ne:b2≠b:=λy=>hap k _ hk e1 trivial (by rw[<-y];exact e2);exact⟨b2,xs,rfl,f1,f2,by rw[Ha ne];exact f3,HasL.keep kk h.fr.wl (λb z=>.inl z) f4⟩
   |q ks ds=>
    obtain⟨b2,xs,rfl,f1,f2,f3,f4,f5⟩:=hz;have ne:b2≠b:=λy=>hap k _ hk e1 trivial (by rw[<-y];exact e2);exact⟨b2,xs,rfl,f1,f2,by rw[Ha ne];exact f3,f4,HasL.keep kk h.fr.wl (λb z=>.inl z) f5⟩
 .rcases o with o|⟨a2,ob2,k,z,e2,g,e3,zo,e4⟩
  .exact .inl o
  .cases e2;rw[ha']at g;cases g
   rcases get k z e3 with⟨rfl,rfl⟩|⟨_,e3⟩
   .exact .inr ⟨a,ob,_,c,rfl,ha,hc,co,e4⟩
   .exact .inr ⟨a,ob,k,z,rfl,ha,e3,zo,e4⟩
theorem StHas.demote{N:WS}{so sl:S}{w:V}(h:StHas K W₀ H₀ W H σ δ)(hi:δ[i]? =some (some so))(hs:σ[i]? =some (some w))(oN:∀ b,N b->Owns H so w b)(hd:SlotHas K W₀ H₀ (λb=>W b/\¬ N b) H sl w)(ow:∀ b,Owns H sl w b->Owns H so w b):StHas K W₀ H₀ (λb=>W b/\¬ N b) H σ (δ.set i (some sl)):=by
 obtain⟨v,h1,h2⟩:=h.at' i _ hi;rw[hs]at h1
 cases h1;have kk:Pg W H H:=λ_ _ e _=>e;have hw:∀ b,(W b/\¬ N b)->W b\/H b=none:=λb z=>.inl z.1;have hl:i<δ.length:=(ya.mp hi).1
 have back:∀ (m:Nat) (t:S) (x:V) (b:ca),(δ.set i (some sl))[m]? =some (some t)->σ[m]? =some (some x)->Owns H t x b->∃ t',δ[m]? =some (some t')/\Owns H t' x b:=λm t x b e e' o=>by
  by_cases hm:i=m
  .subst hm;rw[me hl]at e;cases e
   rw[hs]at e';cases e'
   exact⟨so,hi,ow b o⟩
  .rw[pd hm]at e
   exact⟨t,e,o⟩
 refine⟨⟨h.fr.ext,λb z=>⟨h.fr.sub b z,λe=>?_⟩,⟨λb z=>h.fr.wl b z.1,h.fr.wl.tab⟩,h.fr.wl0⟩,by simp[h.len],λj s e=>?_,λj l s1 s2 u u' b hjl e1 e2 e3 e4 os ot=>?_⟩
 .obtain⟨ys,z',_⟩:=h.fr.wl0 _ z;rw[(h2.owns (oN _ e)).2.1]at z';cases z'
 .by_cases hj:i=j
  .subst hj;rw[me hl]at e
   cases e;exact⟨_,hs,hd⟩
  .rw[pd hj]at e
   obtain⟨v,g1,g2⟩:=h.at' j s e;exact⟨v,g1,g2.mv h.fr.wl kk hw λb o e1 h1' _ h3' _=>⟨⟨h1',λz=>h.ap i j _ _ _ _ b hj hi e hs g1 (oN b z) e1⟩,h3'⟩⟩
 .obtain⟨t1,g1,o1⟩:=back j s1 u b e1 e3 os;obtain⟨t2,g2,o2⟩:=back l s2 u' b e2 e4 ot;exact h.ap j l t1 t2 u u' b hjl g1 g2 e3 e4 o1 o2
end
section
variable {e:qc}{f:Ca->Res D}
end
end L3
namespace L3
open PySem PySem.Spec PyProof.Rows L2
variable{prog:ic}{w:vd}{A:je}{E:Fa->Shared->Prop}{s:Shared}{z i1 i2:ca}{k:Nat}
section
variable {TI TO:ca}{f1 f2:List ca}{n1 n2:Nat}{P1 P2:Nat->Fa->Prop}{S1 S2:Nat->ke->Prop}
end
structure ZN(z TI TO i1 i2 l1 l2 N:ca):Prop where
 za:ZA z TI TO i1 i2 [i1,l1] [i2,l2]
 n1:l1≠i1
 n2:l2≠i2
 nz:N≠z
 nT:N≠TI
 nO:N≠TO
 m1:N≠i1
 m2:N≠i2
 k1:N≠l1
 k2:N≠l2
variable{l1 l2:ca}{t1 t2:Bool}{xs ys:Array Fa}
section
variable {TI TO N:ca}
end
structure ZG(xs ys:Array Fa)(lo:ca)(h:ke)(as:List ca):Prop where
 rise:as.Pairwise (· < ·)
 above:∀ a∈as,lo<a
 pairs:∀ (j:Nat) (a:ca),as[j]? =some a->∃ x y,xs[j]? =some x/\ys[j]? =some y/\IsPair h a x y
section
variable {R:uv->Shared->Prop}{TI TO N:ca}
end
variable{X:Cx}{xw:XW}{a:qc}{pos:vg}
section
variable {b:qc}{fs:Ca->Res (List D)}{p p2 pos2:vg}
end
open SeqAt
section
variable {p pos' spos:vg}{fa:Ca->Res D}
end
variable{e:qc}
section
variable {f:Ca->Res Bool}
end
section
variable {ie:qc}{f fi:Ca->Res D}
theorem KJ{σ:L2.St}{H:Hp}{W₀ W:WS}{H₀:Hp}{δ:Ca}{k:D->Out}{Dn:Ends}{R:V->Hp->Prop}(st:StHas X.K W₀ H₀ W H σ δ)(q:RS X.K xw W₀ H₀ W H (Kj (f δ) k) Dn)(h:∀ H2 d v,Same H H2->StHas X.K W₀ H₀ W H2 σ δ->Has X.K W H2 d v->RS X.K xw W₀ H₀ W H2 (k d) Dn->R v H2):DQ X.K xw f σ H R:=by
 refine⟨W₀,H₀,W,δ,st,?_⟩;cases h1:f δ with
 |stuck=>rw[h1]at q;exact q
 |ex c fs=>rw[h1]at q;exact λH' k'=>q H' (st.fr.ext.trans k')
 |ok d=>
  rw[h1]at q
  exact λv H2 k2 hv=>h H2 d v k2 (st.same k2) hv (RS.step (o:=k d) q (Step.same k2))
end
end L3
namespace L3
open PySem PySem.Spec PyProof.Rows L2
section
variable {prog:ic}{w:vd}{A:je}{E:Fa->Shared->Prop}{s:Shared}
end
variable{X:Cx}{xw:XW}{pos:vg}{a b:qc}
section
variable {elts:List qc}{kt:Nat}{pt p kp:vg}{fs:Ca->Res (List D)}
end
open SeqAt
section
variable {p p2 apos cpos:vg}{e o:qc}{f fa fb:Ca->Res D}{fs:Ca->Res (List D)}
def A9{α:Type}(w:vd)(R:Fa->α->Prop)(e:zu)(p:xa×α):Prop:=e.hash=UT w (.inr p.1)/\(∃ t,e.key=.str p.1 t)/\R e.val p.2
structure GlobG{α:Type}(R:Fa->α->Prop)(w:vd)(K:td)(mg:xa->Option Fa)(x:xa)(l:List (xa×α)):Prop where
 h:∃ (ad:ca) (o:ki) (es:Array zu) (n:Nat),mg x=some (.ref ad)/\K.lookup ad=some o/\o.ExactDict/\o.data=.dict es n/\Paired (A9 w R) es.toList l/\(l.map (·.1)).Nodup/\(ad==Tl)=false
end
end L3
namespace L3
open PySem PySem.Spec PyProof.Rows L2 SeqAt
open Builtin Builtin.Str
variable{X:Cx}{xw:XW}{apos cpos:vg}{o:qc}{f:Ca->Res D}
section
variable {pos p p2:vg}{a b e:qc}{fa fb:Ca->Res D}{fs:Ca->Res (List D)}
end
end L3
namespace L3
open PySem
def Y4(m i:Nat):Nat:=(i*5+1)%m
section
variable {mask:Nat}{owner:Array (Option Nat)}
end
section
variable {prog:ic}{w:vd}{K:Type}[DecidableEq K]{knd:KeyKind prog w K}{A:je}{E:Fa->Shared->Prop}{s:Shared}
structure At(knd:KeyKind prog w K)(h:ke)(a:ca)(o:ki)(es:Array (Int×Fa))(ep:Nat)(t:xi):Prop where
 get:h.get? a=some o
 ex:o.ExactSet
 dat:o.data=.set es ep t
 el:ElemsOf knd es.toList
 sz:es.size<64
 fit:t.fits es.size=true
section
variable {a b r:ca}{o oo ro:ki}{es eo re:Array (Int×Fa)}{ep epo rp:Nat}{t tb rt:xi}
end
end
variable{prog:ic}{w:vd}{K:Type}{A:je}{E:Fa->Shared->Prop}{s:Shared}{a b r:ca}{o oo ro:ki}{es eo re:Array (Int×Fa)}{ep epo rp:Nat}{tb rt:xi}
section
variable [DecidableEq K]{knd:KeyKind prog w K}
variable {t:xi}
end
section
variable [DecidableEq K]{knd:KeyKind prog w K}
variable {t:xi}
end
open PySem.Spec PyProof.Rows L2 SeqAt
section
variable [DecidableEq K]{knd:KeyKind prog w K}
variable {σ τ:List K}
end
variable{a b:qc}{X:Cx}{xw:XW}{pos p2:vg}
section
variable {p1 p3 p4 p5 p6 pc pcc:vg}{fa fb:Ca->Res D}{op:Operator}
end
section
variable {e:qc}{f:Ca->Res D}{fs:Ca->Res (List D)}{p pos2:vg}
end
section
variable {prog:ic}{w:vd}{A:je}{E:Fa->Shared->Prop}{s:Shared}
section
variable {h0:ke}{l q I S:ca}{vs:List Fa}{R:uv->Shared->Prop}{Q:Fa->Shared->Prop}{dk:List (xa×Fa)}
end
end
end L3
namespace L3
open PySem PySem.Spec PyProof.Rows L2
open SeqAt
variable{X:Cx}{σ:L2.St}{H:Hp}
section
variable {pins:List (ca×ki)}{s:Shared}
structure LamOk(fv lv:xa)(params:Arguments)(sc:xr):Prop where
 co:sc.isCoroutine=false
 gen:sc.isGenerator=false
 kind:sc.kind=.function
 cell:∀ x∈sc.names,x.2≠ .cell
 loc:sc.names.lookup lv=some .local
 free:sc.names.lookup fv=some .free
 glob:sc.names.lookup ("len":xa)=some .globalImplicit
 bind:∀ (qual:xa) (body:qc) (clos:List (xa×ca)) (pm:Fa) (c':ca) (ctv u:Fa),bindArgs (PySem.W.kla_fn "<lambda>" qual params body sc clos pm (.ref c') ctv) ⟨[u],[]⟩=pure [(lv,u)]
 dl:(lv==("__debug__":xa))=false
 df:(fv==("__debug__":xa))=false
 cf:(fv==("__classdict__":xa))=false
end
variable{xw:XW}{e tg:qc}{f:Ca->Res D}{pos:vg}
section
variable {apos:vg}
end
variable{K:td}{W₀ W:WS}{H₀:Hp}{δ:Ca}
variable{ie:qc}{p1 p2:vg}
section
variable {fi:Ca->Res D}
end
section
variable {p:vg}
end
def ET:D->Option (D×D×List D)
 | .tup [x,y,.lst fs]=>some (x,y,fs)
 |_=>none
variable{d y:D}
theorem FT{x:D}{fs:List D}(h:ET d=some (x,y,fs)):d=.tup [x,y,.lst fs]:=by
 unfold ET at h;split at h
 .cases h;rfl
 .cases h
def Tld(K:td)(W:WS)(H H':Hp)(d:D)(v:V):Prop:=match ET d with
 |some (x,y,fs)=>∃ t u1 u2 a xs,v=.ref t/\H' t=some (.tup [u1,u2,.ref a])/\H a=none/\H' a=some (.lst xs)/\Has K (λb=>W b\/b=a) H' x u1/\Has K (λb=>W b\/b=a) H' y u2/\HasL K (λb=>W b\/b=a) H' fs xs
 |none=>Has K W H' d v
variable{H':Hp}{v:V}
theorem Tld.has(w:WL W H)(k:Same H H')(h:Tld K W H H' d v):Has K W H' d v:=by
 unfold Tld at h;split at h
 .rename_i x y fs e;obtain⟨t,u1,u2,a,xs,rfl,ht,ha,ha',h1,h2,h3⟩:=h;have wl:WL (λb=>W b\/b=a) H':=⟨λb z=>z.elim ((w.same k).own b) λz=>by rw[z];exact⟨_,ha',trivial⟩,(w.same k).tab⟩
  have up:∀ b,W b->(W b\/b=a)\/H' b=none:=λb z=>.inl (.inl z);have kk:Pg (λb=>W b\/b=a) H' H':=λ_ _ e _=>e;rw[FT e,Has];refine⟨t,_,rfl,.inl (.inl ht),HasL.cons (Has.keep kk wl up h1) (HasL.cons (Has.keep kk wl up h2) (HasL.cons ?_ HasL.nil))⟩;rw[Has];refine⟨a,xs,rfl,.inl ⟨ha',λz=>?_⟩,HasL.keep kk wl up h3⟩;obtain⟨ys,e,_⟩:=w a z;rw[ha]at e;cases e
 .exact h
section
variable (K:td)(xw:XW)
def RST(W₀:WS)(H₀:Hp)(W:WS)(H:Hp)(o:Out)(Dn:Ends):Prop:=match o with
 | .rt d=>∀ v H',Same H₀ H'->Tld K W₀ H₀ H' d v->Dn.rt v H'
 |o=>RS K xw W₀ H₀ W H o Dn
def K7(g:Ca->Out):TS:=λDn σ H=>∃ W₀ H₀ W δ,StHas K W₀ H₀ W H σ δ/\RST K xw W₀ H₀ W H (g δ) Dn
end
theorem RST.step{W1:WS}{H1:Hp}{o:Out}{Dn:Ends}(h:RST K xw W₀ H₀ W H o Dn)(k:Step W H W1 H1):RST K xw W₀ H₀ W1 H1 o Dn:=by
 cases o with
 |rt d=>exact h
 |nx δ=>exact RS.step (xw:=xw) (o:=.nx δ) h k
 |bk δ=>exact RS.step (xw:=xw) (o:=.bk δ) h k
 |ct δ=>exact RS.step (xw:=xw) (o:=.ct δ) h k
 |ex c fs=>exact h
 |stuck=>exact h
structure XST(X:Cx)(xw:XW)(st:sf)(g:Ca->Out):Prop where
 h:PS X st (K7 X.K xw g)
structure XSTs(X:Cx)(xw:XW)(sts:List sf)(g:Ca->Out):Prop where
 h:PSs X sts (K7 X.K xw g)
variable{x:xa}{n k:Nat}{m:List D->Res D}{P:ic}{w:vd}{mg:xa->Option Fa}{base:ke}
section
variable {st:sf}{sts as bs:List sf}{g g1 g2:Ca->Out}{p pc:vg}{a b c:qc}{es:List qc}{fa fb:Ca->Res D}{fs:Ca->Res (List D)}{ga:Ca->Res Bool}{t:D->Ca->Res Ca}
theorem Pu(h:XS X xw st g)(n:NoR g):XST X xw st g:=⟨PS.weak h.h λDn σ H ⟨W₀,H₀,W,δ,st,q⟩=>⟨W₀,H₀,W,δ,st,by
 cases z:g δ with
 |rt d=>exact absurd z (n.h δ d)
 |_=>rw[z]at q;exact q⟩⟩
theorem D4(h:XE X xw e (kD .non)):XST X xw (.Return (some e) pos) (Tb (kD .non)):=⟨PS.weak (Tc h).h λDn σ H ⟨W₀,H₀,W,δ,st,q⟩=>⟨W₀,H₀,W,δ,st,q⟩⟩
theorem K4:XSTs X xw [] .nx:=⟨PSs.weak Jx λDn σ H ⟨W₀,H₀,W,δ,st,q⟩=>q W H σ Step.refl st⟩
theorem Rt(h:XST X xw st g):XSTs X xw [st] g:=⟨Ar h.h⟩
theorem EG(h1:XST X xw st g1)(h2:XSTs X xw sts g2):XSTs X xw (st::sts) (Bb g1 g2):=⟨PSs.weak (Co h1.h h2.h) λDn σ H ⟨W₀,H₀,W,δ,st,q⟩=>by
 refine⟨W₀,H₀,W,δ,st,?_⟩;have q':RST X.K xw W₀ H₀ W H (Em (g1 δ) g2) Dn:=q;cases h:g1 δ with
 |nx δ'=>rw[h]at q';exact λW' H' σ' k st'=>⟨W₀,H₀,W',δ',st',RST.step (o:=g2 δ') q' k⟩
 |_=>rw[h]at q';exact q'⟩
theorem Hb0(hc:XT X xw c ga)(ha:XSTs X xw as g1)(hb:XSTs X xw bs g2):XST X xw (.If c as bs pos) (Of ga g1 g2):=⟨PS.weak (RX hc.h ha.h hb.h) λDn σ H ⟨W₀,H₀,W,δ,st,q⟩=>by
 refine⟨W₀,H₀,W,δ,st,?_⟩;have q':RST X.K xw W₀ H₀ W H (W4 (ga δ) (g1 δ) (g2 δ)) Dn:=q;unfold W4 at q';cases h1:ga δ with
 |stuck=>rw[h1]at q';exact q'
 |ex c fs=>rw[h1]at q';exact λH' k'=>q' H' (st.fr.ext.trans k')
 |ok k=>
  rw[h1]at q'
  intro H1 k1;have q':RST X.K xw W₀ H₀ W H (if k=true then g1 δ else g2 δ) Dn:=q';cases k with
  |true=>rw[if_pos rfl]at q' ⊢;exact⟨W₀,H₀,W,δ,st.same k1,q'.step (Step.same k1)⟩
  |false=>rw[if_neg Db]at q' ⊢;exact⟨W₀,H₀,W,δ,st.same k1,q'.step (Step.same k1)⟩⟩
theorem XX{iter:qc}{fi:Ca->Res (List D)}(hp:sr (pb X.prog X.w) X.A X.env X.xe)(hc:X.calm=true)(hi:XI X xw tg iter fi)(hg:XG X tg t)(hb:XSTs X xw sts g)(hs:∀ x,dg iter X.env x=pure x:=by intro _;rfl):XST X xw (.For tg iter sts [] pos) (Df t g fi):=
 ⟨PS.weak (AO hp hc hi.h hg.h hb.h hs) λDn σ H ⟨W₀,H₀,W,δ,st,q⟩=>by
  refine⟨W₀,H₀,W,δ,st,?_⟩;have q:RST X.K xw W₀ H₀ W H (Kj (fi δ) λds=>Te t g ds δ) Dn:=q;cases h1:fi δ with
  |stuck=>rw[h1]at q;exact q
  |ex c fs=>rw[h1]at q;exact λH' k'=>q H' (st.fr.ext.trans k')
  |ok ds=>
   rw[h1]at q
   intro J H1 k1 it;have q1:RST X.K xw W₀ H₀ W H1 (Te t g ds δ) Dn:=RST.step (o:=Te t g ds δ) q (Step.same k1)
   refine⟨λi m σ' H'=>∃ W' δ',m=ds.length-i/\i<=ds.length/\StHas X.K W₀ H₀ W' H' σ' δ'/\Step W H1 W' H'/\RST X.K xw W₀ H₀ W' H' (Te t g (ds.drop i) δ') Dn,
    ⟨_,W,δ,rfl,vh _,st.same k1,Step.refl,q1⟩,?_⟩
   rintro i m σ' H' ⟨W',δ',rfl,hi,st',k',q'⟩;obtain⟨items,stop⟩:=it W' H' k' st'.fr.wl;by_cases hl:i<ds.length
   .right;have e:ds[i]? =some ds[i]:=oa hl;obtain⟨go,yld⟩:=items i _ e;have ed:ds.drop i=ds[i]::ds.drop (i+1):=vm hl;rw[ed]at q'
    unfold Te at q';refine⟨go,λσ2 H2=>∃ W2 δ2,StHas X.K W₀ H₀ W2 H2 σ2 δ2/\Step W H1 W2 H2/\RST X.K xw W₀ H₀ W2 H2 (Te t g (ds.drop (i+1)) δ2) Dn,λσ2 H2 ⟨W2,δ2,a1,a2,a3⟩=>⟨ds.length-(i+1),by omega,W2,δ2,rfl,hl,a1,a2,a3⟩,λx H3 z=>?_⟩;obtain⟨k3,hx⟩:=yld x H3 z;refine⟨W₀,H₀,W',δ',ds[i],st'.same k3,hx,?_⟩;cases h2:t ds[i] δ' with
    |stuck=>rw[h2]at q';exact q'
    |ex c fs=>rw[h2]at q';exact q'
    |ok δ2=>
     rw[h2]at q'
     intro σ2 st2;refine⟨W₀,H₀,W',δ2,st2,?_⟩;dsimp only at q';have kk:Step W' H' W' H3:=Step.same k3;cases h3:g δ2 with
     |nx δ3=>rw[h3]at q';exact λW3 H4 σ3 k4 st3=>⟨W3,δ3,st3,(k'.trans kk).trans k4,RST.step (o:=Te t g (ds.drop (i+1)) δ3) q' (kk.trans k4)⟩
     |ct δ3=>rw[h3]at q';exact λW3 H4 σ3 k4 st3=>⟨W3,δ3,st3,(k'.trans kk).trans k4,RST.step (o:=Te t g (ds.drop (i+1)) δ3) q' (kk.trans k4)⟩
     |bk δ3=>rw[h3]at q';exact λW3 H4 σ3 k4 st3=>q' W3 H4 σ3 (kk.trans k4) st3
     |rt d=>rw[h3]at q';exact q'
     |ex c fs=>rw[h3]at q';exact q'
     |stuck=>rw[h3]at q';exact q'
   .left;have ei:i=ds.length:=by omega
    subst ei;rw[Pv]at q'
    exact⟨stop,q' W' H' σ' Step.refl st'⟩⟩
theorem VG{ds:List D}(h:La n m ds=.ok d):ds.length=n/\m ds=.ok d:=by
 unfold La at h;split at h
 .rename_i hn;refine⟨hn,?_⟩;cases z:m ds with
  |ok x=>rw[z]at h;cases h;rfl
  |ex c fs=>rw[z]at h;cases h
  |stuck=>rw[z]at h;cases h
 .cases h
def VV:Res D->Res D->Res D->Out
 | .ok x,.ok y,.ok (.lst fs)=>.rt (.tup [x,y,.lst fs])
 |_,_,_=>.stuck
def MO(fa fb fc:Ca->Res D):Ca->Out:=λδ=>VV (fa δ) (fb δ) (fc δ)
theorem B4{f:xa}{x1}{pt:vg}(ha:XE X xw a fa)(hb:XE X xw b fb)(F:FnO X.prog X.w X.K X.mg X.base k f n m)(hr:Room k X.A)(hc:XA X xw (e::es) fs)(hg:Gl X f:=by rfl)(hdb:(f==("__debug__":xa))=false:=by decide)(he:aa (e::es) X.env=(false,eval e X.env)::aa es X.env:=by rfl)(hpl:(zd pc (aa es X.env)).any (·.1)=false:=by rfl)(s1:aa [a,b, .Call (.Name f p) (e::es) [] pc] X.env=(false,eval a X.env)::aa [b, .Call (.Name f p) (e::es) [] pc] X.env:=by rfl)(s2:aa [b, .Call (.Name f p) (e::es) [] pc] X.env=(false,eval b X.env)::aa [.Call (.Name f p) (e::es) [] pc] X.env:=by rfl)(s3:aa [.Call (.Name f p) (e::es) [] pc] X.env=(false,eval (.Call (.Name f p) (e::es) [] pc) X.env)::aa [] X.env:=by rfl):
  XST X xw (.Return (some (.Tuple [a,b, .Call (.Name f p) (e::es) [] pc] x1 pt)) pos) (MO fa fb (b1 (La n m) fs)):=by
 obtain⟨fd,fdd,ps,G,hm,hk,hbn⟩:=F.ex;refine⟨PS.weak (Cp (VN (Xe ha.h (Xe hb.h (Xe (Zq G hr hg hm hk hbn .nil HA hc.h hdb he hpl) Hk s3) s2) s1))) λDn σ H ⟨W₀,H₀,W,δ,st,q⟩=>?_⟩;have q':RST X.K xw W₀ H₀ W H (VV (fa δ) (fb δ) ((fs δ).bind (La n m))) Dn:=q;unfold VV at q';split at q'
 .rename_i x y gs e1 e2 e3;refine⟨W₀,H₀,W,δ,st,?_⟩;rw[e1];intro v1 H1 k1 h1;have st1:=st.same k1;refine⟨W₀,H₀,W,δ,st1,?_⟩;rw[e2];intro v2 H2 k2 h2;have st2:=st1.same k2;refine⟨W₀,H₀,W,δ,st2,?_⟩;cases h:fs δ with
  |stuck=>rw[h]at e3;cases e3
  |ex c gs=>rw[h]at e3;cases e3
  |ok ds=>
   rw[h]at e3
   obtain⟨hn,em⟩:=VG e3;intro vs H3 k3 h3;rw[bj];have st3:=st2.same k3;refine⟨by rw[<-h3.length];exact hn,W,ds,st3.fr.wl,h3,?_⟩;rw[em];intro l xs H4 k4 n4 a4 r4;refine⟨by show 3<=sizeLine;rw[se];decide,λt ht=>?_⟩;have k14:Same H1 H4:=k2.trans (k3.trans k4);have k24:Same H2 H4:=k3.trans k4;have kt:Same H4 (Pb H4 t (.tup [v1,v2,.ref l])):=Ec ht;have nl:H₀ l=none:=Same.free st3.fr.ext n4;have tl:l≠t:=λz=>by rw[<-z,a4]at ht;cases ht
   have up:∀ {H':Hp},H' l=none->∀ b,(W₀ b\/b=l)->W b\/H' b=none:=λhl b z=>z.elim (λz=>.inl (st.fr.sub b z)) λz=>.inr (by rw[z];exact hl);refine q' (.ref t) _ ((st3.fr.ext.trans k4).trans kt) ⟨t,v1,v2,l,xs,rfl,Ta,nl,by rw[Ha tl];exact a4,?_,?_,?_⟩
   .exact Has.keep (Same.keep (k14.trans kt)) st1.fr.wl (up (Same.free (k2.trans k3) n4)) h1
   .exact Has.keep (Same.keep (k24.trans kt)) st2.fr.wl (up (Same.free k3 n4)) h2
   .refine HasL.keep (Same.keep kt) ⟨λb z=>z.elim ((st3.fr.wl.same k4).own b) λz=>by rw[z];exact⟨_,a4,trivial⟩,(st3.fr.wl.same k4).tab⟩ (λb z=>.inl (z.elim (λz=>.inl (st.fr.sub b z)) .inr)) r4
 .exact q'.elim
def spT(K:td)(n:Nat)(m:List D->Res D):Sp:=λvs H Q _=>vs.length=n/\∃ W ds,WL W H/\HasL K W H ds vs/\match m ds with
 | .ok d=>∀ v H',Same H H'->Tld K W H H' d v->Q v H'
 |_=>False
structure FnT(P:ic)(w:vd)(K:td)(mg:xa->Option Fa)(base:ke)(k:Nat)(x:xa)(n:Nat)(m:List D->Res D):Prop where
 ex:∃ f fd ps,FnOk P w K mg base Oo k f fd ps (spT K n m)/\mg x=some (.ref f)/\mf K (.ref f)=true/\Binds K fd ps []
theorem FnT.mono{j:Nat}(F:FnT P w K mg base j x n m)(h:j<=k):FnT P w K mg base k x n m:=by
 obtain⟨f,fd,ps,a,b⟩:=F.ex;exact⟨f,fd,ps,a.mono h,b⟩
theorem FnT.fn(F:FnT P w K mg base k x n m):Fn P w K mg base k x n m:=by
 obtain⟨f,fd,ps,a,b⟩:=F.ex;refine⟨f,fd,ps,a.imp λvs H Q E ⟨hl,W,ds,hw,hd,q⟩=>⟨hl,W,ds,hw,hd,?_⟩,b⟩;cases h:m ds with
 |ok d=>rw[h]at q;exact λv H' k z=>q v H' k (z.has hw k)
 |_=>rw[h]at q;exact q
theorem YE{qual:xa}{st:sf}{fa:ca}{fd:wf}{N ps:List xa}{g:Ca->Out}(F:Fun K x qual st fa fd)(S:FnScope N ps (Pa st))(hm:mg x=some (.ref fa))(hb:Binds K fd ps [])(body:∀ (cdv:Fa) (A:je) (outer:List tu) (s:Shared) (H:Hp) (E:XK),Room k (A.deeper (wn qual (Pa st) s.heap.objs.size fa cdv))->
   XSTs (Qo Oo P w K mg base N qual (Pa st) fa cdv A outer s H E).nox Jq (Ad st) g):FnT P w K mg base (k+1) x ps.length (Xc N.length g):=by
 refine⟨fa,fd,ps,F.ok S (λvs H Q E h=>h.1) (λcdv A outer s H vs Q E hr h=>?_),hm,F.kp,hb⟩;obtain⟨hl,W,ds,hw,hd,q⟩:=h;refine⟨_,(body cdv A outer s H E hr).h,W,H,W,Sb N.length ds,Pj hw hd,?_⟩;unfold Xc at q;cases h:g (Sb N.length ds) with
 |rt d=>rw[h]at q;exact λv H' k hv=>q v H' k hv
 |nx δ=>rw[h]at q;exact λW' H' σ' k st'=>q .non H' st'.fr.ext (by show Has K W H' D.non V.non;rw[Has])
 |bk δ=>rw[h]at q;exact q.elim
 |ct δ=>rw[h]at q;exact q.elim
 |ex c fs=>rw[h]at q;exact q.elim
 |stuck=>rw[h]at q;exact q.elim
theorem Tld.of(fr:FrOk W₀ H₀ W H)(k:Same H H')(h:Tld K W H H' d v):Tld K W₀ H₀ H' d v:=by
 unfold Tld at h ⊢;split at h
 .rename_i x y fs e;obtain⟨t,u1,u2,a,xs,r,ht,ha,ha',h1,h2,h3⟩:=h;have wl:WL (λb=>W b\/b=a) H':=⟨λb z=>z.elim ((fr.wl.same k).own b) λz=>by rw[z];exact⟨_,ha',trivial⟩,(fr.wl.same k).tab⟩
  have up:∀ b,(W₀ b\/b=a)->(W b\/b=a)\/H' b=none:=λb z=>.inl (z.elim (λz=>.inl (fr.sub b z)) .inr);have kk:Pg (λb=>W b\/b=a) H' H':=λ_ _ e _=>e;exact⟨t,u1,u2,a,xs,r,ht,Same.free fr.ext ha,ha',Has.keep kk wl up h1,Has.keep kk wl up h2,HasL.keep kk wl up h3⟩
 .exact Has.keep (λ_ _ e _=>e) (fr.wl.same k) (λb z=>.inl (fr.sub b z)) h
theorem C4{f:xa}(F:FnT X.prog X.w X.K X.mg X.base k f n m)(hr:Room k X.A)(ha:XA X xw (e::es) fs)(hg:Gl X f:=by rfl)(hdb:(f==("__debug__":xa))=false:=by decide)(he:aa (e::es) X.env=(false,eval e X.env)::aa es X.env:=by rfl)(hpl:(zd pc (aa es X.env)).any (·.1)=false:=by rfl):
  XST X xw (.Return (some (.Call (.Name f p) (e::es) [] pc)) pos) (Tb (b1 (La n m) fs)):=by
 obtain⟨fa,fd,ps,G,hm,hk,hb⟩:=F.ex;refine⟨PS.weak (Cp (Zq G hr hg hm hk hb .nil HA ha.h hdb he hpl)) λDn σ H ⟨W₀,H₀,W,δ,st,q⟩=>?_⟩;refine⟨W₀,H₀,W,δ,st,?_⟩;have q':RST X.K xw W₀ H₀ W H (Kj ((fs δ).bind (La n m)) λd=>.rt d) Dn:=q;cases h1:fs δ with
 |stuck=>rw[h1]at q';exact q'
 |ex c gs=>rw[h1]at q';exact λH' k'=>q' H' (st.fr.ext.trans k')
 |ok ds=>
  rw[h1]at q'
  intro vs H1 k1 hv;have q2:RST X.K xw W₀ H₀ W H (Kj (La n m ds) λd=>.rt d) Dn:=q';unfold La at q2;split at q2
  .rename_i hn;rw[bj];have st1:=st.same k1;refine⟨by rw[<-hv.length];exact hn,W,ds,st1.fr.wl,hv,?_⟩;cases h:m ds with
   |ex c fs=>rw[h]at q2;exact q2.elim
   |stuck=>rw[h]at q2;exact q2.elim
   |ok d=>rw[h]at q2;exact λv H' k' z=>q2 v H' (st1.fr.ext.trans k') (z.of st1.fr k')
  .exact q2.elim
def ED(i:Nat)(δ:Ca)(d:D):Out:=match ET d with
 |some (x,y,fs)=>.nx (δ.set i (some (.k .tup [.d x,.d y,.l fs])))
 |none=>.nx (δ.set i (some (.d d)))
def SF(i:Nat)(f:Ca->Res D):Ca->Out:=λδ=>Kj (f δ) (ED i δ)
theorem StHas.ownTup{i:Nat}{x:D}{fs:List D}{t l:ca}{u1 u2:V}{xs:List V}(h:StHas K W₀ H₀ W H σ δ)(k:Same H H')(ht:H' t=some (.tup [u1,u2,.ref l]))(hl:H l=none)(hl':H' l=some (.lst xs))(h1:Has K (λb=>W b\/b=l) H' x u1)(h2:Has K (λb=>W b\/b=l) H' y u2)(h3:HasL K (λb=>W b\/b=l) H' fs xs):StHas K W₀ H₀ (λb=>W b\/b=l) H' (σ.set i (some (.ref t))) (δ.set i (some (.k .tup [.d x,.d y,.l fs]))):=by
 have lt:l≠t:=λz=>by rw[z,ht]at hl';cases hl'
 refine h.ownS (N:=λb=>b=l) k (λb z=>by rw[z];exact⟨hl,_,hl',trivial⟩) ⟨t,_,rfl,ht,trivial,λz=>z.elim,rfl,?_,?_⟩ ?_
 .intro j c b e co e2
  match j with
  |0=>cases e;exact co.elim
  |1=>cases e;exact co.elim
  |2=>
   cases e;cases e2;refine⟨lt,λm c' hm e co'=>?_⟩
   match m with
   |0=>cases e;exact co'.elim
   |1=>cases e;exact co'.elim
   |2=>exact absurd rfl hm
   |m+3=>cases e
  |j+3=>cases e
 .intro j c v e e2
  match j with
  |0=>cases e;cases e2;exact h1
  |1=>cases e;cases e2;exact h2
  |2=>cases e;cases e2;exact⟨l,xs,rfl,.inr rfl,Same.free h.fr.ext hl,hl',h3⟩
  |j+3=>cases e
 .intro b o;rcases o with⟨z,_⟩|⟨a,ob,j,c,z,g,e,co,e2⟩
  .exact z.elim
  .cases z;rw[ht]at g;cases g
   match j with
   |0=>cases e;exact co.elim
   |1=>cases e;exact co.elim
   |2=>cases e2;exact hl
   |j+3=>cases e
theorem N3(i:Nat){f:xa}{pos' spos:vg}(hN:X.N.Nodup)(F:FnT X.prog X.w X.K X.mg X.base k f n m)(hr:Room k X.A)(ha:XA X xw (e::es) fs)(hg:Gl X f:=by rfl)(hdb:(f==("__debug__":xa))=false:=by decide)(he:aa (e::es) X.env=(false,eval e X.env)::aa es X.env:=by rfl)(hpl:(zd pos (aa es X.env)).any (·.1)=false:=by rfl)(hi:X.N[i]? =some x:=by rfl)(hx:Loc X.env.scope x:=by first|exact Or.inl rfl|exact Or.inr rfl)(hs:ph (.Call (.Name f p) (e::es) [] pos) (some (.Name x pos')) spos.line X.env=pure false:=by rfl)(hf:X.fn x=true\/X.env.scope.names.lookup x=some .local:=by first|exact .inl rfl|exact .inr rfl|assumption):
  XS X xw (.Assign [.Name x pos'] (.Call (.Name f p) (e::es) [] pos) spos) (SF i (b1 (La n m) fs)):=by
 obtain⟨fa,fd,ps,G,hm,hk,hb⟩:=F.ex;refine⟨PS.weak (Ht hN hi hx (Zq G hr hg hm hk hb .nil HA ha.h hdb he hpl) hs hf) λDn σ H ⟨W₀,H₀,W,δ,st,q⟩=>?_⟩;refine⟨W₀,H₀,W,δ,st,?_⟩;have q':RS X.K xw W₀ H₀ W H (Kj ((fs δ).bind (La n m)) (ED i δ)) Dn:=q;cases h1:fs δ with
 |stuck=>rw[h1]at q';exact q'
 |ex c gs=>rw[h1]at q';exact λH' k'=>q' H' (st.fr.ext.trans k')
 |ok ds=>
  rw[h1]at q'
  intro vs H1 k1 hv;have q2:RS X.K xw W₀ H₀ W H (Kj (La n m ds) (ED i δ)) Dn:=q';unfold La at q2;split at q2
  .rename_i hn;rw[bj];have st1:=st.same k1;refine⟨by rw[<-hv.length];exact hn,W,ds,st1.fr.wl,hv,?_⟩;cases h:m ds with
   |ex c fs=>rw[h]at q2;exact q2.elim
   |stuck=>rw[h]at q2;exact q2.elim
   |ok d=>
    rw[h]at q2
    have q3:RS X.K xw W₀ H₀ W H (ED i δ d) Dn:=q2;intro v H' k' z;unfold ED at q3;unfold Tld at z;split at q3
    .rename_i x y gs et;rw[et]at z
     obtain⟨t,u1,u2,l,xs,rfl,ht,hl,hl',z1,z2,z3⟩:=z;exact q3 _ H' _ ⟨λb o e nb=>k' b o (k1 b o e),λb z=>z.elim .inl λz=>.inr (by rw[z];exact Same.free k1 hl)⟩ (st1.ownTup k' ht hl hl' z1 z2 z3)
    .rename_i et;rw[et]at z
     exact q3 W H' _ (Step.same (k1.trans k')) ((st1.same k').set z)
  .exact q2.elim
def vwT(i:Nat)(δ:Ca):Ca:=match δ[i]? with
 |some (some (.k .tup [.d x,.d y,.l fs]))=>δ.set i (some (.d (.tup [x,y,.lst fs])))
 |_=>δ
theorem StHas.vwT{K:td}{W₀ W:WS}{H₀ H:Hp}{σ:L2.St}{δ:Ca}(h:StHas K W₀ H₀ W H σ δ)(i:Nat):∃ W':WS,(∀ b,W' b->W b)/\StHas K W₀ H₀ W' H σ (vwT i δ):=by
 unfold L3.vwT;split
 .rename_i x y fs hi;obtain⟨v,hs,a,ob,rfl,h1,h2,h3,h4,h5,h6⟩:=h.at' i _ hi;cases ob with
  |tup vs=>
   match vs,h4 with
   | [u1,u2,u3],_=>
    have f1:Has K W H x u1:=h6 0 _ _ rfl rfl;have f2:Has K W H y u2:=h6 1 _ _ rfl rfl;obtain⟨l,xs,rfl,g1,g2,g3,g4⟩:∃ b xs,u3=.ref b/\W b/\H₀ b=none/\H b=some (.lst xs)/\HasL K W H fs xs:=h6 2 (.l fs) u3 rfl rfl;have kk:Pg W H H:=λ_ _ e _=>e;have hw:∀ b,(W b/\¬ b=l)->W b\/H b=none:=λb z=>.inl z.1;refine⟨λb=>W b/\¬ b=l,λb z=>z.1,h.demote (N:=λb=>b=l) hi hs (λb z=>.inr ⟨a,_,2,_,rfl,h1,rfl,trivial,by rw[z];rfl⟩) ?_ (λb o=>o.elim)⟩;show Has _ _ _ (.tup [x,y,.lst fs]) _;rw[Has];refine⟨a,_,rfl,.inl (.inl h1),HasL.cons (Has.keep kk h.fr.wl hw f1) (HasL.cons (Has.keep kk h.fr.wl hw f2) (HasL.cons ?_ HasL.nil))⟩;rw[Has];exact⟨l,xs,rfl,.inl ⟨g3,λz=>z.2 rfl⟩,HasL.keep kk h.fr.wl hw g4⟩
  |_=>exact h2.elim
 .exact⟨W,λb z=>z,h⟩
def V7(i:Nat)(f:Ca->Res Bool):Ca->Res Bool:=λδ=>f (vwT i δ)
def sVw(i:Nat)(g:Ca->Out):Ca->Out:=λδ=>g (vwT i δ)
theorem G8(i:Nat){f:Ca->Res Bool}(h:XT X xw e f):XT X xw e (V7 i f):=⟨PT.weak h.h λσ H Q ⟨W₀,H₀,W,δ,st,q⟩=>let ⟨W',_,st'⟩:=st.vwT i;⟨W₀,H₀,W',_,st',q⟩⟩
theorem Ma0(i:Nat)(h:XS X xw st g):XS X xw st (sVw i g):=⟨PS.weak h.h λDn σ H ⟨W₀,H₀,W,δ,st,q⟩=>let ⟨W',k,st'⟩:=st.vwT i;⟨W₀,H₀,W',_,st',RS.less k q⟩⟩
def PQ(i:Nat)(f:Ca->Res D)(δ:Ca):Out:=match δ[i]? with
 |some (some (.k .tup [.d x,.d y,.l fs]))=>if fs.length<=100000 then Kj (f δ) λd=>.nx (δ.set i (some (.k .tup [.d x,.d y,.l (fs++ [d])]))) else .stuck
 |_=>.stuck
theorem K3(i:Nat){p3 p4:vg}(hi:XE X xw ie (kD (.int 2)))(he:XE X xw e f)(hs:Xl ie:=by intro _ _;rfl)(hN:X.N[i]? =some x:=by rfl)(hv:Wx X.env.scope x:=by first|exact Or.inl rfl|exact Or.inr (Or.inl rfl)|exact Or.inr (Or.inr rfl))(hd:(x==("__debug__":xa))=false:=by decide)(hcd:(x==("__classdict__":xa))=false:=by decide)(hsE:aa [e] X.env=(false,eval e X.env)::aa [] X.env:=by rfl)(hbase:ye (.Subscript (.Name x p1) ie p4) "append" X.env (eval (.Subscript (.Name x p1) ie p4) X.env)=eval (.Subscript (.Name x p1) ie p4) X.env:=by rfl)(hfew:((zd p3 (aa [e] X.env)).all (λx=> !x.1)&&(ms p3 (om [] X.env)).all (λx=>x.1.isSome)
   &&decide (([e]:List qc).length+([]:List rk).length+(if([]:List rk).isEmpty then 0 else 1)<30))=true:=by rfl)(hline:(p2.endLine==p3.line)=true:=by rfl)(hplain:(zd p3 (aa [] X.env)).any (·.1)=false:=by rfl)(hsw:ph (.Call (.Attribute (.Subscript (.Name x p1) ie p4) "append" p2) [e] [] p3) none pos.line X.env=pure false:=by rfl):
  XS X xw (.Expr (.Call (.Attribute (.Subscript (.Name x p1) ie p4) "append" p2) [e] [] p3) pos) (PQ i f):=
 ⟨PS.weak (Hx (OF aj lu nu Zo (PX IM (Bi hN hv hd hcd) hi.h hs) (Xe he.h Hk hsE) hbase hfew hline hsE hplain) hsw) λDn σ H ⟨W₀,H₀,W,δ,st,q⟩=>by
  unfold PQ at q;split at q
  .rename_i y1 y2 fs h;obtain⟨v,e1,a,ob,rfl,_⟩:=st.at' i _ h;refine⟨_,e1,?_⟩;refine⟨W₀,H₀,W,δ,st,λy H2 k2 hy=>?_⟩;rw[Has]at hy
   split at q
   .rename_i hlen;have st2:=st.same k2;obtain⟨v2,e2,a2,ob2,e',r1,r2,r3,r4,r5,r6⟩:=st2.at' i _ h;rw[e1]at e2
    cases e2;cases e';cases ob2 with
    |tup vs=>
     match vs,r4 with
     | [u1,u2,u3],_=>
      obtain⟨b,xs,rfl,f1,f2,f3,f4⟩:∃ b xs,u3=.ref b/\W b/\H₀ b=none/\H2 b=some (.lst xs)/\HasL X.K W H2 fs xs:=r6 2 (.l fs) u3 rfl rfl;refine⟨a,_,2,.ref b,rfl,hy,.inl (.inl r1),rfl,.inl ⟨rfl,xs,.of f3⟩,?_⟩;refine KJ st2 (RS.step (o:=Kj (f δ) _) q (Step.same k2)) λH3 d u k3 st3 hu q3=>?_;have sz:sizeLine=16777216:=se;have f3':=k3 _ _ f3;have f4':=HasL.keep (Same.keep k3) st2.fr.wl (λb z=>.inl z) f4;refine⟨b,xs,u,rfl,rfl,f3',?_,?_⟩
      .rw[<-f4.length];omega
      .refine q3 W _ σ ⟨λc o e n=>?_,λ_ z=>.inl z⟩ (st3.innerK (j:=2) (c':=.l (fs++ [d])) h e1 (k3 _ _ r1) rfl trivial rfl trivial trivial λh0 hw kk=>⟨b,xs++ [u],rfl,hw,h0,Ta,HasL.keep kk st3.fr.wl (λb z=>.inl z) (f4'.snoc hu)⟩);rw[Ha (λz=>n (by rw[z];exact f1))];exact e
    |_=>exact r2.elim
   .exact q.elim
  .exact q.elim⟩
end
end L3
namespace G
open PySem PySem.Spec PyProof.Rows L2 L3
def Wj:Ca->Res D:=(b1 Ef (Aa (Ea 0) (Aa (De (b1 Oc (Ga 1))) Ra)))
def Fy:Ca->Out:=(Tb (De (Rb 2 (Xb 2 (Ka (Za 0) (Ka (Za 1) Wb))) (λ_=>.ok true) Wj (b1 Oc (Ea 0)))))
def Zh:List D->Res D:=Xc 1 Fy
def Jg:List (xa×(Ca->Res D)):= [("rules",(Ea 1)),("doors",(De (b1 Oc (Ga 2)))),("wings",(b1 (La 1 Zh) (Aa (Ea 3) Ra))),("grants",(b1 (La 1 Zh) (Aa (Ea 4) Ra)))]
def Fi:Ca->Out:=(Bb (Of (tR (b2 W0 (Ga 1) (b1 Dm (Ga 0)))) (Tb (b2 Qe (Ga 0) (Ga 1))) Out.nx)
  (Bb (Vb 2 (b2 Pc (b2 Bu (Ga 1) (kD (.int 48271))) (kD (.int 11))))
  (Bb (Of (tR (b2 JL (b1 Dm (Ga 0)) (kD (.int 0)))) (Vb 2 (b2 Pc (Ga 2) (b2 Bu (b2 Zc (b2 Qe (Ga 0) (b2 Zc (b2 Bu (Ga 1) (kD (.int 7))) (b1 Dm (Ga 0)))) (kD (.int 2147483647))) (kD (.int 69621))))) Out.nx)
  (Tb (b2 Zc (b2 Bu (Ga 2) (Ga 2)) (kD (.int 2147483629)))))))
def Na:List D->Res D:=Xc 3 Fi
def Th:Ca->Res D:=(b2 Qe (Ga 0) (Ga 3))
def Xh:Ca->Out:=(Of (tR (b2 Lq (Ga 3) (De (Rb 1 (Za 0) (λ_=>.ok true) Th (b1 Oc (Ea 0)))))) (Tb (kD (.bl false))) Out.nx)
def Nn:Ca->Out:=(Bb (Of (tR (b2 Al (Ga 0) (De (b1 Me Ra)))) (Tb (kD (.bl false))) Out.nx)
  (Bb (Df (Xb 2 (Ka (Za 2) (Ka (Za 3) Wb))) Xh (b1 Xd (Aa (Ea 1) Ra)))
  (Tb (kD (.bl true)))))
def Ld:List D->Res D:=Xc 4 Nn
def Hf:Ca->Res D:=(b2 Qe (Ga 1) (kD (.int 0)))
def Ff:Ca->Res Bool:=(tR (b2 inR (Ga 6) (b2 Qe (Ga 4) (Ga 0))))
def Jf:Ca->Res D:=(Mo Se (Cc 4) (Ga 0))
def Vj:Ca->Res D:=(b2 Qe (Ga 0) (Ga 1))
def Kf:Ca->Res D:=(b2 Qe (Ga 7) (bL TL (De (Rb 1 (Za 0) (λ_=>.ok true) Vj (b1 Oc (Ea 8)))) (Aa (Ea 1) Ra)))
def Jd:Ca->Out:=(Ue 6 (Of (Cf (tR (b2 Lq (Ga 7) (Ga 5))) (tR (b1 (La 2 Ld) (Aa (Ea 6) (Aa (Mo Se (Cc 3) (Ga 7)) Ra))))) (Bb (Ue 6 (Oe 9 (Rb 2 (Xb 2 (Ka (Za 0) (Ka (Za 1) Wb))) (λ_=>.ok true) Kf (b1 Xd (Aa (Mo Se (Cc 3) (Ga 7)) Ra)))))
  (Ue 9 (Tb (b1 Ef (Aa (Ea 4) (Aa (Ea 7) (Aa (Ea 9) Ra))))))) Out.nx))
def Ah:Ca->Out:=(Bb (Oe 5 (Rb 2 (Xb 2 (Ka (Za 0) (Ka (Za 1) Wb))) Ff Hf (b1 Xd (Aa (Ea 1) Ra))))
  (Bb (Ue 5 (Oe 6 (Rb 1 (Za 0) (λ_=>.ok true) Jf (b1 Oc (Ea 5)))))
  (Ue 6 (Df (Xb 2 (Ka (Za 7) (Ka (Za 8) Wb))) Jd (b1 Oc (Ea 1))))))
def Jr:Ca->Out:=(Bb (Df (Za 4) Ah (b1 Oc (Ea 0)))
  (Tb (kD .non)))
def Ye:List D->Res D:=Xc 10 Jr
def Lp:Ca->Out:=(Bb (Vb 2 (kD (.str "abcdefghijklmnopqrstuvwxyz")))
  (Bb (Vb 3 (b1 (La 2 Na) (Aa (Ea 0) (Aa (kD (.int 0)) Ra))))
  (Tb (b2 Pc (b2 Pc (b2 Pc (b2 FI (kD (.str "x")) (b2 Zc (Ga 3) (kD (.int 4)))) (b2 Qe (Ga 2) (b2 Zc (Ga 1) (kD (.int 26))))) (b2 Qe (Ga 2) (b2 Zc (b2 Kl (Ga 1) (kD (.int 26))) (kD (.int 26))))) (b2 FI (kD (.str "q")) (b2 Zc (b2 Kl (Ga 3) (kD (.int 4))) (kD (.int 5))))))))
def Mb:List D->Res D:=Xc 4 Lp
def Lf:Ca->Res D:=(b1 (La 2 Mb) (Aa (Ea 1) (Aa (Ea 0) Ra)))
def Dl:Ca->Res D:=(Ea 1)
def Ph:Ca->Res Bool:=(tR (b2 Al (b2 Zc (b2 Kl (Ga 11) (b2 Pc (kD (.int 3)) (b2 Bu (kD (.int 2)) (Ga 0)))) (kD (.int 3))) (kD (.int 0))))
def El:Ca->Res D:=(Ea 1)
def Qh:Ca->Res Bool:=(Ci (tR (b2 inR (Ga 1) (Ga 12))) (tR (b2 GX (Ga 0) (Ga 6))))
def Fl:Ca->Res D:=(Ea 1)
def Rh:Ca->Res Bool:=(Ci (tR (b2 Al (Ga 0) (kD (.int 0)))) (tR (b2 GX (Ga 0) (Ga 6))))
def Dd:Ca->Out:=(Bb (Vb 9 (b2 Zc (b1 (La 2 Na) (Aa (Ea 0) (Aa (b2 Pc (kD (.int 4)) (Ga 8)) Ra))) (b2 ZI (kD (.int 10)) (kD (.int 60)))))
  (Bb (Ue 3 (Oe 10 (Rb 2 (Xb 2 (Ka (Za 0) (Ka (Za 1) Wb))) Ph Dl (b1 Xd (Aa (Ea 3) Ra)))))
  (Bb (Vb 11 (De (b3 R3 (Ga 10) Tg (b1 Bo (b1 Sw (kD (.int 1)))))))
  (Bb (Of (tR (b2 Al (b2 Zc (Ga 9) (kD (.int 5))) (kD (.int 1)))) (Bb (Vb 11 (De (VP PB (Ga 11) (De (b1 Me (Aa (b1 (La 2 Mb) (Aa (Ea 0) (Aa (kD (.int 40)) Ra))) Ra))))))
  (Ue 3 (Oe 10 (Rb 2 (Xb 2 (Ka (Za 0) (Ka (Za 1) Wb))) Qh El (b1 Xd (Aa (Ea 3) Ra)))))) Out.nx)
  (Bb (Of (Ci (tR (b2 Al (Ga 11) (De (b1 Me Ra)))) (tR (b2 Al (b2 Zc (Ga 9) (kD (.int 5))) (kD (.int 2))))) (Bb (Vb 11 (De (b1 Me (Aa (b1 (La 2 Mb) (Aa (Ea 0) (Aa (kD (.int 41)) Ra))) Ra))))
  (Ue 3 (Oe 10 (Rb 2 (Xb 2 (Ka (Za 0) (Ka (Za 1) Wb))) Rh Fl (b1 Xd (Aa (Ea 3) Ra)))))) Out.nx)
  (Bb (Ho 7 (b1 Ef (Aa (b1 (La 2 Mb) (Aa (Ea 0) (Aa (b2 Pc (kD (.int 20)) (Ga 8)) Ra))) (Aa (Ea 11) Ra))))
  (Ue 10 (Ho 6 (Ea 10)))))))))
def Mn:Ca->Out:=(Bb (Oe 3 (Rb 1 (Za 0) (λ_=>.ok true) Lf (b1 Gq (Aa (b2 Pc (kD (.int 1)) (b2 Zc (b1 (La 2 Na) (Aa (Ea 0) (Aa (kD (.int 1)) Ra))) (Ga 1))) Ra))))
  (Bb (Vb 4 (b2 Zc (b1 (La 2 Na) (Aa (Ea 0) (Aa (kD (.int 2)) Ra))) (b1 Dm (Ga 3))))
  (Bb (Vb 5 (De (b1 Me (Aa (b1 Ef (Aa (b1 (La 2 Mb) (Aa (Ea 0) (Aa (kD (.int 40)) Ra))) (Aa (De (b3 X4 (Ga 3) (b1 Bo (Ea 4)) Tg)) Ra))) (Aa (b1 Ef (Aa (b1 (La 2 Mb) (Aa (Ea 0) (Aa (kD (.int 41)) Ra))) (Aa (De (b1 Me (Aa (b1 (La 2 Mb) (Aa (Ea 0) (Aa (kD (.int 40)) Ra))) (Aa (b2 Qe (Ga 3) (kD (.int 0))) Ra)))) Ra))) Ra)))))
  (Bb (Oe 6 (b1 Me Ra))
  (Bb (Oe 7 (b1 Me Ra))
  (Bb (Df (Za 8) Dd (b1 Gq (Aa (b2 Pc (kD (.int 1)) (b2 Zc (b1 (La 2 Na) (Aa (Ea 0) (Aa (kD (.int 3)) Ra))) (Ga 2))) Ra)))
  (Ue 6 (Ue 7 (Ue 3 (Tb (b1 Ef (Aa (Ea 3) (Aa (Ea 5) (Aa (Ea 7) (Aa (Ea 6) Ra)))))))))))))))
def Kd:List D->Res D:=Xc 12 Mn
def Eg:Ca->Out:=(Bb (Vb 7 (b2 Pc (b2 Zc (b2 Bu (Ga 7) (kD (.int 48271))) (kD (.int 1000000000000000003))) (Ga 9)))
  (Bb (Vb 10 (b1 XM (Aa (kD (.int 0)) (Aa (b2 Fp (b2 Qe (Ga 8) (b1 Sw (kD (.int 1)))) (Ga 6)) Ra))))
  (Bb (Vb 11 (b1 BN (Aa (b2 Fp (Ga 4) (kD (.int 1))) (Aa (b2 Pc (b2 Qe (Ga 8) (b1 Sw (kD (.int 1)))) (Ga 6)) Ra))))
  (Ho 8 (b2 Pc (Ga 10) (b2 Zc (b2 Kl (Ga 7) (kD (.int 7))) (b2 Pc (b2 Fp (Ga 11) (Ga 10)) (kD (.int 1)))))))))
def Kp:Ca->Out:=(Bb (Ku (Xb 4 (Ka (Za 3) (Ka (Za 4) (Ka (Za 5) (Ka (Za 6) Wb))))) (Ea 2))
  (Bb (Vb 7 (b2 Zc (b1 (La 2 Na) (Aa (Ea 0) (Aa (Ea 1) Ra))) (b2 ZI (kD (.int 10)) (kD (.int 60)))))
  (Bb (Oe 8 (b1 Me (Aa (b2 Zc (Ga 7) (Ga 4)) Ra)))
  (Bb (Df (Za 9) Eg (b1 LA (Aa (kD (.int 1)) (Aa (Ea 3) Ra))))
  (Tb (b1 Bj (Ga 8)))))))
def Gd:List D->Res D:=Xc 12 Kp
def Fg:Ca->Out:=(Bb (Vb 6 (b1 (La 3 Gd) (Aa (Ea 0) (Aa (b2 Pc (kD (.int 16)) (Ga 4)) (Aa (Ea 1) Ra)))))
  (Bb (Of (Cf (tR (b2 JL (Ga 4) (kD (.int 0)))) (tR (b2 Al (b2 Zc (b1 (La 2 Na) (Aa (Ea 0) (Aa (b2 Pc (kD (.int 24)) (Ga 4)) Ra))) (kD (.int 3))) (kD (.int 0))))) (Bb (Vb 7 (Mo Se (Cc 3) (b2 Qe (b2 Qe (Ga 2) (b2 Zc (b2 Kl (b1 (La 2 Na) (Aa (Ea 0) (Aa (b2 Pc (kD (.int 24)) (Ga 4)) Ra))) (kD (.int 3))) (Ga 4))) (kD (.int 0)))))
  (Bb (Vb 8 (b2 Zc (b1 (La 2 Na) (Aa (Ea 0) (Aa (b2 Pc (kD (.int 32)) (Ga 4)) Ra))) (b2 Pc (b2 Qe (Ga 1) (kD (.int 0))) (kD (.int 1)))))
  (Of (Ci (tR (b2 Al (Ga 8) (b2 Qe (Ga 1) (kD (.int 0))))) (Ci (tR (b2 ZP (b1 HB (b2 Fp (b2 Qe (Ga 7) (Ga 8)) (b2 Qe (Ga 6) (b2 Fp (Ga 8) (kD (.int 1)))))) (b2 Qe (Ga 1) (kD (.int 3))))) (tR (b2 Al (Ga 8) (kD (.int 0)))))) (Vb 6 (b2 Pc (b3 CW (Ga 6) Tg (b1 Bo (Ea 8))) (b3 CW (Ga 7) (b1 Bo (Ea 8)) Tg))) Out.nx))) Out.nx)
  (Li 3 (b2 Qe (Ga 5) (kD (.int 0))) (Ea 6))))
def Mp:Ca->Out:=(Bb (Km 3)
  (Bb (Df (Xb 2 (Ka (Za 4) (Ka (Za 5) Wb))) Fg (b1 Xd (Aa (Ea 2) Ra)))
  (NA 3 (Tb (Ga 3)))))
def Yd:List D->Res D:=Xc 9 Mp
def Qn:Ca->Out:=(Tb (b2 Qe (Ga 0) (kD (.int 2))))
def Je:List D->Res D:=Xc 1 Qn
def Np:Ca->Out:=(Tb (b2 Qe (Ga 0) (kD (.int 0))))
def Bf:List D->Res D:=Xc 1 Np
def Yg:Ca->Res D:=(b2 Qe (Ga 0) (Ga 4))
def Ck:Ca->Out:=(Bb (Vb 4 (b1 Bj (De (b1 VA (De (Rb 1 (Za 0) (λ_=>.ok true) Yg (b1 Oc (Ea 1))))))))
  (Bb (Of (tR (b2 JL (b1 Dm (Ga 4)) (b1 (La 1 Je) (Aa (Ea 0) Ra)))) (λ_=>.stuck) Out.nx)
  (Ho 2 (Ea 4))))
def Mr:Ca->Out:=(Bb (Oe 2 (b1 Me Ra))
  (Bb (Df (Za 3) Ck (b1 Gq (Aa (b1 (La 1 Bf) (Aa (Ea 0) Ra)) Ra)))
  (Tb (b1 Bj (Ga 2)))))
def Ag:List D->Res D:=Xc 5 Mr
def Cs:Ca->Out:=(λ_=>.stuck)
def Sj:Ca->Out:=(Bb (Of (tR (b2 Al (b1 Dm (Ga 2)) (kD (.int 0)))) (Tb (kD .non)) Out.nx)
  (BJ [] (J4 (Aa (Ea 0) (Aa (Ea 2) Ra)) 2 Ag []) (λd _=>.rt d) Out.nx (QS 3 Cs)))
def Ic:List D->Res D:=Xc 4 Sj
def Wd:Ca->Res D:=(Mo Se (Cc 3) (Ga 0))
def Td:Ca->Res Bool:=(tR (Ey Js (Ga 0) (Cc 3)))
def Nl:Ca->Out:=(Li 3 (Ea 4) (b1 (La 3 Ic) (Aa (Ea 0) (Aa (Ea 4) (Aa (De (Rb 1 (Za 0) Td Wd (b1 Oc (Ea 5)))) Ra)))))
def Pn:Ca->Out:=(Bb (Km 3)
  (Bb (Df (Xb 2 (Ka (Za 4) (Ka (Za 5) Wb))) Nl (Dy Cn (Ea 1)))
  (NA 3 (Tb (Ga 3)))))
def Ie:List D->Res D:=Xc 6 Pn
def Xj:Ca->Res D:=(Ea 0)
def Vg:Ca->Res Bool:=(tR (b2 Al (b2 Qe (Ga 1) (Ga 5)) (Ga 6)))
def Bh:Ca->Out:=(Bb (Oe 5 (Rb 2 (Xb 2 (Ka (Za 0) (Ka (Za 1) Wb))) Vg Xj (b1 Xd (Aa (Ea 0) Ra))))
  (Bb (Of (tR (b2 Al (b1 Dm (Ga 5)) (kD (.int 0)))) (Tb (kD .non)) Out.nx)
  (Ho 2 (b2 Qe (Ga 5) (kD (.int 0))))))
def Rm:Ca->Out:=(Bb (Oe 2 (b1 Me Ra))
  (Bb (Df (Xb 2 (Ka (Za 3) (Ka (Za 4) Wb))) Bh (b1 Xd (Aa (Ea 1) Ra)))
  (Tb (Ga 2))))
def Ze:List D->Res D:=Xc 6 Rm
def Md:Ca->Res D:=(b2 Qe (Ga 1) (Ga 0))
def We:Ca->Res D:=(Mo Se (Cc 3) (Ga 0))
def Gm:Ca->Out:=(Bb (Vb 3 (b1 (La 2 Ze) (Aa (De (Rb 1 (Za 0) (λ_=>.ok true) We (b1 Oc (Ea 0)))) (Aa (Mo Se (Cc 2) (Ga 1)) Ra))))
  (TF (Rb 1 (Za 0) (λ_=>.ok true) Md (b1 Oc (Ea 3)))))
def Wc:List D->Res D:=Xc 4 Gm
def Mf:Ca->Out:=(Of (tR (b2 Lq (b2 Qe (Ga 1) (Ga 2)) (Ga 3))) (Tb (Ea 2)) Out.nx)
def Tj:Ca->Out:=(Bb (Df (Xb 2 (Ka (Za 2) (Ka (Za 3) Wb))) Mf (b1 Xd (Aa (Ea 0) Ra)))
  (Tb (kD .non)))
def Qc:List D->Res D:=Xc 4 Tj
def Pr:Ca->Out:=(Tb (b1 Yn (b1 (La 2 Qc) (Aa (Ea 0) (Aa (Ea 1) Ra)))))
def Af:List D->Res D:=Xc 2 Pr
def Zj:Ca->Res D:=(Ea 0)
def Xg:Ca->Res Bool:=(tR (Ey Js (Ga 0) (Cc 4)))
def Hc:Ca->Out:=(Of (Cf (tR (b1 Vs (Ga 5))) (Cf (tR (b2 Lq (Ga 6) (Mo Se (Cc 0) (Ga 4)))) (tR (b1 (La 2 Af) (Aa (Ea 5) (Aa (Mo Se (Cc 3) (Ga 6)) Ra)))))) (MO (Ea 4) (Ea 6) (b1 (La 3 Wc) (Aa (De (Rb 1 (Za 0) Xg Zj (b1 Oc (Mo Se (Cc 0) (Ga 4))))) (Aa (Ea 6) (Aa (Ea 3) Ra))))) Out.nx)
def Dh:Ca->Out:=(Df (Za 6) Hc (b1 Oc (Ea 2)))
def Sm:Ca->Out:=(Bb (Df (Xb 2 (Ka (Za 4) (Ka (Za 5) Wb))) Dh (Dy Cn (Ea 1)))
  (Tb (kD .non)))
def Zd:List D->Res D:=Xc 7 Sm
def He:Ca->Out:=(Bb (Qv 5 4)
  (Of (tR (Ey Jv (Ga 5) (Cc 3))) (Bb (Li 3 (Ea 5) (kD (.bl true)))
  (MA 4 (UG (Cc 2) (Aa (Ea 5) (Aa (De (b1 Me Ra)) Ra))))) Out.nx))
def Fe:Ca->Res Bool:=(tR (b2 JL (b1 Dm (Ga 4)) (kD (.int 0))))
def Yj:Ca->Res D:=(Ea 0)
def Wg:Ca->Res Bool:=(tR (Ey Js (Ga 0) (Cc 4)))
def Kr:Ca->Out:=(Bb (Vb 2 (b1 Qg (De (VP PB (b1 (Fj "House" "wings") (Ea 0)) (b1 (Fj "House" "grants") (Ea 0))))))
  (Bb (Km 3)
  (Bb (Oe 4 (b1 Me (Aa (Ea 1) Ra)))
  (Bb (Dp 100000 Fe He)
  (NA 3 (Tb (De (Rb 1 (Za 0) Wg Yj (b1 Oc (b1 (Fj "House" "doors") (Ea 0)))))))))))
def Zf:List D->Res D:=Xc 6 Kr
def Ak:Ca->Res D:=(Ea 0)
def Nr:Ca->Out:=(Tb (De (Rb 2 (Xb 2 (Ka (Za 0) (Ka (Za 1) Wb))) (λ_=>.ok true) Ak (b1 Oc (Ea 0)))))
def Be:List D->Res D:=Xc 1 Nr
def Zg:Ca->Res D:=(b1 Ef (Aa (Ea 0) (Aa (b1 (La 2 Zf) (Aa (Ea 1) (Aa (Ea 0) Ra))) Ra)))
def Qr:Ca->Out:=(Tb (b1 Qg (De (Rb 1 (Za 0) (λ_=>.ok true) Zg (b1 Oc (b1 (La 1 Be) (Aa (b1 (Fj "House" "grants") (Ea 0)) Ra)))))))
def Bg:List D->Res D:=Xc 1 Qr
def Hl:Ca->Res D:=(Ea 0)
def Gi:Ca->Res Bool:=(tR (b2 inR (Ga 2) (Ga 1)))
def Ii:Ca->Res D:=(b1 Ef (Aa (Ea 0) (Aa (De (Rb 2 (Xb 2 (Ka (Za 0) (Ka (Za 1) Wb))) Gi Hl (Dy Cn (Ea 2)))) Ra)))
def Qu:Ca->Out:=(Bb (Vb 1 (b1 (La 1 Bg) (Aa (Ea 0) Ra)))
  (Tb (b1 Qg (De (Rb 1 (Za 0) (λ_=>.ok true) Ii (b1 Oc (b1 (Fj "House" "doors") (Ea 0))))))))
def Oh:List D->Res D:=Xc 2 Qu
def Uh:Ca->Res D:=(Ea 0)
def Gf:Ca->Res Bool:=(tR (Ey Js (Ga 0) (Cc 2)))
def Rn:Ca->Out:=(Tb (De (Rb 1 (Za 0) Gf Uh (b1 Oc (b1 (La 1 Be) (Aa (b1 (Fj "House" "grants") (Ea 0)) Ra))))))
def Ke:List D->Res D:=Xc 2 Rn
def Lr:Ca->Out:=(Bb (Vb 2 (b1 (La 1 Oh) (Aa (Ea 0) Ra)))
  (Tb (b1 (La 4 Zd) (Aa (Ea 2) (Aa (b1 (La 3 Ie) (Aa (b1 (Fj "House" "rules") (Ea 0)) (Aa (Ea 2) (Aa (Ea 1) Ra)))) (Aa (b1 (La 2 Ke) (Aa (Ea 0) (Aa (Ea 1) Ra))) (Aa (Ea 1) Ra)))))))
def Ae:List D->Res D:=Xc 3 Lr
def AX:Ca->Out:=(Bb (Vb 1 (b2 Pc (kD (.int 2)) (b2 Zc (b1 (La 2 Na) (Aa (Ea 0) (Aa (kD (.int 12)) Ra))) (kD (.int 5)))))
  (Bb (Vb 2 (b1 Ef (Aa (b2 Pc (kD (.int 1)) (b2 Zc (b1 (La 2 Na) (Aa (Ea 0) (Aa (kD (.int 13)) Ra))) (kD (.int 24)))) (Aa (Ea 1) (Aa (Ea 1) (Aa (b2 Pc (kD (.int 1)) (b2 Zc (b1 (La 2 Na) (Aa (Ea 0) (Aa (kD (.int 14)) Ra))) (b2 Fp (Ga 1) (kD (.int 1))))) Ra))))))
  (Bb (Of (tR (b2 Al (b2 Zc (b1 (La 2 Na) (Aa (Ea 0) (Aa (kD (.int 15)) Ra))) (kD (.int 2))) (kD (.int 0)))) (Vb 2 (b1 Ef (Aa (b2 Pc (kD (.int 1)) (b2 Zc (b1 (La 2 Na) (Aa (Ea 0) (Aa (kD (.int 13)) Ra))) (kD (.int 3)))) (Aa (Ea 1) (Aa (Ea 1) (Aa (b2 Qe (Ga 2) (kD (.int 3))) Ra)))))) Out.nx)
  (Bb (Ku (Xb 4 (Ka (Za 3) (Ka (Za 4) (Ka (Za 5) (Ka (Za 6) Wb))))) (b1 (La 3 Kd) (Aa (Ea 0) (Aa (kD (.int 6)) (Aa (kD (.int 7)) Ra)))))
  (Bb (Vb 7 (b1 (La 3 Yd) (Aa (Ea 0) (Aa (Ea 2) (Aa (Ea 5) Ra)))))
  (Bb (Vb 8 (b1 Xr (Ga 7)))
  (Bb (Of (tR (b2 Al (b2 Zc (b1 (La 2 Na) (Aa (Ea 0) (Aa (kD (.int 40)) Ra))) (kD (.int 2))) (kD (.int 1)))) (Vb 8 (b1 Qg (De (b3 R3 (De (Dy Gs (Ea 7))) Tg (b1 Bo (b1 Sw (kD (.int 1)))))))) Out.nx)
  (Bb (Vb 9 (b1 (La 4 (Ss 4 "House" Jg)) (Aa (Ea 2) (Aa (De (b1 Oc (Ga 3))) (Aa (De (b1 Oc (Ga 4))) (Aa (De (b1 Oc (Ga 5))) Ra))))))
  (Bb (SF 10 (b1 (La 2 Ae) (Aa (Ea 9) (Aa (Ea 8) Ra))))
  (Bb (Vb 11 (b1 (La 4 Ye) (Aa (Ea 3) (Aa (Ea 5) (Aa (Ea 6) (Aa (Ea 7) Ra))))))
  (Bb (Of (V7 10 (Ci (tR (b2 GI (Ga 8) (Ga 7))) (tR (b2 FU (Ga 10) (Ga 11))))) (Tb (kD (.bl false))) Out.nx)
  (Bb (Of (tR (b1 Yn (Ga 11))) (sVw 10 (Tb (b1 Yn (Ga 10)))) Out.nx)
  (Bb (Of (V7 10 (Ci (Qt (tR (b1 (LC "tuple") (Ga 10)))) (Qt (tR (b1 (LC "list") (b2 Qe (Ga 10) (kD (.int 2)))))))) (Tb (kD (.bl false))) Out.nx)
  (Bb (PQ 10 (kD (.str "x")))
  (Tb (b2 Al (b1 (La 2 Ae) (Aa (Ea 9) (Aa (Ea 8) Ra))) (Ga 11)))))))))))))))))
def VM:List D->Res D:=Xc 12 AX
local macro_rules| `(tactic| walk_at "ev")=> `(tactic| simp only[Pd,Sb,ac,fk,ba,rd,lg,xg,ve,qj,kc,
 kD,b1,b2,b3,L9,tR,Cf,Ci,Qt,N4,vOr,vIf,Ra,Aa,Tg,De,Rb,Bb,Vb,Oe,Of,Df,Dp,VP,Ho,Tb,NO,KO,Ku,QO,LO,Km,Li,Dy,Mo,
 Va,Gb,Qa,Nd,Ya,Res.bind_ok,Res.bind_ex,Res.bind_stuck,Eb,ZC,Ap,Fb,Le,En,Ub,Ve,Dg,Xv,DD,Wa,Tw,
 Cd,VC,WB,An,Pl,Ll,Bs,Lc,Qm,Ui,Rl,Xq,Vn,Yq,Vq,Wq,IB,NC,Yh,SD,Aj,Tt,Ko,Fh,Sa,Eh,WO,ZO,Lb,Hw,Ur,Vm,
 zb,Sc,Me,Ef,if_true,if_false,reduceIte,nj,yh,uc,vh,qf,zp,Int.reduceLT,true_and,and_true,and_self])
local macro_rules| `(tactic| walk_at "ev*")=> `(tactic| simp only[Pd,Sb,ac,fk,ba,rd,lg,xg,ve,qj,kc,
 kD,b1,b2,b3,L9,tR,Cf,Ci,Qt,N4,vOr,vIf,Ra,Aa,Tg,De,Rb,Bb,Vb,Oe,Of,Df,Dp,VP,Ho,Tb,NO,KO,Ku,QO,LO,Km,Li,Dy,Mo,
 Va,Gb,Qa,Nd,Ya,Res.bind_ok,Res.bind_ex,Res.bind_stuck,Eb,ZC,Ap,Fb,Le,En,Ub,Ve,Dg,Xv,DD,Wa,Tw,
 Cd,VC,WB,An,Pl,Ll,Bs,Lc,Qm,Ui,Rl,Xq,Vn,Yq,Vq,Wq,IB,NC,Yh,SD,Aj,Tt,Ko,Fh,Sa,Eh,WO,ZO,Lb,Hw,Ur,Vm,
 zb,Sc,Me,Ef,if_true,if_false,reduceIte,nj,yh,uc,vh,qf,zp,Int.reduceLT,true_and,and_true,and_self, *])
local macro_rules| `(tactic| walk_at "evs")=> `(tactic| simp[Pd,Sb,ac,fk,ba,rd,lg,xg,ve,qj,kc,
 kD,b1,b2,b3,L9,tR,Cf,Ci,Qt,N4,vOr,vIf,Ra,Aa,Tg,De,Rb,Bb,Vb,Oe,Of,Df,Dp,VP,Ho,Tb,NO,KO,Ku,QO,LO,Km,Li,Dy,Mo,
 Va,Gb,Qa,Nd,Ya,Res.bind_ok,Res.bind_ex,Res.bind_stuck,Eb,ZC,Ap,Fb,Le,En,Ub,Ve,Dg,Xv,DD,Wa,Tw,
 Cd,VC,WB,An,Pl,Ll,Bs,Lc,Qm,Ui,Rl,Xq,Vn,Yq,Vq,Wq,IB,NC,Yh,SD,Aj,Tt,Ko,Fh,Sa,Eh,WO,ZO,Lb,Hw,Ur,Vm,
 zb,Sc,Me,Ef,if_true,if_false,reduceIte,nj,yh,uc,vh,qf,zp,Int.reduceLT,true_and,and_true,and_self, *])
local macro_rules| `(tactic| walk_at "s")=> `(tactic| simp only[Pd,Sb,ac,fk,ba,rd,lg,xg,ve,qj,kc])
abbrev sd(x:D):Option S:=some (.d x)
abbrev sQ(l:List (Hb×D)):Option S:=some (.q (l.map (·.1)) (l.map (·.2)))
def pD(p:List Int):D:=.tup (p.map D.int)
def bD(B:List (List Int)):D:=.tup (B.map pD)
theorem ints_map:∀ (ns:List Int),Ym (ns.map D.int)=some ns
 | []=>rfl
 |n::ns=>by show(Ym (ns.map D.int)).map (n:: ·)=_;rw[ints_map ns];rfl
theorem HW(ns:List Int)(h:ns.length<64):VA (.lst (ns.map D.int))=.ok ((sortI ns).map D.int):=by
 unfold VA;dsimp only;rw[ints_map];dsimp only;rw[if_pos h]
variable{n:Nat}
theorem OG(h:n<=1000):n<=sizeLine:=uf h Jz
theorem JB(x y:xa)(h:x.length+y.length<=1000):Pc (.str x) (.str y)=.ok (.str (x++y)):=if_pos (OG h)
theorem Zv(x y:xa):(x++y).length=x.length+y.length:=fu ..
theorem Cg(i j:Int)(h:0<j):Zc (.int i) (.int j)=.ok (.int (i%j)):=by rw[Xq,if_pos h]
theorem MK(i j:Int)(h:0<j)(h2:j<1073741824):Kl (.int i) (.int j)=.ok (.int (i / j)):=by rw[Vn,if_pos ⟨h,h2⟩]
theorem TC(i j:Int)(h: -18446744073709551616<j/\j<18446744073709551616):Bu (.int i) (.int j)=.ok (.int (i*j)):=by rw[Yq];exact if_pos (.inr h)
theorem Tn(ns:List Int)(k:Int)(h0:0<=k)(h1:k<=1000):∃ v,La 2 Na [.lst (ns.map D.int),.int k]=.ok (.int v):=by
 by_cases h:k<(ns.length:Int)
 .obtain⟨d,e,hd⟩:=WJ (xs:=ns.map D.int) (i:=k) h0 (by rw[la];exact h);obtain⟨v,_,rfl⟩:=jf.mp hd;have e':=Bq _ _ _ e;have dt:decide (k<((ns.map D.int).length:Int))=true:=decide_eq_true (by rw[la];exact h);refine⟨v,Jb _ _ _ _ ?_ rfl⟩;clear h;generalize ns.map D.int=ds at*;unfold Na Fi
  walk_at "s"
  simp only[tR,b1,b2,Bb,Of,Tb,Qa,Ya,Res.bind_ok,Yh,An,dt,Wa,Ub,if_true,reduceIte,e',Eb,Le,Lb]
 .have dt:decide (k<((ns.map D.int).length:Int))=false:=decide_eq_false (by rw[la];exact h);have x1:=TC k 48271 (by decide);have x2:=TC k 7 (by decide);by_cases hn:0<(ns.length:Int)
  .have dn:decide (0<((ns.map D.int).length:Int))=true:=decide_eq_true (by rw[la];exact hn);have m1:=Cg (k*7) ((ns.map D.int).length:Int) (by rw[la];exact hn);obtain⟨d,e,hd⟩:=WJ (xs:=ns.map D.int) (i:=k*7%((ns.map D.int).length:Int)) (zg _ (by rw[la];omega)) (yf _ (by rw[la];exact hn));obtain⟨v,_,rfl⟩:=jf.mp hd;have e':=Bq _ _ _ e;have m2:=Cg v 2147483647 (by decide);have b0:=zg v (show(2147483647:Int)≠0 by decide);have b1':=yf v (show(0:Int)<2147483647 by decide);generalize v%2147483647=r at*;have x3:=TC r 69621 (by decide);have x4:=TC (k*48271+11+r*69621) (k*48271+11+r*69621) (by omega);have m3:=Cg ((k*48271+11+r*69621)*(k*48271+11+r*69621)) 2147483629 (by decide);refine⟨(k*48271+11+r*69621)*(k*48271+11+r*69621)%2147483629,Jb _ _ _ _ ?_ rfl⟩;clear h hn b0 b1' hd e;generalize ns.map D.int=ds at*;unfold Na Fi
   walk_at "s"
   simp only[tR,kD,b1,b2,Bb,Of,Vb,Tb,Qa,Ya,Res.bind_ok,Yh,An,Ll,dt,dn,Wa,Ub,if_true,if_false,uc,reduceIte,Lc,x1,x2,m1,e',m2,x3,x4,m3,Eb,Fb,Le,Lb,zb,Sc]
  .have dn:decide (0<((ns.map D.int).length:Int))=false:=decide_eq_false (by rw[la];exact hn);have x4:=TC (k*48271+11) (k*48271+11) (by omega);have m3:=Cg ((k*48271+11)*(k*48271+11)) 2147483629 (by decide);refine⟨(k*48271+11)*(k*48271+11)%2147483629,Jb _ _ _ _ ?_ rfl⟩;clear h hn;generalize ns.map D.int=ds at*;unfold Na Fi
   walk_at "s"
   simp only[tR,kD,b1,b2,Bb,Of,Vb,Tb,Qa,Ya,Res.bind_ok,Yh,An,Ll,dt,dn,Wa,Ub,if_true,if_false,uc,reduceIte,Lc,x1,x4,m3,Eb,Fb,Lb,zb,Sc]
def M5:xa:="abcdefghijklmnopqrstuvwxyz"
theorem VJ:∀ k:Nat,k<26->Qe (.str M5) (.int (k:Int))=.ok (.str ⟨#[97+k]⟩):=by
 intro k hk;have:∀ k:Nat,k<26->Ir M5.cps.toList (k:Int)=some (97+k):=by decide +kernel
 show(@ite (Res D) (M5.length<=sizeLine) (xc _) (match Ir M5.cps.toList (k:Int) with|some c=>Res.ok (D.str ⟨#[c]⟩)|none=>.stuck) .stuck)=_;rw[if_pos (OG (by decide)),this k hk]
def nm(X Q:xa)(k:Nat):xa:=X++⟨#[97+k%26]⟩++⟨#[97+k / 26%26]⟩++Q
variable{X Q:xa}{j k:Nat}
theorem Bn(hj:j<600)(hk:k<600)(h:nm X Q j=nm X Q k):j=k:=by
 have h2:=congrArg (λs:xa=>s.cps.toList) h;simp only[nm,Str.cps_append,Array.toList_append,ak,List.append_cancel_left_eq]at h2;simp only[lg,xg,List.cons.injEq]at h2;omega
theorem DN(x:xa)(n:Int)(h:n<=10)(hx:x.length=1):(ii x n).length<=10:=by
 unfold ii;split
 .decide
 .split
  .omega
  .show((kc n.toNat x.cps).foldl (· ++ ·) #[]).size<=10
   have f:∀ (k:Nat) (b:Array Nat),((kc k x.cps).foldl (· ++ ·) b).size=b.size+k*x.cps.size:=by
    intro k
    induction k with
    |zero=>intro b;simp
    |succ k ih=>intro b;rw[pi,cj,ih,fu,Nat.succ_mul];omega
   rw[f,show x.cps.size=1 from hx];simp;omega
def BQ(x:xa):Prop:=∀ c∈x.cps.toList,c<1114112
theorem HF(x:xa)(n:Int)(hx:BQ x):BQ (ii x n):=by
 have f:∀ (k:Nat) (b:Array Nat),(∀ c∈b.toList,c<1114112)->∀ c∈((kc k x.cps).foldl (· ++ ·) b).toList,c<1114112:=by
  intro k
  induction k with
  |zero=>intro b hb;exact hb
  |succ k ih=>
   intro b hb;rw[pi,cj];refine ih _ λc hc=>?_;rw[Array.toList_append]at hc
   exact(ag.mp hc).elim (hb c) (hx c)
 unfold ii;split
 .intro c hc;exact absurd hc (by show ¬ c∈([]:List Nat);simp)
 .split
  .exact hx
  .exact f n.toNat #[] λc hc=>absurd hc (by simp)
theorem EU(ns:List Int):∃ X Q:xa,(X.length<=10/\Q.length<=10/\BQ X/\BQ Q)/\∀ k:Nat,k<600->La 2 Mb [.lst (ns.map D.int),.int (k:Int)]=.ok (.str (nm X Q k)):=by
 obtain⟨p,e0⟩:=Tn ns 0 (by decide) (by decide);have m1:=Cg p 4 (by decide);have a1:=zg p (show(4:Int)≠0 by decide);have a2:=yf p (show(0:Int)<4 by decide);have d1:=MK p 4 (by decide) (by decide);have m2:=Cg (p / 4) 5 (by decide);have a3:=zg (p / 4) (show(5:Int)≠0 by decide);have a4:=yf (p / 4) (show(0:Int)<5 by decide);generalize p%4=q1 at*;generalize p / 4%5=q2 at*;have s1:FI (.str "x") (.int q1)=.ok (.str (ii "x" q1)):=if_pos ⟨a1,by omega,by decide⟩;have s2:FI (.str "q") (.int q2)=.ok (.str (ii "q" q2)):=if_pos ⟨a3,by omega,by decide⟩;have l1:=DN "x" q1 (by omega) rfl;have l2:=DN "q" q2 (by omega) rfl;have o1:=HF "x" q1 (by unfold BQ;decide);have o2:=HF "q" q2 (by unfold BQ;decide);generalize ii "x" q1=X at*;generalize ii "q" q2=Q at*;refine⟨X,Q,⟨l1,l2,o1,o2⟩,λk hk=>?_⟩;have m3:=Cg (k:Int) 26 (by decide);have d3:=MK (k:Int) 26 (by decide) (by decide);have m4:=Cg ((k:Int) / 26) 26 (by decide);have t1:=VJ (k%26) (by omega);have t2:=VJ (k / 26%26) (by omega);rw[show((k%26:Nat):Int)=(k:Int)%26 by omega]at t1
 rw[show((k / 26%26:Nat):Int)=(k:Int) / 26%26 by omega]at t2
 have g1:=JB X ⟨#[97+k%26]⟩ (by show X.length+1<=1000;omega);have g2:=JB (X++⟨#[97+k%26]⟩) ⟨#[97+k / 26%26]⟩ (by rw[Zv];show X.length+1+1<=1000;omega);have g3:=JB (X++⟨#[97+k%26]⟩++⟨#[97+k / 26%26]⟩) Q (by rw[Zv,Zv];show X.length+1+1+Q.length<=1000;omega);refine Jb _ _ _ _ ?_ rfl;unfold nm;clear hk l1 l2 a1 a2 a3 a4;generalize (k:Int)%26=r1 at*;generalize (k:Int) / 26%26=r2 at*;unfold M5 at*;unfold Mb Lp
 walk_at "s"
 simp only[kD,b1,b2,Aa,Ra,Sa,Bb,Vb,Tb,Va,Gb,Qa,Ya,Res.bind_ok,e0,m1,d1,m2,s1,s2,m3,d3,m4,t1,t2,g1,g2,g3,Eb,Fb,Lb,zb,Sc]
abbrev Br(p d h s:Int):D:=.tup [.int p,.int d,.int h,.int s]
def cD(C:List (List Int)):D:=.lst (C.map pD)
def MQ(i:Nat)(c:Int):Nat->List (List Int)->List Int
 |_,[]=> []
 |k,q::C=>if(q.getD i 0==c)=true then(k:Int)::MQ i c (k+1) C else MQ i c (k+1) C
def al(C:List (List Int))(one:List Int)(i:Nat):List Int:=MQ i (one.getD i 0) 0 C
def G1(C:List (List Int))(one:List Int)(i:Nat):Bool:= !(al C one i).isEmpty
def FC(C:List (List Int))(one:List Int)(i:Nat):Int:=(al C one i).getD 0 0
def Ja0(C:List (List Int))(one:List Int)(n:Nat)(x:D):Prop:=(x=.lst (((qb n).map (FC C one)).map D.int)/\∀ i,i<n->G1 C one i=true)\/(x=.non/\∃ i,i<n/\G1 C one i=false)
def Ik:Nat->List D->List (D×D)
 |_,[]=> []
 |k,x::xs=>(.int k,x)::Ik (k+1) xs
theorem Wp:∀ (k:Nat) (xs:List D),Od k xs=(Ik k xs).map λp=>.tup [p.1,p.2]
 |_,[]=>rfl
 |k,x::xs=>by rw[Od,Ik,ac,Wp]
theorem Wr{c:Ca->Res Bool}{fe:Ca->Res D}(P:D->D->Bool)(F:D->D->D)(δ:Ca):∀ (L:List (D×D)) (x y:Option L3.S),(∀ p∈L,c (sd p.1::sd p.2::δ)=.ok (P p.1 p.2)/\fe (sd p.1::sd p.2::δ)=.ok (F p.1 p.2))->
  Ud X7 c fe (L.map λp=>D.tup [p.1,p.2]) (x::y::δ)=.ok ((L.filter λp=>P p.1 p.2).map λp=>F p.1 p.2)
 | [],_,_,_=>by simp[Ud]
 |p::L,x,y,h=>by
  obtain⟨h1,h2⟩:=h p ib;rw[ac,Sh X7 (.tup [p.1,p.2]) _ (x::y::δ) (sd p.1::sd p.2::δ) rfl,Wr P F δ L _ _ λq hq=>h q (ua _ hq),h1,h2,List.filter_cons];cases P p.1 p.2<;>rfl
theorem Iv:∀ {xs:List D} {k:Nat} {p:D×D},p∈Ik k xs->p.2∈xs
 | [],_,_,h=>by simp[Ik]at h
 |x::xs,k,p,h=>by
  rw[Ik]at h
  rcases zc.mp h with rfl|h
  .exact ib
  .exact ua _ (Iv h)
def M8(i:Nat)(c:Int):D->D->Bool:=λ_ b=>match b with
 | .tup ds=>(match ds.getD i .non with| .int v=>v==c|_=>false)
 |_=>false
theorem NF(q:List Int)(i:Nat)(h:i<q.length):(q.map D.int).getD i .non=.int (q.getD i 0):=by
 rw[ub,wc,oa h,ub,oa h];rfl
theorem GA(i:Nat)(c:Int):∀ (C:List (List Int)) (k:Nat),(∀ q∈C,i<q.length)->((Ik k (C.map pD)).filter λp=>M8 i c p.1 p.2).map (λp=>p.1)=(MQ i c k C).map D.int
 | [],_,_=>rfl
 |q::C,k,h=>by
  have ih:=GA i c C (k+1) λr hr=>h r (ua _ hr);rw[ac,Ik,List.filter_cons,MQ]
  have e:M8 i c (.int k) (pD q)=(q.getD i 0==c):=by
   show(match (q.map D.int).getD i .non with| .int v=>v==c|_=>false)=_;rw[NF q i (h q ib)]
  rw[e];cases hq:(q.getD i 0==c) with
  |true=>rw[if_pos rfl,if_pos rfl,ac,ih];rfl
  |false=>rw[if_neg Db,if_neg Db,ih]
theorem pD_at(cs:List Int)(i:Nat)(h:i<cs.length):Qe (pD cs) (.int (i:Int))=.ok (.int (cs.getD i 0)):=by
 refine HM _ _ _ (Ei (by omega) ?_);rw[show((i:Int)).toNat=i by omega,wc,oa h,ub,oa h];rfl
theorem SS(L:List Int)(h:L.isEmpty=false):Qe (.lst (L.map D.int)) (.int 0)=.ok (.int (L.getD 0 0)):=by
 cases L with
 |nil=>cases h
 |cons a L=>exact Bq _ _ _ (Ei (by omega) (by simp))
theorem E7(ds:List D)(lo hi:Option Int):X4 (.lst ds) lo hi=.ok (L3.cutD ds lo hi):=rfl
theorem BK(xs ys:List D)(h:xs.length+ys.length<=1000):PB (.lst xs) (.lst ys)=.ok (xs++ys):=if_pos (uf h Jz)
def GB(p:xa×List xa):D:=.tup [.str p.1,.lst (p.2.map D.str)]
theorem OE{fe:Ca->Res D}(f:xa×List xa->D)(δ:Ca):∀ (ps:List (xa×List xa)) (x y:Option S),(∀ p∈ps,fe (sd (.str p.1)::sd (.lst (p.2.map D.str))::δ)=.ok (f p))->
  Ud (Xb 2 (Ka (Za 0) (Ka (Za 1) Wb))) (λ_=>.ok true) fe (ps.map GB) (x::y::δ)=.ok (ps.map f)
 | [],_,_,_=>rfl
 |p::ps,x,y,h=>by
  rw[ac,Sh (δ':=sd (.str p.1)::sd (.lst (p.2.map D.str))::δ) _ _ _ _ rfl];simp only[Eh,Res.bind_ok,if_true,h p ib,OE f δ ps _ _ (λq hq=>h q (ua _ hq)),ac]
theorem Wu(ps:List (xa×List xa))(hl:ps.length<=1000):La 1 Zh [.lst (ps.map GB)]=.ok (.lst (ps.map GB)):=by
 have c:=Ac (n:=2) (c:=λ_=>.ok true) (fe:=Wj) (δ:= [sd (.lst (ps.map GB))]) (OE (fe:=Wj) GB [sd (.lst (ps.map GB))] ps none none (λp _=>by
  unfold Wj GB
  simp only[b1,De,Ef,Aa,Ra,Sa,Va,Gb,Qa,Ya,Res.bind_ok,Aj,ba,rd,ve,qf,if_true,reduceIte])) (by rw[la];omega)
 refine Jb _ _ _ _ ?_ rfl;generalize ps.map GB=P at*;unfold Zh Fy
 walk_at "s"
 simp only[b1,De,Rb,Tb,Va,Res.bind_ok,Eb,Aj,c,Lb]
abbrev T4(R A B C:D):D:=.obj "House" ["rules","doors","wings","grants"] [R,A,B,C]
theorem ZT(R:D)(ds:List D)(ps qs:List (xa×List xa))(hp:ps.length<=1000)(hq:qs.length<=1000):La 4 (Ss 4 "House" Jg) [R,.lst ds,.lst (ps.map GB),.lst (qs.map GB)]=.ok (T4 R (.lst ds) (.lst (ps.map GB)) (.lst (qs.map GB))):=by
 have e1:=Wu ps hp;have e2:=Wu qs hq;refine Jb _ _ _ _ ?_ rfl;generalize ps.map GB=P at*;generalize qs.map GB=Q at*;unfold Ss Jg;simp only[Im,Sb,ac,fk,ba,rd,lg,xg,ve,qj,kc,b1,De,Aa,Ra,Sa,Va,Gb,Qa,Ya,Res.bind_ok,Aj,e1,e2]
theorem R9(R A B C:D):Fj "House" "rules" (T4 R A B C)=.ok R:=rfl
theorem X5(R A B C:D):Fj "House" "doors" (T4 R A B C)=.ok A:=rfl
theorem S9(R A B C:D):Fj "House" "wings" (T4 R A B C)=.ok B:=rfl
theorem YZ(R A B C:D):Fj "House" "grants" (T4 R A B C)=.ok C:=rfl
theorem Gn:∀ xs:List xa,Ep (xs.map D.str)=some xs
 | []=>rfl
 |x::xs=>by show(Ep (xs.map D.str)).map (x:: ·)=_;rw[Gn xs];rfl
theorem Nz:∀ (l acc:List (Hb×D)),((acc++l).map (·.1)).Nodup->l.foldl (λa p=>Og a p.1 p.2) acc=acc++l
 | [],acc,_=>by rw[List.foldl_nil,bj]
 |p::l,acc,h=>by
  have h1:Nq acc p.1=false:=by
   cases hh:Nq acc p.1 with
   |false=>rfl
   |true=>
    unfold Nq at hh;obtain⟨q,hq,e⟩:=List.any_eq_true.mp hh;rw[kg,ac,cu]at h
    exact absurd (of_decide_eq_true e) (h.2.2 q.1 (sj hq) p.1 ib)
  have h2:Og acc p.1 p.2=acc++ [p]:=by
   unfold Og;rw[h1];rfl
  rw[cj,h2,Nz l (acc++ [p]) (by rw[ak];exact h),ak];rfl
theorem ZM(l:List (Hb×D))(h:(l.map (·.1)).Nodup):Rg l=l:=(Nz l [] h).trans (xg l)
def tK(ks:List Nat)(f:Nat->xa)(g:Nat->D):List (Hb×D):=ks.map λk=>(.inr (f k),g k)
def Ig(ks:List Nat)(f:Nat->xa):Prop:=∀ a∈ks,∀ b∈ks,f a=f b->a=b
variable{f:Nat->xa}{g:Nat->D}
theorem YA{ks:List Nat}(hi:Ig ks f)(hn:ks.Nodup):((tK ks f g).map (·.1)).Nodup:=by
 unfold tK;rw[xh];refine vk.map _ (R:=λa b=>a∈ks/\b∈ks/\a≠b) (λa b h z=>h.2.2 (hi a h.1 b h.2.1 (xt z))) ?_;exact vk.imp_of_mem (λha hb h=>⟨ha,hb,h⟩) hn
theorem Sx{f:Nat->xa}{g:Nat->D}:∀ {ks:List Nat},Ig ks f->∀ {k:Nat},k∈ks->Fc (tK ks f g) (.inr (f k))=some (g k)
 | [],_,_,h=>by simp at h
 |a::ks,hi,k,h=>by
  show Fc ((Sum.inr (f a),g a)::tK ks f g) (.inr (f k))=_;by_cases e:f a=f k
  .have:a=k:=hi a ib k h e;subst this;exact Ng rfl
  .rw[Rf (λz=>e (xt z))];rcases zc.mp h with rfl|h
   .exact absurd rfl e
   .exact Sx (λa ha b hb=>hi a (ua _ ha) b (ua _ hb)) h
theorem Dr{f:Nat->xa}{g:Nat->D}{x:xa}:∀ {ks:List Nat},(∀ k∈ks,f k≠x)->Fc (tK ks f g) (.inr x)=none
 | [],_=>rfl
 |a::ks,h=>by
  show Fc ((Sum.inr (f a),g a)::tK ks f g) (.inr x)=_;rw[Rf (λz=>h a ib (xt z))];exact Dr λk hk=>h k (ua _ hk)
def dK(l:List (Hb×D)):D:=.dct (l.map (·.1)) (l.map (·.2))
theorem Uj(l:List (Hb×D)):(l.map (·.1)).zip (l.map (·.2))=l:=by
 rw[List.zip_map'];exact List.map_id _
theorem Bt(f:Nat->xa)(g:Nat->D):∀ ks:List Nat,Lj (ks.map λk=>D.tup [.str (f k),g k])=some (tK ks f g)
 | []=>rfl
 |k::ks=>by
  rw[ac]
  show(match Lz (.str (f k)),Lj (ks.map λk=>D.tup [.str (f k),g k]) with
   |some kk,some l=>some ((kk,g k)::l)
   |_,_=>none)=_
  rw[Bt f g ks];rfl
theorem Pq{ks:List Nat}(hi:Ig ks f)(hn:ks.Nodup):Qg (.lst (ks.map λk=>D.tup [.str (f k),g k]))=.ok (dK (tK ks f g)):=by
 unfold Qg;dsimp only;rw[Bt];dsimp only;rw[ZM _ (YA hi hn)];rfl
theorem Ct(f:Nat->xa)(g:Nat->D)(ks:List Nat):Cn (dK (tK ks f g))=.ok (ks.map λk=>D.tup [.str (f k),g k]):=by
 show Res.ok ((((tK ks f g).map (·.1)).zip ((tK ks f g).map (·.2))).map λp=>D.tup [Ms p.1,p.2])=_;rw[Uj];unfold tK;rw[xh];rfl
theorem Qf(l:List (Hb×D))(r:Ca):Cc 0 (sd (dK l)::r)=.ok l:=by
 show Res.ok ((l.map (·.1)).zip (l.map (·.2)))=_;rw[Uj]
theorem Nh(n:Nat)(a:Option S)(r:Ca):Cc (n+1) (a::r)=Cc n r:=by simp[Cc]
theorem G6{ks:List Nat}(hi:Ig ks f)(h:k∈ks):Js (.str (f k)) (tK ks f g)=.ok (.bl true):=by
 show Res.ok (D.bl (Fc (tK ks f g) (.inr (f k))).isSome)=_;rw[Sx hi h];rfl
theorem DC{ks:List Nat}(hi:Ig ks f)(h:k∈ks):Se (tK ks f g) (.str (f k))=.ok (g k):=by
 show(match Fc (tK ks f g) (.inr (f k)) with|some d=>Res.ok d|none=>.stuck)=_;rw[Sx hi h]
def sL(ks:List Nat)(f:Nat->xa):D:=.lst (ks.map λk=>D.str (f k))
theorem IC{f:Nat->xa}{U:List Nat}(hi:Ig U f):∀ {ks:List Nat} {k:Nat},(∀ a∈ks,a∈U)->k∈U->HX (.str (f k)) (ks.map λk=>D.str (f k))=decide (k∈ks)
 | [],k,_,_=>rfl
 |a::ks,k,h,hk=>by
  have ih:=IC hi (ks:=ks) (λa ha=>h a (ua _ ha)) hk;unfold HX at ih ⊢;rw[ac,any_cons,ih];by_cases e:a=k
  .subst e;simp[Tf]
  .have e1:¬ f a=f k:=λz=>e (hi a (h a ib) k hk z);have e2:¬ k=a:=λz=>e z.symm;simp[Tf,e1,e2]
theorem VE(f:Nat->xa)(ks:List Nat):(ks.map λk=>D.str (f k)).all Mc=true:=by
 rw[Uf];intro d hd;obtain⟨i,_,rfl⟩:=jf.mp hd;rfl
variable{U:List Nat}
theorem JC(hi:Ig U f){ks:List Nat}(h:∀ a∈ks,a∈U)(hk:k∈U):inR (.str (f k)) (sL ks f)=.ok (.bl (decide (k∈ks))):=by
 show(if(Mc (.str (f k))&&(ks.map λk=>D.str (f k)).all Mc)=true then _ else _)=_;rw[VE,IC hi h hk];rfl
theorem IF(hi:Ig U f){ks:List Nat}(h:∀ a∈ks,a∈U)(hk:k∈U):Lq (.str (f k)) (sL ks f)=.ok (.bl (!decide (k∈ks))):=by
 show(if(Mc (.str (f k))&&(ks.map λk=>D.str (f k)).all Mc)=true then _ else _)=_;rw[VE,IC hi h hk];rfl
theorem Dj{gc:Ca->Res Bool}{fe:Ca->Res D}(pr:Nat->Bool)(u v:Nat->D)(F:Nat->D)(δ:Ca):∀ (ks:List Nat) (x y:Option S),(∀ k∈ks,gc (sd (u k)::sd (v k)::δ)=.ok (pr k)/\(pr k=true->fe (sd (u k)::sd (v k)::δ)=.ok (F k)))->
  Ud (Xb 2 (Ka (Za 0) (Ka (Za 1) Wb))) gc fe (ks.map λk=>D.tup [u k,v k]) (x::y::δ)=.ok ((ks.filter pr).map F)
 | [],_,_,_=>rfl
 |k::ks,x,y,h=>by
  obtain⟨h1,h2⟩:=h k ib;have ih:=Dj pr u v F δ ks (sd (u k)) (sd (v k)) (λq hq=>h q (ua _ hq));rw[ac,Sh (δ':=sd (u k)::sd (v k)::δ) _ _ _ _ rfl,h1];cases hp:pr k with
  |true=>
   rw[we hp];simp only[Eh,Res.bind_ok,if_true,h2 hp,ih,ac]
  |false=>
   rw[gf (by rw[hp];simp)];simp only[Eh,Res.bind_ok,uc,if_false,ih]
theorem Vd{gc:Ca->Res Bool}{fe:Ca->Res D}(pr:Nat->Bool)(u F:Nat->D)(δ:Ca):∀ (ks:List Nat) (x:Option S),(∀ k∈ks,gc (sd (u k)::δ)=.ok (pr k)/\(pr k=true->fe (sd (u k)::δ)=.ok (F k)))->
  Ud (Za 0) gc fe (ks.map u) (x::δ)=.ok ((ks.filter pr).map F)
 | [],_,_=>rfl
 |k::ks,x,h=>by
  obtain⟨h1,h2⟩:=h k ib;have ih:=Vd pr u F δ ks (sd (u k)) (λq hq=>h q (ua _ hq));rw[ac,Sh (δ':=sd (u k)::δ) _ _ _ _ rfl,h1];cases hp:pr k with
  |true=>
   rw[we hp];simp only[Eh,Res.bind_ok,if_true,h2 hp,ih,ac]
  |false=>
   rw[gf (by rw[hp];simp)];simp only[Eh,Res.bind_ok,uc,if_false,ih]
theorem filter_all{ks:List Nat}:ks.filter (λ_=>true)=ks:=by simp
theorem QF(i:Nat)(δ:Ca)(l:List (Hb×D))(k:xa)(d:D)(fi f:Ca->Res D)(h:δ[i]? =some (sQ l))(hl:l.length<=1000)(e1:f δ= .ok d)(e2:fi δ= .ok (.str k)):
  Li i fi f δ= .nx (δ.set i (sQ (Og l (.inr k) d))):=by
 unfold Li;rw[e1];show NV i fi δ d=_;unfold NV;rw[h];show Kj (fi δ) (MV i δ ((l.map (·.1)).zip (l.map (·.2))) d)=_;rw[e2,Uj];show(if l.length<=1000 then _ else _)=_;rw[if_pos hl]
theorem Zr(g:Nat->D)(n:Nat):Xd [.lst ((qb n).map g)]=.ok ((qb n).map λ(j:Nat)=>D.tup [.int (j:Int),g j]):=by
 show Res.ok (Od 0 ((qb n).map g))=_;congr 1;refine yp λi=>?_;cases h:(Od 0 ((qb n).map g))[i]? with
 |none=>
  rw[vt,Ge,la,lc]at h
  rw[eq_comm,vt,la,lc];exact h
 |some d=>
  obtain⟨x,hx,rfl⟩:=Yf h;rw[wc]at hx ⊢
  obtain⟨j,hj,rfl⟩:=jh.mp hx;rw[hj];have hi:=(ya.mp hj).1;rw[lc]at hi
  rw[jg hi]at hj
  have:=yb hj;subst this;simp
theorem YF(f:Nat->xa)(ks:List Nat)(n:Nat):∀ d∈(ks.map λk=>D.str (f k)),Qb n d=true:=λd hd=>by
 obtain⟨k,_,rfl⟩:=jf.mp hd;cases n<;>rfl
theorem GS(f:Nat->xa)(ks:List Nat):Al (sL ks f) (.lst [])=.ok (.bl ks.isEmpty):=by
 have:=ZK (ks.map λk=>D.str (f k)) (YF f ks 39);rw[show(ks.map λk=>D.str (f k)).isEmpty=ks.isEmpty by cases ks<;>rfl]at this
 exact this
variable{α:Type}{i:Nat}
theorem getD_mem{l:List α}(d:α)(h:i<l.length):l.getD i d∈l:=by
 rw[ub,oa h];exact iq _
theorem JP(n:Nat)(hi:∀ k,k<n->f k≠f n):Og (tK (qb n) f g) (.inr (f n)) (g n)=tK (qb (n+1)) f g:=by
 unfold Og;rw[Wl,Dr λk hk=>hi k (wb.mp hk)];unfold tK;rw[ut,kg];rfl
def Ek(l:List (Hb×D))(x:xa):List xa:=match Fc l (.inr x) with
 |some (.lst ds)=>(Ep ds).getD []
 |_=> []
def JQ(l:List (Hb×D)):Prop:=∀ p∈l,∃ ws:List xa,p.2=.lst (ws.map D.str)
theorem GP{l:List (Hb×α)}{k:Hb}{y:α}(h:Fc l k=some y):(k,y)∈l:=by
 unfold Fc at h;obtain⟨p,h1,h2⟩:=jh.mp h;have h3:=List.find?_some h1;have h4:=List.mem_of_find?_eq_some h1;rw[<-of_decide_eq_true h3,<-h2];exact h4
theorem NS(l:List (Hb×D))(h:JQ l)(x:xa):ZE l (.str x) (.lst [])=.ok (.lst ((Ek l x).map D.str)):=by
 unfold ZE Ek;show Res.ok ((Fc l (.inr x)).getD (.lst []))=_;cases hg:Fc l (.inr x) with
 |none=>rfl
 |some y=>
  obtain⟨ws,e⟩:=h _ (GP hg);have e':y=.lst (ws.map D.str):=e;subst e';show Res.ok (D.lst (ws.map D.str))=.ok (.lst (((Ep (ws.map D.str)).getD []).map D.str));rw[Gn];rfl
def rK(R:List xa):List (Hb×D):=R.map λx=>(.inr x,.bl true)
theorem Kx(x:xa):∀ R:List xa,(Fc (rK R) (.inr x)).isSome=decide (x∈R)
 | []=>by simp[rK,Fc]
 |y::R=>by
  show(Fc ((Sum.inr y,D.bl true)::rK R) (.inr x)).isSome=_;by_cases h:y=x
  .subst h;rw[Ng rfl];simp
  .rw[Rf (show ¬ (Sum.inr y:Hb)=Sum.inr x from λz=>h (xt z)),Kx x R];have:¬ x=y:=λz=>h z.symm;simp[this]
theorem C3(x:xa)(R:List xa)(h:x∉R):Og (rK R) (.inr x) (.bl true)=rK (R++ [x]):=by
 unfold Og;rw[Wl,Kx,decide_eq_false h];simp[rK]
theorem LD(R:List xa):(R.map λx=>(Sum.inr x:Hb)).zip (R.map λ_=>D.bl true)=rK R:=by
 unfold rK;rw[List.zip_map']
theorem B3(R:List xa):(rK R).map (·.1)=R.map λx=>(Sum.inr x:Hb):=by unfold rK;rw[xh];rfl
theorem D3(R:List xa):(rK R).map (·.2)=R.map λ_=>D.bl true:=by unfold rK;rw[xh];rfl
abbrev Vi(A B M:D)(R W:List xa)(y:Option S):Ca:= [sd A,sd B,sd M,some (.q (R.map λx=>(Sum.inr x:Hb)) (R.map λ_=>D.bl true)),some (.o (W.map D.str)),y]
theorem DX(A B M:D)(R W:List xa)(y:Option S):Fe (Vi A B M R W y)=.ok (decide (W≠ [])):=by
 have e:decide (0<((W.map D.str).length:Int))=decide (W≠ []):=by
  rw[la];cases W with
  |nil=>simp
  |cons x r=>
   rw[decide_eq_true (by simp:(x::r:List xa)≠ [])];exact decide_eq_true (by simp only[ba];omega)
 unfold Fe Vi;simp only[tR,b2,b1,kD,Ya,Qa,Nd,Res.bind_ok,Yh,Ll,Wa,e]
theorem TR(A B M:D)(R W:List xa)(x:xa)(y:Option S):Qv 5 4 (Vi A B M R (W++ [x]) y)=.nx (Vi A B M R W (sd (.str x))):=by
 have e1:((W++ [x]).map D.str)[((W++ [x]).map D.str).length-1]? =some (.str x):=by
  rw[kg,yl,ud,qg,Nat.add_sub_cancel,List.getElem?_concat_length]
 have e2:((W++ [x]).map D.str).dropLast=W.map D.str:=by rw[kg,yl,List.dropLast_concat]
 show(match ((W++ [x]).map D.str)[((W++ [x]).map D.str).length-1]? with
  |some d=>Out.nx (((Vi A B M R (W++ [x]) y).set 4 (some (.o ((W++ [x]).map D.str).dropLast))).set 5 (sd d))
  |none=>.stuck)=_
 rw[e1,e2];rfl
theorem UR(A B M:D)(R W:List xa)(x:xa)(hR:R.length<=900)(h:x∉R):Li 3 (Ea 5) (kD (.bl true)) (Vi A B M R W (sd (.str x)))=.nx (Vi A B M (R++ [x]) W (sd (.str x))):=by
 show(if((R.map λx=>(Sum.inr x:Hb)).zip (R.map λ_=>D.bl true)).length<=1000 then Out.nx ((Vi A B M R W (sd (.str x))).set 3 (sQ (Og ((R.map λx=>(Sum.inr x:Hb)).zip (R.map λ_=>D.bl true)) (.inr x) (.bl true)))) else .stuck)=_;rw[LD,C3 x R h,sQ,B3,D3,if_pos (by unfold rK;rw[la];omega)];rfl
theorem S5(A B:D)(l:List (Hb×D))(hl:JQ l)(R W:List xa)(x:xa)(y:Option S)(hR:R.length<=900)(hW:W.length<=40000)(hm:(Ek l x).length<=40000):
  He (Vi A B (.dct (l.map (·.1)) (l.map (·.2))) R (W++ [x]) y)=.nx (if x∈R then Vi A B (.dct (l.map (·.1)) (l.map (·.2))) R W (sd (.str x)) else Vi A B (.dct (l.map (·.1)) (l.map (·.2))) (R++ [x]) (W++Ek l x) (sd (.str x))):=by
 have p1:=TR A B (.dct (l.map (·.1)) (l.map (·.2))) R W x y
 have zz:(l.map (·.1)).zip (l.map (·.2))=l:=by
  rw[List.zip_map'];exact List.map_id _
 have g:=NS l hl x
 have n1:Jv (.str x) ((R.map λx=>(Sum.inr x:Hb)).zip (R.map λ_=>D.bl true))=.ok (.bl (!decide (x∈R))):=by
  rw[LD];show Res.ok (D.bl (!(Fc (rK R) (.inr x)).isSome))=_;rw[Kx]
 by_cases h:x∈R
 .rw[decide_eq_true h]at n1
  rw[if_pos h];unfold He;show Em (Qv 5 4 _) _=_;rw[p1];simp only[Fb,Of,tR,Ey,Ya,Qa,Res.bind_ok,Vi,show ∀ (a b c:Option S) (ks:List Hb) (ds:List D) (r:Ca),Cc 3 (a::b::c::some (.q ks ds)::r)=.ok (ks.zip ds) from λ_ _ _ _ _ _=>rfl,n1,Wa,Ub,nj,uc,if_false,reduceIte]
 .rw[decide_eq_false h]at n1
  rw[if_neg h];have q1:=UR A B (.dct (l.map (·.1)) (l.map (·.2))) R W x hR h
  have q2:MA 4 (UG (Cc 2) (Aa (Ea 5) (Aa (De (b1 Me Ra)) Ra))) (Vi A B (.dct (l.map (·.1)) (l.map (·.2))) (R++ [x]) W (sd (.str x)))=.nx (Vi A B (.dct (l.map (·.1)) (l.map (·.2))) (R++ [x]) (W++Ek l x) (sd (.str x))):=by
   have g2:UG (Cc 2) (Aa (Ea 5) (Aa (De (b1 Me Ra)) Ra)) (Vi A B (.dct (l.map (·.1)) (l.map (·.2))) (R++ [x]) W (sd (.str x)))=.ok (.lst ((Ek l x).map D.str)):=by
    rw[<-g,<-zz];simp only[UG,Aa,Ra,De,b1,Me,Sa,Vi,Gb,Va,Res.bind_ok,rd,vh,if_true,reduceIte,zz,show ∀ (a b:Option S) (ks:List Hb) (ds:List D) (r:Ca),Cc 2 (a::b::sd (.dct ks ds)::r)=.ok (ks.zip ds) from λ_ _ _ _ _=>rfl]
   unfold MA CL;rw[g2];show(@ite Out ((W.map D.str).length+((Ek l x).map D.str).length<=100000) (xc _) _ _)=_;rw[if_pos (by rw[la,la];omega),<-kg];rfl
  unfold He;show Em (Qv 5 4 _) _=_;rw[p1];simp only[Fb,Of,tR,Ey,Ya,Qa,Res.bind_ok,show ∀ (a b c:Option S) (ks:List Hb) (ds:List D) (r:Ca),Cc 3 (a::b::c::some (.q ks ds)::r)=.ok (ks.zip ds) from λ_ _ _ _ _ _=>rfl,n1,Wa,Ub,yh,if_true,reduceIte];show Em (Li 3 _ _ _) _=_;rw[q1];exact q2
variable{c:Ca->Res Bool}{b:Ca->Out}{δ:Ca}
theorem OW(n:Nat)(h:c δ= .ok false):Pe c b (n+1) δ= .nx δ:=by rw[Pe,h]
theorem NW{δ2:Ca}(n:Nat)(h:c δ= .ok true)(h2:b δ= .nx δ2):Pe c b (n+1) δ=Pe c b n δ2:=by rw[Pe,h];simp only[h2]
theorem UE{p q:xa->Bool}{x:xa}:∀ {U:List xa},x∈U->p x=true->q x=false->(∀ y,q y=true->p y=true)->(U.filter q).length<(U.filter p).length
 | [],h,_,_,_=>by simp at h
 |u::U,h,hp,hq,hs=>by
  have le:∀ V:List xa,(V.filter q).length<=(V.filter p).length:=λV=>by
   induction V with
   |nil=>simp
   |cons v V ih=>
    cases h1:q v with
    |true=>rw[we h1,we (hs v h1),ba,ba];omega
    |false=>
     rw[gf (by rw[h1];simp)];cases h2:p v with
     |true=>rw[we h2,ba];omega
     |false=>rw[gf (by rw[h2];simp)];exact ih
  rcases zc.mp h with rfl|h
  .rw[we hp,gf (by rw[hq];simp),ba];have:=le U;omega
  .have ih:=UE h hp hq hs;cases h1:q u with
   |true=>rw[we h1,we (hs u h1),ba,ba];omega
   |false=>
    rw[gf (by rw[h1];simp)];cases h2:p u with
    |true=>rw[we h2,ba];omega
    |false=>rw[gf (by rw[h2];simp)];exact ih
def AQ(U R:List xa):Nat:=(U.filter λy=> !decide (y∈R)).length
theorem PK(A B:D)(l:List (Hb×D))(hl:JQ l)(U:List xa)(M:Nat)(hM:∀ x∈U,(Ek l x).length<=M/\∀ z∈Ek l x,z∈U)(hMb:M<=100)(hU:U.length<=300):
  ∀ (n:Nat) (W R:List xa) (y:Option S),W.length+M*AQ U R<n->(∀ x∈W,x∈U)->R.length+AQ U R<=600->W.length<=40000-M*AQ U R->
  ∃ (R':List xa) (y':Option S),Pe Fe He n (Vi A B (.dct (l.map (·.1)) (l.map (·.2))) R W y)=.nx (Vi A B (.dct (l.map (·.1)) (l.map (·.2))) R' [] y')/\
   (∀ x,x∈R\/x∈W->x∈R')/\((∀ x∈R,∀ z∈Ek l x,z∈R\/z∈W)->∀ x∈R',∀ z∈Ek l x,z∈R')/\∀ P:xa->Prop,(∀ x,P x->∀ z∈Ek l x,P z)->(∀ x,x∈R\/x∈W->P x)->∀ x∈R',P x:=by
 intro n
 induction n with
 |zero=>intro W R y h;omega
 |succ n ih=>
  intro W R y h hW hR hWl;by_cases hw:W= []
  .subst hw;refine⟨R,y,OW n (by rw[DX];rfl),λx hx=>hx.elim id λz=>by simp at z,λhc x hx z hz=>(hc x hx z hz).elim id λz=>by simp at z,λP _ hP x hx=>hP x (.inl hx)⟩
  .obtain⟨V,x,rfl⟩:∃ V x,W=V++ [x]:=⟨W.dropLast,W.getLast hw,(List.dropLast_concat_getLast hw).symm⟩
   have hx:x∈U:=hW x (by simp);have hV:∀ z∈V,z∈U:=λz hz=>hW z (by simp[hz]);rw[ud,qg]at h hWl
   have cd:Fe (Vi A B (.dct (l.map (·.1)) (l.map (·.2))) R (V++ [x]) y)=.ok true:=by rw[DX,decide_eq_true hw]
   have st:=S5 A B l hl R V x y (by omega) (by omega) (by have:=(hM x hx).1;omega);rw[NW n cd st];by_cases hxR:x∈R
   .rw[if_pos hxR];obtain⟨R',y',e,a1,a2,a3⟩:=ih V R (sd (.str x)) (by omega) hV hR (by omega);refine⟨R',y',e,λz hz=>?_,λhc=>a2 λu hu z hz=>?_,λP hP h0=>a3 P hP λz hz=>?_⟩
    .rcases hz with hz|hz
     .exact a1 z (.inl hz)
     .rcases ag.mp hz with hz|hz
      .exact a1 z (.inr hz)
      .rw[ge.mp hz];exact a1 x (.inl hxR)
    .rcases hc u hu z hz with hz|hz
     .exact .inl hz
     .rcases ag.mp hz with hz|hz
      .exact .inr hz
      .rw[ge.mp hz];exact .inl hxR
    .rcases hz with hz|hz
     .exact h0 z (.inl hz)
     .exact h0 z (.inr (by simp[hz]))
   .rw[if_neg hxR]
    have lt:AQ U (R++ [x])<AQ U R:=UE hx (by simp[hxR]) (by simp) λy hy=>by
     simp only[ag,ge,Bool.not_eq_true',decide_eq_false_iff_not,not_or]at hy ⊢;exact hy.1
    obtain⟨m1,m2⟩:=hM x hx
    have mul:M*AQ U (R++ [x])+M<=M*AQ U R:=by
     have:AQ U (R++ [x])+1<=AQ U R:=lt;have:=Nat.mul_le_mul_left M this;rw[Nat.mul_add,Nat.mul_one]at this
     exact this
    obtain⟨R',y',e,a1,a2,a3⟩:=ih (V++Ek l x) (R++ [x]) (sd (.str x)) (by rw[ud];omega) (λz hz=>(ag.mp hz).elim (hV z) (m2 z)) (by rw[ud,qg];omega) (by rw[ud];omega);refine⟨R',y',e,λz hz=>?_,λhc=>a2 λu hu z hz=>?_,λP hP h0=>a3 P hP λz hz=>?_⟩
    .rcases hz with hz|hz
     .exact a1 z (.inl (by simp[hz]))
     .rcases ag.mp hz with hz|hz
      .exact a1 z (.inr (by simp[hz]))
      .exact a1 z (.inl (by rw[ge.mp hz];simp))
    .rcases ag.mp hu with hu|hu
     .rcases hc u hu z hz with hz|hz
      .exact .inl (by simp[hz])
      .rcases ag.mp hz with hz|hz
       .exact .inr (by simp[hz])
       .exact .inl (by simp[ge.mp hz])
     .rw[ge.mp hu]at hz
      exact .inr (by simp[hz])
    .rcases hz with hz|hz
     .rcases ag.mp hz with hz|hz
      .exact h0 z (.inl hz)
      .rw[ge.mp hz];exact h0 x (.inr (by simp))
     .rcases ag.mp hz with hz|hz
      .exact h0 z (.inr (by simp[hz]))
      .exact hP x (h0 x (.inr (by simp))) z hz
def E5(ok:Nat->Bool)(n:Nat)(x:D):Prop:=(x=.non/\∀ i,i<n->ok i=true)\/∃ i,i<n/\ok i=false/\(∀ j,j<i->ok j=true)/\x=.int i
theorem Xm{t:D->Ca->Res Ca}{body:Ca->Out}(I:Nat->Ca->Prop)(ok:Nat->Bool)(r:Nat->D)(ds:List D)(δ:Ca)(hb:∀ i d δ,ds[i]? =some d->I i δ->∃ δ',t d δ= .ok δ'/\((ok i=true/\∃ δ2,(body δ'=.nx δ2\/body δ'=.ct δ2)/\I (i+1) δ2)\/(ok i=false/\body δ'=.rt (r i))))(h:I 0 δ):
  (∃ δ2,Te t body ds δ= .nx δ2/\I ds.length δ2/\∀ i,i<ds.length->ok i=true)\/∃ i,i<ds.length/\ok i=false/\(∀ j,j<i->ok j=true)/\Te t body ds δ= .rt (r i):=by
 induction ds generalizing I δ ok r with
 |nil=>exact .inl ⟨δ,rfl,h,λi hi=>absurd hi (jn _)⟩
 |cons d ds ih=>
  obtain⟨δ',e1,hh⟩:=hb 0 d δ rfl h;rw[To d ds δ δ' e1];rcases hh with⟨o0,δ2,e2,h2⟩|⟨o0,e2⟩
  .have h3:=ih (λi=>I (i+1)) (λi=>ok (i+1)) (λi=>r (i+1)) δ2 (λi x δ hx hI=>hb (i+1) x δ (by simpa using hx) hI) h2
   have h4:(∃ δ2',Te t body ds δ2=.nx δ2'/\I (ds.length+1) δ2'/\∀ i,i<ds.length+1->ok i=true)\/∃ i,i<ds.length+1/\ok i=false/\(∀ j,j<i->ok j=true)/\Te t body ds δ2=.rt (r i):=by
    rcases h3 with⟨δ3,a,b,c⟩|⟨i,a,b,c,e⟩
    .refine .inl ⟨δ3,a,b,λi hi=>?_⟩;cases i with
     |zero=>exact o0
     |succ i=>exact c i (by omega)
    .refine .inr ⟨i+1,by omega,b,λj hj=>?_,e⟩;cases j with
     |zero=>exact o0
     |succ j=>exact c j (by omega)
   rcases e2 with e2|e2<;> · rw[e2];exact h4
  .rw[e2];exact .inr ⟨0,Nat.succ_pos _,o0,λj hj=>absurd hj (jn _),rfl⟩
def Xi(n:Nat)(cs:List (List Int)):List (List Int):=(qb n).map λi=>sortI (cs.map λc=>c.getD i 0)
theorem YT(n:Nat)(cs:List (List Int))(i:Nat)(h:i<n):(Xi n cs).getD i []=sortI (cs.map λc=>c.getD i 0):=by
 unfold Xi;rw[ub,wc,jg h];rfl
theorem Ao(n:Nat)(cs:List (List Int)):(Xi n cs).length=n:=by unfold Xi;rw[la,lc]
variable{fe:Ca->Res D}
theorem BX(C:List (List Int))(i:Nat)(hc:∀ c∈C,i<c.length)(hn:C.length<64)(δ:Ca)(hf:∀ c:List Int,Qe (pD c) (.int (i:Int))=.ok (.int (c.getD i 0))->fe (sd (pD c)::δ)=.ok (.int (c.getD i 0))):
  Yc 1 (Za 0) (λ_=>.ok true) fe δ (C.map pD)=.ok ((C.map λc=>c.getD i 0).map D.int):=by
 have cm:=Ac (n:=1) (c:=λ_=>.ok true) (fe:=fe) (δ:=δ) (Py (fe:=fe) (λd=>match d with| .tup ds=>ds.getD i .non|_=>.non) δ (C.map pD) none (λd hd=>by
  obtain⟨c,hc1,rfl⟩:=jf.mp hd;rw[hf c (pD_at c i (hc c hc1))];unfold pD;dsimp only;rw[ub,ub,wc,oa (hc c hc1)]
  rfl)) (by rw[la];omega)
 have em:(C.map pD).map (λd=>match d with| .tup ds=>ds.getD i .non|_=>.non)=(C.map λc=>c.getD i 0).map D.int:=by
  rw[xh,xh];refine qi λc hc1=>?_;show(c.map D.int).getD i .non=.int (c.getD i 0);rw[ub,ub,wc,oa (hc c hc1)];rfl
 rw[em]at cm
 exact cm
theorem DH(A B C:Option S)(p d h s cell:Int)(cs:List Int)(l pl:Int)(x10 x11:Option S)(hl:0<=l/\l<d)(hs:1<=s)(hc:cs.length<=1000):
  ∃ (c cell':Int) (y10 y11:Option S),(0<=c/\c<d)/\Eg [A,B,C,sd (.int p),sd (.int d),sd (.int h),sd (.int s),sd (.int cell),some (.o ((cs++ [l]).map D.int)),sd (.int pl),x10,x11]
   = .nx [A,B,C,sd (.int p),sd (.int d),sd (.int h),sd (.int s),sd (.int cell'),some (.o ((cs++ [l]++ [c]).map D.int)),sd (.int pl),y10,y11]:=by
 have x1:=TC cell 48271 (by decide);have y1:=Cg (cell*48271) 1000000000000000003 (by decide);generalize cell*48271%1000000000000000003=r at*;have y2:=MK (r+pl) 7 (by decide) (by decide);have hw:0<min (d-1) (l+s)-max 0 (l-s)+1:=by omega
 have y3:=Cg ((r+pl) / 7) _ hw;have b0:=zg ((r+pl) / 7) (show min (d-1) (l+s)-max 0 (l-s)+1≠0 by omega);have b9:=yf ((r+pl) / 7) hw;have m1:=Vq 0 (l-s);have m2:=Wq (d-1) (l+s)
 have ix:Qe (.lst ((cs++ [l]).map D.int)) (.int (-1))=.ok (.int l):=by
  rw[kg,yl];exact Bq _ _ _ (Cy _ _)
 have bd:0<=max 0 (l-s)+(r+pl) / 7%(min (d-1) (l+s)-max 0 (l-s)+1)/\max 0 (l-s)+(r+pl) / 7%(min (d-1) (l+s)-max 0 (l-s)+1)<d:=by omega
 clear hw b0 b9 hl hs
 have ap:∀ (c:Int) (z10 z11:Option S),Yv 8 [A,B,C,sd (.int p),sd (.int d),sd (.int h),sd (.int s),sd (.int (r+pl)),some (.o ((cs++ [l]).map D.int)),sd (.int pl),z10,z11] (.ok (.int c))=.nx [A,B,C,sd (.int p),sd (.int d),sd (.int h),sd (.int s),sd (.int (r+pl)),some (.o ((cs++ [l]++ [c]).map D.int)),sd (.int pl),z10,z11]:=λc z10 z11=>by
  rw[kg (l₂:= [c]),yl];exact Ln 8 _ _ _ rfl (by rw[la,ud,qg];omega)
 refine⟨_,r+pl,sd (.int (max 0 (l-s))),sd (.int (min (d-1) (l+s))),bd,?_⟩;clear bd;generalize max 0 (l-s)=lo at*;generalize min (d-1) (l+s)=hi at*;unfold Eg;simp only[Bb,Vb,Ho,kD,b1,b2,Aa,Ra,Sa,Qa,Ya,Nd,Va,Gb,Res.bind_ok,x1,y1,Lc,Ui,Rl,ix,m1,m2,y2,y3,ap,Eb,Fb,zb,Sc]
theorem E3(a b:Int)(h:0<=a/\a<=1000)(h2:0<=b/\b<=1000):LA [.int a,.int b]=.ok (Nj a (b-a).toNat):=by
 show @ite _ _ (xc _) _ _=_;rw[if_pos (by omega)]
theorem PF:ZI (.int 10) (.int 60)=.ok (.int (10^60)):=if_pos ⟨by decide,by decide,by decide⟩
theorem ZQ(ns:List Int)(k p d h s:Int)(h0:0<=k)(h1:k<=1000)(hp:1<=p)(hp2:p<=100)(hd:2<=d)(hs:1<=s):
  ∃ cs:List Int,La 3 Gd [.lst (ns.map D.int),.int k,Br p d h s]=.ok (pD cs)/\cs.length=p.toNat/\∀ c∈cs,0<=c/\c<d:=by
 obtain⟨v,ev⟩:=Tn ns k h0 h1;have m1:=Cg v (10^60) (by decide);generalize v%10^60=r at*;have m2:=Cg r d (by omega);have b0:=zg r (show d≠0 by omega);have b9:=yf r (show 0<d by omega);generalize r%d=c0 at*;have rg:=E3 1 p (by decide) (by omega)
 obtain⟨δ2,f,cell',cs,l,x,y,z,rfl,hl,hall⟩:=Xn (t:=Za 9) (body:=Eg) (λi δ=>∃ (cell:Int) (cs:List Int) (l:Int) (x y z:Option S),δ= [sd (.lst (ns.map D.int)),sd (.int k),sd (Br p d h s),sd (.int p),sd (.int d),sd (.int h),sd (.int s),sd (.int cell),some (.o ((cs++ [l]).map D.int)),x,y,z]/\cs.length=i/\∀ c∈cs++ [l],0<=c/\c<d)
  (Nj 1 (p-1).toNat) [sd (.lst (ns.map D.int)),sd (.int k),sd (Br p d h s),sd (.int p),sd (.int d),sd (.int h),sd (.int s),sd (.int r),some (.o [D.int c0]),none,none,none] (λi e δ he hI=>by
   obtain⟨cell,cs,l,x,y,z,rfl,hl,hb⟩:=hI;obtain⟨hi,rfl⟩:=Kt he;obtain⟨c,cell',y10,y11,bc,e⟩:=DH (sd (.lst (ns.map D.int))) (sd (.int k)) (sd (Br p d h s)) p d h s cell cs l (1+i) y z (hb l (ue _ (ge.mpr rfl))) hs (by omega)
   exact⟨_,rfl,_,.inl e,cell',cs++ [l],c,_,_,_,rfl,by rw[ud,hl];rfl,λx hx=>(ag.mp hx).elim (hb x) λhx=>by rw[ge.mp hx];exact bc⟩) ⟨r,[],c0,none,none,none,rfl,rfl,λx hx=>by rw[ge.mp hx];exact⟨b0,b9⟩⟩
 rw[Fo]at hl
 refine⟨cs++ [l],Jb _ _ _ _ ?_ rfl,by rw[ud,hl,qg];omega,hall⟩;have asg:∀ (a0 a1 a2 a3 a4 a5 a6:Option S) (A B C D':D) (r:Ca),SG (Xb 4 (Ka (Za 3) (Ka (Za 4) (Ka (Za 5) (Ka (Za 6) Wb))))) (a0::a1::a2::a3::a4::a5::a6::r) (.tup [A,B,C,D'])=.nx (a0::a1::a2::sd A::sd B::sd C::sd D'::r):=λ_ _ _ _ _ _ _ _ _ _ _ _=>rfl;clear hl b0 b9 hall;unfold pD;generalize (cs++ [l]).map D.int=V at*;generalize ns.map D.int=NN at*;unfold Gd Kp
 walk_at "s"
 simp only[ba,rd,ve,kD,b1,b2,Me,Aa,Ra,Sa,Bb,Vb,Oe,Df,Ku,Tb,Va,Gb,Qa,Nd,Ya,Res.bind_ok,asg,ev,PF,m1,m2,rg,f,Ko,Eb,Fb,Lb,zb,Sc,vh,qf,if_true,reduceIte]
theorem Xy{α β:Type}{f g:α->Option β}:∀ {l:List α},(∀ k∈l,f k=g k)->l.filterMap f=l.filterMap g
 | [],_=>rfl
 |a::l,h=>by rw[uh,uh,h a ib,Xy λk hk=>h k (ua _ hk)]
theorem Ov(xs:List α):Mj xs none (some (-1))=xs.reverse:=by
 unfold Mj
 have e:sliceRange (ai none none (some (-1)) xs.length).1 (ai none none (some (-1)) xs.length).2.1 (ai none none (some (-1)) xs.length).2.2=(qb xs.length).map λ(k:Nat)=>xs.length-1-k:=by
  show sliceRange ((xs.length:Int)-1) (-1) (-1)=_;unfold sliceRange;rw[if_neg (by decide)];show(qb (if(xs.length:Int)-1> -1 then((xs.length:Int)-1- -1- -1-1) / - -1 else 0).toNat).map _=_
  have ec:(if(xs.length:Int)-1> -1 then((xs.length:Int)-1- -1- -1-1) / - -1 else 0).toNat=xs.length:=by
   rw[show(- -1:Int)=1 by decide,Int.ediv_one];split<;>omega
  rw[ec];refine qi λk hk=>?_;have:=wb.mp hk;omega
 rw[e,Ps]
 have fm:(qb xs.length).filterMap ((λx=>xs[x]?)∘λk=>xs.length-1-k)=(qb xs.length).filterMap λk=>xs.reverse[k]? :=by
  refine Xy λk hk=>?_;show xs[xs.length-1-k]? =_;rw[List.getElem?_reverse (wb.mp hk)]
 rw[fm]
 have all:∀ (ys:List α),(qb ys.length).filterMap (λk=>ys[k]?)=ys:=by
  intro ys
  induction ys with
  |nil=>rfl
  |cons y ys ih=>
   rw[ba,bw,uh,Ps];show y::(qb ys.length).filterMap (λk=>ys[k]?)=_;rw[ih]
 have:=all xs.reverse;rw[br]at this
 exact this
theorem MX{ks:List Nat}(h:∀ k∈ks,k<600):Ig ks (nm X Q):=λa ha b hb e=>Bn (h a ha) (h b hb) e
theorem HK(xs:List D)(n:Nat):L3.cutD xs (some (n:Int)) none=xs.drop n:=by
 unfold L3.cutD;rw[HT.sIx_nat];show(xs.drop (min n xs.length)).take (xs.length-min n xs.length)=_;rw[lj (by rw[zt];omega)];by_cases h:n<=xs.length
 .rw[Nat.min_eq_left h]
 .rw[Nat.min_eq_right (by omega),fw (by omega),fw (by omega)]
def o0(m:Nat)(c:Int):List Nat:=(qb m).filter λj=>(c / (3+2*(j:Int))%3==0)
def Jn(m:Nat)(c:Int):Bool:=(c%5==2)||(!(c%5==1)&&(o0 m c).isEmpty)
def Tx(m:Nat)(c:Int):List Nat:=if Jn m c=true then [41] else if(c%5==1)=true then(o0 m c).reverse++ [40] else(o0 m c).reverse
def Cu(m ct:Nat)(c:Int)(j:Nat):Bool:=if Jn m c=true then decide (j=0)||decide (ct<=j) else if(c%5==1)=true then decide (j∈o0 m c)||decide (ct<=j) else decide (j∈o0 m c)
variable{m:Nat}
theorem Ws{c:Int}(h:j∈o0 m c):j<m:=wb.mp (lm.mp h).1
theorem ON(m:Nat)(c:Int):(o0 m c).length<=m:=by
 have:=zl (λj:Nat=>(c / (3+2*(j:Int))%3==0)) (qb m);rw[lc]at this
 exact this
theorem HU(m:Nat)(c:Int):(qb m).filter (λj=>decide (j∈o0 m c))=o0 m c:=by
 unfold o0;refine aq λj hj=>?_;rw[kh,decide_eq_true_eq,lm];exact⟨λz=>z.2,λz=>⟨hj,z⟩⟩
structure GrOk(m ct:Nat)(th:List Nat)(ob:Nat->Bool):Prop where
 tb:∀ i∈th,i<m\/i=40\/i=41
 tl:th.length<=m+1
 ob:∀ j,j<m->(ob j=true↔j∈th\/(ct<=j/\(40∈th\/41∈th))\/(j=0/\41∈th))
theorem A6(m ct:Nat)(c:Int)(hm:m<=40):GrOk m ct (Tx m c) (Cu m ct c):=by
 have n40:¬ 40∈o0 m c:=λz=>by have:=Ws z;omega
 have n41:¬ 41∈o0 m c:=λz=>by have:=Ws z;omega
 have ln:=ON m c;unfold Tx Cu;by_cases ha:Jn m c=true
 .simp only[if_pos ha];refine⟨λi hi=>.inr (.inr (ge.mp hi)),by simp,λj hj=>?_⟩;simp only[Bool.or_eq_true,decide_eq_true_eq,ge,or_true,and_true];have:¬ j=41:=by omega
  simp only[this,false_or];exact Or.comm
 .simp only[if_neg ha];by_cases h1:(c%5==1)=true
  .simp only[if_pos h1];refine⟨λi hi=>?_,by simp;omega,λj hj=>?_⟩
   .rcases ag.mp hi with hi|hi
    .exact .inl (Ws (qm.mp hi))
    .exact .inr (.inl (ge.mp hi))
   .simp only[Bool.or_eq_true,decide_eq_true_eq,ag,qm,ge];have:¬ j=40:=by omega
    simp only[n40,n41,this,or_false,false_or,and_false];simp
  .simp only[if_neg h1];refine⟨λi hi=>.inl (Ws (qm.mp hi)),by simp;omega,λj hj=>?_⟩;simp only[decide_eq_true_eq,qm,n40,n41,or_false,and_false]
theorem Po{gc:Ca->Res Bool}(X Q:xa)(m:Nat)(hm:m<=40)(pr:Nat->Bool)(hf:fe=Ea 1)(δ:Ca)(hg:∀ j,j<m->gc (sd (.int (j:Int))::sd (.str (nm X Q j))::δ)=.ok (pr j)):
  Yc 2 (Xb 2 (Ka (Za 0) (Ka (Za 1) Wb))) gc fe δ ((qb m).map λ(j:Nat)=>D.tup [.int (j:Int),.str (nm X Q j)])=.ok (((qb m).filter pr).map λj=>D.str (nm X Q j)):=by
 refine Ac ?_ (by rw[la,lc];omega);exact Dj (gc:=gc) (fe:=fe) pr (λ(j:Nat)=>D.int (j:Int)) (λj=>D.str (nm X Q j)) (λj=>D.str (nm X Q j)) δ (qb m) none none (λj hj=>⟨hg j (wb.mp hj),λ_=>by subst hf;rfl⟩)
abbrev Qq(X Q:xa)(m:Nat):List D:=(qb m).map λj=>D.str (nm X Q j)
theorem GC(ns:List Int)(X Q:xa)(hnm:∀ k:Nat,k<600->La 2 Mb [.lst (ns.map D.int),.int (k:Int)]=.ok (.str (nm X Q k)))(m ct k:Nat)(hm:m<=40)(hk:k<=19)(c:Int)(hc:La 2 Na [.lst (ns.map D.int),.int (4+(k:Int))]=.ok (.int c))(a1 a2 x9 x10 x11:Option S)(s3:Option S)(h3:s3=some (.o (Qq X Q m))\/s3=sd (.lst (Qq X Q m)))(WG:D)(W G:List D)(hW:W.length<=1000)(hG:G.length<=1000):
  ∃ y9 y10 y11,Dd [sd (.lst (ns.map D.int)),a1,a2,s3,sd (.int (ct:Int)),sd WG,some (.o W),some (.o G),sd (.int (k:Int)),x9,x10,x11]
   = .nx [sd (.lst (ns.map D.int)),a1,a2,sd (.lst (Qq X Q m)),sd (.int (ct:Int)),sd WG,some (.o (W++ [sL ((qb m).filter (Cu m ct (c%10^60))) (nm X Q)])),some (.o (G++ [.tup [.str (nm X Q (20+k)),sL (Tx m (c%10^60)) (nm X Q)]])),sd (.int (k:Int)),y9,y10,y11]:=by
 have md:=Cg c (10^60) (by decide);generalize c%10^60=r at*;have m5:=Cg r 5 (by decide);have n40:La 2 Mb [.lst (ns.map D.int),.int 40]=.ok (.str (nm X Q 40)):=hnm 40 (by decide);have n41:La 2 Mb [.lst (ns.map D.int),.int 41]=.ok (.str (nm X Q 41)):=hnm 41 (by decide);have n20:=hnm (20+k) (by omega);rw[show((20+k:Nat):Int)=20+(k:Int) by omega]at n20
 have f3:∀ (a b:Option S) (c0:Option S) (R:Ca),Uo 3 (a::b::c0::s3::R)=a::b::c0::sd (.lst (Qq X Q m))::R:=λa b c0 R=>by rcases h3 with rfl|rfl<;>rfl
 have f3':∀ (a b:Option S) (c0:Option S) (R:Ca),Uo 3 (a::b::c0::sd (.lst (Qq X Q m))::R)=a::b::c0::sd (.lst (Qq X Q m))::R:=λ_ _ _ _=>rfl;have en:=Zr (λj=>D.str (nm X Q j)) m
 have k1:∀ (b0 b1' b2' b4 b5 b6 b7 b8 b10 b11:Option S),Yc 2 (Xb 2 (Ka (Za 0) (Ka (Za 1) Wb))) Ph Dl [b0,b1',b2',sd (.lst (Qq X Q m)),b4,b5,b6,b7,b8,sd (.int r),b10,b11] ((qb m).map λ(j:Nat)=>D.tup [.int (j:Int),.str (nm X Q j)])=.ok ((o0 m r).map λj=>D.str (nm X Q j)):=λb0 b1' b2' b4 b5 b6 b7 b8 b10 b11=>
  Po X Q m hm (λj=>(r / (3+2*(j:Int))%3==0)) rfl _ λj hj=>by
   have e1:=TC 2 (j:Int) (by omega);have e2:=MK r (3+2*(j:Int)) (by omega) (by omega);have e3:=Cg (r / (3+2*(j:Int))) 3 (by decide);unfold Ph;simp only[tR,b2,kD,Qa,Ya,Res.bind_ok,e1,Lc,e2,e3,Cd,Wa]
 have sl:R3 (.lst ((o0 m r).map λj=>D.str (nm X Q j))) none (some (-1))=.ok ((o0 m r).reverse.map λj=>D.str (nm X Q j)):=by
  show(if(some (-1:Int))=some 0 then Res.stuck else Res.ok (Mj _ none (some (-1))))=_;rw[if_neg (by decide),Ov,qv]
 have hs3:∀ ks:List Nat,Al (.lst (ks.map λj=>D.str (nm X Q j))) (.lst [])=.ok (.bl ks.isEmpty):=λks=>GS (nm X Q) ks;have ap7:∀ (b0 b1' b2' b3' b4 b5 b6 b8 b9' b10 b11:Option S) (d:D),Yv 7 [b0,b1',b2',b3',b4,b5,b6,some (.o G),b8,b9',b10,b11] (.ok d)=.nx [b0,b1',b2',b3',b4,b5,b6,some (.o (G++ [d])),b8,b9',b10,b11]:=λ_ _ _ _ _ _ _ _ _ _ _ d=>Ln 7 _ _ d rfl (by omega);have ap6:∀ (b0 b1' b2' b3' b4 b5 b7 b8 b9' b10 b11:Option S) (d:D),Yv 6 [b0,b1',b2',b3',b4,b5,some (.o W),b7,b8,b9',b10,b11] (.ok d)=.nx [b0,b1',b2',b3',b4,b5,some (.o (W++ [d])),b7,b8,b9',b10,b11]:=λ_ _ _ _ _ _ _ _ _ _ _ d=>Ln 6 _ _ d rfl (by omega);have f10:∀ (b0 b1' b2' b3' b4 b5 b6 b7 b8 b9' b11:Option S) (ds:List D),Uo 10 [b0,b1',b2',b3',b4,b5,b6,b7,b8,b9',some (.o ds),b11]= [b0,b1',b2',b3',b4,b5,b6,b7,b8,b9',sd (.lst ds),b11]:=λ_ _ _ _ _ _ _ _ _ _ _ _=>rfl;by_cases h1:(r%5==1)=true
 .have h2:(r%5==2)=false:=by
   rw[beq_iff_eq]at h1
   rw[beq_eq_false_iff_ne,h1];decide
  have ha:¬ Jn m r=true:=by unfold Jn;rw[h1,h2];simp
  have k2:∀ (b0 b1' b2' b5 b6 b7 b8 b9' b11:Option S),Yc 2 (Xb 2 (Ka (Za 0) (Ka (Za 1) Wb))) Qh El [b0,b1',b2',sd (.lst (Qq X Q m)),sd (.int (ct:Int)),b5,b6,b7,b8,b9',some (.o ((o0 m r).map λj=>D.str (nm X Q j))),b11] ((qb m).map λ(j:Nat)=>D.tup [.int (j:Int),.str (nm X Q j)])=.ok (((qb m).filter (Cu m ct r)).map λj=>D.str (nm X Q j)):=λb0 b1' b2' b5 b6 b7 b8 b9' b11=>by
   refine Po X Q m hm (Cu m ct r) rfl _ λj hj=>?_;have e1:=JC (f:=nm X Q) (U:=qb m) (MX λk hk=>by have:=wb.mp hk;omega) (ks:=o0 m r) (k:=j) (λa ha=>wb.mpr (Ws ha)) (wb.mpr hj);unfold sL at e1
   have e2:GX (.int (j:Int)) (.int (ct:Int))=.ok (.bl (decide (ct<=j))):=by
    rw[Bs];congr 2;rw[kh,decide_eq_true_eq,decide_eq_true_eq];omega
   unfold Qh Cu;rw[if_neg ha,if_pos h1];simp only[Ci,tR,b2,Qa,Ya,Nd,Res.bind_ok,e1,e2,Wa,Dg];cases decide (j∈o0 m r)<;>rfl
  have ct1:PB (.lst ((o0 m r).reverse.map λj=>D.str (nm X Q j))) (.lst [.str (nm X Q 40)])=.ok (((o0 m r).reverse++ [40]).map λj=>D.str (nm X Q j)):=by
   rw[kg];exact BK _ _ (by rw[la,br];have:=ON m r;simp only[ba,rd];omega)
  have hs4:=hs3 ((o0 m r).reverse++ [40]);have z4:((o0 m r).reverse++ [40]).isEmpty=false:=by simp
  rw[z4]at hs4
  have et:Tx m r=(o0 m r).reverse++ [40]:=by unfold Tx;rw[if_neg ha,if_pos h1]
  rw[et];unfold sL;clear h3 hnm et ha;generalize ((qb m).map λ(j:Nat)=>D.tup [.int (j:Int),.str (nm X Q j)])=EN at*;generalize ((qb m).filter (Cu m ct r)).map (λj=>D.str (nm X Q j))=OB at*;generalize (((o0 m r).reverse++ [40]).map λj=>D.str (nm X Q j))=TH at*;generalize ((o0 m r).reverse.map λj=>D.str (nm X Q j))=RV at*;generalize ((o0 m r).map λj=>D.str (nm X Q j))=OO at*;refine⟨sd (.int r),sd (.lst OB),sd (.lst TH),?_⟩;unfold Dd;simp only[Bb,Vb,Oe,Of,Ue,Ho,tR,Ci,kD,De,b1,b2,VP,b3,Tg,Me,Ef,Rb,Aa,Ra,Sa,Qa,Ya,Nd,Va,Gb,Res.bind_ok,Lc,Rl,Fh,hc,PF,md,m5,f3,f3',en,k1,k2,sl,h1,h2,hs4,ct1,Cd,n40,n20,ap7,ap6,f10,Wa,Dg,Ub,Eb,Fb,ba,rd,ve,qf,vh,uc,if_true,if_false,reduceIte,zb,Sc]
 .have h1':(r%5==1)=false:=by simpa using h1
  by_cases ha:Jn m r=true
  .have k3:∀ (b0 b1' b2' b5 b6 b7 b8 b9' b10 b11:Option S),Yc 2 (Xb 2 (Ka (Za 0) (Ka (Za 1) Wb))) Rh Fl [b0,b1',b2',sd (.lst (Qq X Q m)),sd (.int (ct:Int)),b5,b6,b7,b8,b9',b10,b11] ((qb m).map λ(j:Nat)=>D.tup [.int (j:Int),.str (nm X Q j)])=.ok (((qb m).filter (Cu m ct r)).map λj=>D.str (nm X Q j)):=λb0 b1' b2' b5 b6 b7 b8 b9' b10 b11=>by
    refine Po X Q m hm (Cu m ct r) rfl _ λj hj=>?_
    have e1:Al (.int (j:Int)) (.int 0)=.ok (.bl (decide (j=0))):=by
     rw[Cd];congr 2;rw[kh,beq_iff_eq,decide_eq_true_eq];omega
    have e2:GX (.int (j:Int)) (.int (ct:Int))=.ok (.bl (decide (ct<=j))):=by
     rw[Bs];congr 2;rw[kh,decide_eq_true_eq,decide_eq_true_eq];omega
    unfold Rh Cu;rw[if_pos ha];simp only[Ci,tR,b2,kD,Qa,Ya,Res.bind_ok,e1,e2,Wa,Dg];cases decide (j=0)<;>rfl
   have tst:R8 (.ok (o0 m r).reverse.isEmpty) (.ok (r%5==2))=.ok true:=by
    unfold Jn at ha;rw[h1']at ha
    simp only[yh,su]at ha;rw[Dg,List.isEmpty_reverse];cases hz:(o0 m r).isEmpty with
    |true=>rfl
    |false=>rw[hz,Bool.or_false]at ha;rw[ha];rfl
   have hs4:=hs3 (o0 m r).reverse;have et:Tx m r= [41]:=by unfold Tx;rw[if_pos ha]
   rw[et];unfold sL;have tt:([41].map λj=>D.str (nm X Q j))= [.str (nm X Q 41)]:=rfl;rw[tt];clear h3 hnm et ha tt;generalize ((qb m).map λ(j:Nat)=>D.tup [.int (j:Int),.str (nm X Q j)])=EN at*;generalize ((qb m).filter (Cu m ct r)).map (λj=>D.str (nm X Q j))=OB at*;generalize ((o0 m r).reverse.map λj=>D.str (nm X Q j))=RV at*;generalize ((o0 m r).map λj=>D.str (nm X Q j))=OO at*;refine⟨sd (.int r),sd (.lst OB),sd (.lst [.str (nm X Q 41)]),?_⟩;unfold Dd;simp only[Bb,Vb,Oe,Of,Ue,Ho,tR,Ci,kD,De,b1,b2,VP,b3,Tg,Me,Ef,Rb,Aa,Ra,Sa,Qa,Ya,Nd,Va,Gb,Res.bind_ok,Lc,Rl,Fh,hc,PF,md,m5,f3,f3',en,k1,k3,sl,h1',hs4,tst,Cd,n41,n20,ap7,ap6,f10,Wa,Ub,Eb,Fb,ba,rd,ve,qf,vh,uc,if_true,if_false,reduceIte,zb,Sc]
  .have h2:(r%5==2)=false:=by
    cases hz:(r%5==2) with
    |false=>rfl
    |true=>exact absurd (by unfold Jn;rw[hz];rfl) ha
   have he:(o0 m r).reverse.isEmpty=false:=by
    rw[List.isEmpty_reverse];cases hz:(o0 m r).isEmpty with
    |false=>rfl
    |true=>exact absurd (by unfold Jn;rw[h1',hz,h2];rfl) ha
   have hs4:=hs3 (o0 m r).reverse;rw[he]at hs4
   have et:Tx m r=(o0 m r).reverse:=by unfold Tx;rw[if_neg ha,if_neg h1]
   have eo:(qb m).filter (Cu m ct r)=o0 m r:=by
    rw[<-HU m r];refine aq λj _=>?_;unfold Cu;rw[if_neg ha,if_neg h1]
   rw[et,eo];unfold sL;clear h3 hnm et eo ha he;generalize ((qb m).map λ(j:Nat)=>D.tup [.int (j:Int),.str (nm X Q j)])=EN at*;generalize ((o0 m r).reverse.map λj=>D.str (nm X Q j))=RV at*;generalize ((o0 m r).map λj=>D.str (nm X Q j))=OO at*;refine⟨sd (.int r),sd (.lst OO),sd (.lst RV),?_⟩;unfold Dd;simp only[Bb,Vb,Oe,Of,Ue,Ho,tR,Ci,kD,De,b1,b2,VP,b3,Tg,Me,Ef,Rb,Aa,Ra,Sa,Qa,Ya,Nd,Va,Gb,Res.bind_ok,Lc,Rl,Fh,hc,PF,md,m5,f3,f3',en,k1,sl,h1',h2,hs4,Cd,n20,ap7,ap6,f10,Wa,Dg,Ub,Eb,Fb,ba,rd,ve,qf,vh,uc,if_true,if_false,reduceIte,zb,Sc]
theorem Sr(ns:List Int):∃ f:Int->Int,∀ k,0<=k->k<=1000->La 2 Na [.lst (ns.map D.int),.int k]=.ok (.int (f k)):=by
 refine⟨λk=>if h:0<=k/\k<=1000 then(Tn ns k h.1 h.2).choose else 0,λk h0 h1=>?_⟩;simp only[dif_pos (And.intro h0 h1)];exact(Tn ns k h0 h1).choose_spec
def OP(X Q:xa)(m ct:Nat):List D:= [.tup [.str (nm X Q 40),sL ((qb m).drop ct) (nm X Q)],.tup [.str (nm X Q 41),sL [40,0] (nm X Q)]]
def Aq(X Q:xa)(th:Nat->List Nat)(n:Nat):List D:=(qb n).map λk=>D.tup [.str (nm X Q (20+k)),sL (th k) (nm X Q)]
def QJ(X Q:xa)(m:Nat)(ob:Nat->Nat->Bool)(n:Nat):List D:=(qb n).map λk=>sL ((qb m).filter (ob k)) (nm X Q)
theorem IL(X Q:xa)(th:Nat->List Nat)(n:Nat):Aq X Q th (n+1)=Aq X Q th n++ [.tup [.str (nm X Q (20+n)),sL (th n) (nm X Q)]]:=by
 unfold Aq;rw[ut,kg];rfl
theorem NP(X Q:xa)(m:Nat)(ob:Nat->Nat->Bool)(n:Nat):QJ X Q m ob (n+1)=QJ X Q m ob n++ [sL ((qb m).filter (ob n)) (nm X Q)]:=by
 unfold QJ;rw[ut,kg];rfl
theorem AF(X Q:xa)(th:Nat->List Nat)(n:Nat):(Aq X Q th n).length=n:=by unfold Aq;rw[la,lc]
theorem MW(X Q:xa)(m:Nat)(ob:Nat->Nat->Bool)(n:Nat):(QJ X Q m ob n).length=n:=by unfold QJ;rw[la,lc]
theorem OL(ns:List Int)(X Q:xa)(hnm:∀ k:Nat,k<600->La 2 Mb [.lst (ns.map D.int),.int (k:Int)]=.ok (.str (nm X Q k)))(md mk:Int)(h1:1<=md)(h2:md<=19)(h3:1<=mk)(h4:mk<=19):
  ∃ (m ct n:Nat) (f:Nat->Int),1<=m/\(m:Int)<=md/\ct<m/\1<=n/\(n:Int)<=mk/\La 3 Kd [.lst (ns.map D.int),.int md,.int mk]=.ok (.tup [.lst (Qq X Q m),.lst (OP X Q m ct),.lst (Aq X Q (λk=>Tx m (f k)) n),.lst (QJ X Q m (λk=>Cu m ct (f k)) n)]):=by
 obtain⟨cf,hcf⟩:=Sr ns;have e1:=hcf 1 (by decide) (by decide);have e2:=hcf 2 (by decide) (by decide);have e3:=hcf 3 (by decide) (by decide);have m1:=Cg (cf 1) md (by omega);have a1:=zg (cf 1) (show md≠0 by omega);have a2:=yf (cf 1) (show 0<md by omega);generalize cf 1%md=q1 at*;obtain⟨m,hm⟩:∃ m:Nat,(m:Int)=1+q1:=⟨(1+q1).toNat,by omega⟩
 have m2:=Cg (cf 2) (m:Int) (by omega);have a3:=zg (cf 2) (show(m:Int)≠0 by omega);have a4:=yf (cf 2) (show 0<(m:Int) by omega);generalize cf 2%(m:Int)=q2 at*;obtain⟨ct,hct⟩:∃ ct:Nat,(ct:Int)=q2:=⟨q2.toNat,by omega⟩
 subst hct;have m3:=Cg (cf 3) mk (by omega);have a5:=zg (cf 3) (show mk≠0 by omega);have a6:=yf (cf 3) (show 0<mk by omega);generalize cf 3%mk=q3 at*;obtain⟨n,hn⟩:∃ n:Nat,(n:Int)=1+q3:=⟨(1+q3).toNat,by omega⟩
 have r1:=ND (1+q1) (by omega) (by omega);rw[show(1+q1).toNat=m by omega]at r1
 have r3:=ND (1+q3) (by omega) (by omega);rw[show(1+q3).toNat=n by omega]at r3
 have er:Nj 0 m=(qb m).map λ(j:Nat)=>D.int (j:Int):=by
  unfold Nj;exact qi λj _=>by rw[Int.zero_add]
 have cm:∀ r:Ca,Yc 1 (Za 0) (λ_=>.ok true) Lf (sd (.lst (ns.map D.int))::r) (Nj 0 m)=.ok (Qq X Q m):=λr=>by
  refine Ac ?_ (by rw[Fo];omega);rw[er]
  have:=Vd (gc:=λ_=>.ok true) (fe:=Lf) (λ_=>true) (λ(j:Nat)=>D.int (j:Int)) (λj=>D.str (nm X Q j)) (sd (.lst (ns.map D.int))::r) (qb m) none (λj hj=>⟨rfl,λ_=>by
   have e:=hnm j (by have:=wb.mp hj;omega);unfold Lf
   simp only[b1,Aa,Ra,Sa,Va,Gb,Res.bind_ok,e]⟩)
  rw[filter_all]at this
  exact this
 have n40:La 2 Mb [.lst (ns.map D.int),.int 40]=.ok (.str (nm X Q 40)):=hnm 40 (by decide);have n41:La 2 Mb [.lst (ns.map D.int),.int 41]=.ok (.str (nm X Q 41)):=hnm 41 (by decide);have ln:Dm (.lst (Qq X Q m))=.ok (.int (m:Int)):=by rw[Yh,la,lc]
 have sl:X4 (.lst (Qq X Q m)) (some (ct:Int)) none=.ok (((qb m).drop ct).map λj=>D.str (nm X Q j)):=by
  rw[E7,HK,List.map_drop]
 have i0:Qe (.lst (Qq X Q m)) (.int 0)=.ok (.str (nm X Q 0)):=Bq _ _ _ (Ei (by omega) (by
  show((qb m).map λj=>D.str (nm X Q j))[0]? =_
  rw[wc,jg (by omega)];rfl))
 obtain⟨δ2,f,s3,x8,x9,x10,x11,hs3,rfl⟩:=Xn (t:=Za 8) (body:=Dd) (λi δ=>∃ s3 x8 x9 x10 x11:Option S,(s3=some (.o (Qq X Q m))\/s3=sd (.lst (Qq X Q m)))/\δ= [sd (.lst (ns.map D.int)),sd (.int md),sd (.int mk),s3,sd (.int (ct:Int)),sd (.lst (OP X Q m ct)),some (.o (QJ X Q m (λk=>Cu m ct (cf (4+(k:Int))%10^60)) i)),some (.o (Aq X Q (λk=>Tx m (cf (4+(k:Int))%10^60)) i)),x8,x9,x10,x11])
  (Nj 0 n) [sd (.lst (ns.map D.int)),sd (.int md),sd (.int mk),some (.o (Qq X Q m)),sd (.int (ct:Int)),sd (.lst (OP X Q m ct)),some (.o []),some (.o []),none,none,none,none] (λi e δ he hI=>by
   obtain⟨s3,x8,x9,x10,x11,hs3,rfl⟩:=hI;obtain⟨hi,rfl⟩:=Kt he;rw[Int.zero_add];obtain⟨y9,y10,y11,e⟩:=GC ns X Q hnm m ct i (by omega) (by omega) _ (hcf (4+(i:Int)) (by omega) (by omega)) (sd (.int md)) (sd (.int mk)) x9 x10 x11 s3 hs3 (.lst (OP X Q m ct)) (QJ X Q m (λk=>Cu m ct (cf (4+(k:Int))%10^60)) i) (Aq X Q (λk=>Tx m (cf (4+(k:Int))%10^60)) i) (by rw[MW];omega) (by rw[AF];omega);rw[<-NP X Q m (λk=>Cu m ct (cf (4+(k:Int))%10^60)) i,<-IL X Q (λk=>Tx m (cf (4+(k:Int))%10^60)) i]at e
   exact⟨_,rfl,_,.inl e,_,_,_,_,_,.inr rfl,rfl⟩) ⟨_,none,none,none,none,.inl rfl,rfl⟩
 rw[Fo]at f
 refine⟨m,ct,n,λk=>cf (4+(k:Int))%10^60,by omega,by omega,by omega,by omega,by omega,Jb _ _ _ _ ?_ rfl⟩;have f3:∀ (a b:Option S) (c0:Option S) (R:Ca),Uo 3 (a::b::c0::s3::R)=a::b::c0::sd (.lst (Qq X Q m))::R:=λa b c0 R=>by rcases hs3 with rfl|rfl<;>rfl
 have f6:∀ (a0 a1 a2 a3 a4 a5:Option S) (ds:List D) (R:Ca),Uo 6 (a0::a1::a2::a3::a4::a5::some (.o ds)::R)=a0::a1::a2::a3::a4::a5::sd (.lst ds)::R:=λ_ _ _ _ _ _ _ _=>rfl;have f7:∀ (a0 a1 a2 a3 a4 a5 a6:Option S) (ds:List D) (R:Ca),Uo 7 (a0::a1::a2::a3::a4::a5::a6::some (.o ds)::R)=a0::a1::a2::a3::a4::a5::a6::sd (.lst ds)::R:=λ_ _ _ _ _ _ _ _ _=>rfl;have wg:OP X Q m ct= [.tup [.str (nm X Q 40),.lst (((qb m).drop ct).map λj=>D.str (nm X Q j))],.tup [.str (nm X Q 41),.lst [.str (nm X Q 40),.str (nm X Q 0)]]]:=rfl;rw[wg]at f ⊢
 clear hs3 hnm hcf a1 a2 a3 a4 a5 a6 hm hn wg er;generalize QJ X Q m (λk=>Cu m ct (cf (4+(k:Int))%10^60)) n=WA at*;generalize Aq X Q (λk=>Tx m (cf (4+(k:Int))%10^60)) n=GR at*;generalize ((qb m).drop ct).map (λj=>D.str (nm X Q j))=DR at*;generalize Nj 0 m=RM at*;generalize Nj 0 n=RN at*;generalize Qq X Q m=DS at*;generalize ns.map D.int=NN at*;unfold Kd Mn
 walk_at "s"
 simp only[ba,rd,ve,kD,b1,b2,b3,Tg,De,Me,Ef,Rb,Aa,Ra,Sa,Bb,Vb,Oe,Df,Ue,Tb,Va,Gb,Qa,Nd,Ya,Res.bind_ok,Fh,Lc,e1,e2,e3,m1,m2,m3,r1,r3,cm,n40,n41,ln,sl,i0,f,f3,f6,f7,Eb,Fb,Lb,zb,Sc,vh,qf,if_true,reduceIte]
structure Hs where
 X:xa
 Q:xa
 p:Int
 d:Int
 h:Int
 s:Int
 m:Nat
 ct:Nat
 n:Nat
 th:Nat->List Nat
 ob:Nat->Nat->Bool
 pn:Nat
 cut:Nat->List Int
 po:List Nat
def Hs.N(H:Hs):Nat->xa:=nm H.X H.Q
def Hs.kn(H:Hs)(k:Nat):xa:=H.N (20+k)
def Hs.drs(H:Hs):List Nat:=qb H.m
def Hs.ks(H:Hs):List Nat:=qb H.n
def Hs.ru(H:Hs):D:=Br H.p H.d H.h H.s
def Hs.own(H:Hs)(k:Nat):List Nat:=H.drs.filter (H.ob k)
def Hs.hold(H:Hs)(j:Nat):List Nat:=H.ks.filter λk=>H.ob k j
def Hs.mem(H:Hs)(i:Nat):List Nat:=if i<40 then H.th (i-20) else if i=40 then H.drs.drop H.ct else [40,0]
def Hs.ids(H:Hs):List Nat:=40::41::H.ks.map (20+ ·)
def Hs.wgD(H:Hs):D:=.lst (OP H.X H.Q H.m H.ct)
def Hs.grD(H:Hs):D:=.lst (Aq H.X H.Q H.th H.n)
def Hs.hsD(H:Hs):D:=T4 H.ru (sL H.drs H.N) H.wgD H.grD
def Hs.meT(H:Hs):List (Hb×D):=tK H.ids H.N λi=>sL (H.mem i) H.N
def Hs.spT(H:Hs):List (Hb×D):=tK H.ks H.kn λk=>sL (H.own k) H.N
def Hs.heT(H:Hs):List (Hb×D):=tK H.drs H.N λj=>sL (H.hold j) H.kn
structure Hs.Ok(H:Hs):Prop where
 xq:H.X.length<=10/\H.Q.length<=10/\BQ H.X/\BQ H.Q
 hp:1<=H.p
 hp2:H.p<=100
 m1:1<=H.m
 hm:H.m<=19
 hc:H.ct<H.m
 hn:H.n<=19
 gr:∀ k,k<H.n->GrOk H.m H.ct (H.th k) (H.ob k)
 pn:H.pn<=H.n
 cl:∀ k,k<H.pn->(H.cut k).length=H.p.toNat
 cb:∀ k,k<H.pn->∀ c∈H.cut k,0<=c/\c<H.d
 dh:H.d<=H.h
 po1:H.po.Nodup
 po2:∀ k,k∈H.po↔k<H.pn
theorem TJ(H:Hs){ks:List Nat}(h:∀ k∈ks,k<600):Ig ks H.N:=MX h
theorem Fw(H:Hs)(o:H.Ok):Ig H.drs H.N:=TJ H λk hk=>by have:=wb.mp hk;have:=o.hm;omega
theorem Pw(H:Hs){ks:List Nat}(h:∀ k∈ks,k<500):Ig ks H.kn:=λa ha b hb e=>by
 have:=Bn (X:=H.X) (Q:=H.Q) (j:=20+a) (k:=20+b) (by have:=h a ha;omega) (by have:=h b hb;omega) e;omega
theorem MC(H:Hs)(o:H.Ok):Ig H.ks H.kn:=Pw H λk hk=>by have:=wb.mp hk;have:=o.hn;omega
theorem HC(H:Hs)(o:H.Ok):∀ i∈H.ids,20<=i/\i<600:=λi hi=>by
 unfold Hs.ids at hi;rcases zc.mp hi with rfl|hi
 .decide
 rcases zc.mp hi with rfl|hi
 .decide
 obtain⟨k,hk,rfl⟩:=jf.mp hi;have:=wb.mp hk;have:=o.hn;omega
theorem OH(H:Hs)(o:H.Ok):H.ids.Nodup:=by
 have b:∀ i∈H.ks.map (20+ ·),i<40:=λi hi=>by
  obtain⟨k,hk,rfl⟩:=jf.mp hi;have:=wb.mp hk;have:=o.hn;omega
 unfold Hs.ids;refine mm.mpr ⟨λz=>?_,mm.mpr ⟨λz=>?_,?_⟩⟩
 .rcases zc.mp z with z|z
  .exact absurd z (by decide)
  .have:=b _ z;omega
 .have:=b _ z;omega
 .refine vk.map _ (R:=λa b=>a≠b) (λa b h z=>h (by omega)) ?_;exact gu
theorem MY(H:Hs)(o:H.Ok):PB H.wgD H.grD=.ok (H.ids.map λi=>D.tup [.str (H.N i),sL (H.mem i) H.N]):=by
 have e:H.ids.map (λi=>D.tup [.str (H.N i),sL (H.mem i) H.N])=OP H.X H.Q H.m H.ct++Aq H.X H.Q H.th H.n:=by
  unfold Hs.ids Aq Hs.ks;rw[ac,ac,xh]
  have:((qb H.n).map ((λi=>D.tup [.str (H.N i),sL (H.mem i) H.N])∘λx=>20+x))=(qb H.n).map λk=>D.tup [.str (nm H.X H.Q (20+k)),sL (H.th k) (nm H.X H.Q)]:=by
   refine qi λk hk=>?_;have:=wb.mp hk;have:=o.hn;show D.tup [.str (H.N (20+k)),sL (H.mem (20+k)) H.N]=_
   have em:H.mem (20+k)=H.th k:=by
    unfold Hs.mem;rw[if_pos (by omega),show 20+k-20=k by omega]
   rw[em];rfl
  rw[this];rfl
 rw[e];refine BK _ _ ?_;rw[AF];have:=o.hn;show 2+H.n<=1000;omega
theorem Fk(H:Hs)(o:H.Ok)(hi:i∈H.ids):Ek H.meT (H.N i)=(H.mem i).map H.N:=by
 unfold Ek Hs.meT;rw[Sx (TJ H λk hk=>(HC H o k hk).2) hi];show(Ep ((H.mem i).map λk=>D.str (H.N k))).getD []=_;have:((H.mem i).map λk=>D.str (H.N k))=((H.mem i).map H.N).map D.str:=by rw[xh];rfl
 rw[this,Gn];rfl
theorem YM(H:Hs)(o:H.Ok)(hj:j<H.m):Ek H.meT (H.N j)= []:=by
 unfold Ek Hs.meT
 rw[Dr λk hk e=>by
  have h1:=HC H o k hk;have h2:=o.hm;have:=Bn (X:=H.X) (Q:=H.Q) (j:=k) (k:=j) (by omega) (by omega) e
  omega]
theorem AU(H:Hs):JQ H.meT:=λp hp=>by
 unfold Hs.meT tK at hp;obtain⟨k,_,rfl⟩:=jf.mp hp;exact⟨(H.mem k).map H.N,by show sL (H.mem k) H.N=_;unfold sL;rw[xh];rfl⟩
theorem K6(H:Hs)(o:H.Ok)(hk:k<H.n):20+k∈H.ids/\H.mem (20+k)=H.th k:=by
 have:=o.hn;refine⟨ua _ (ua _ (jf.mpr ⟨k,wb.mpr hk,rfl⟩)),?_⟩;unfold Hs.mem;rw[if_pos (by omega),show 20+k-20=k by omega]
theorem X0(H:Hs):40∈H.ids/\H.mem 40=H.drs.drop H.ct:=⟨ib,rfl⟩
theorem Y0(H:Hs):41∈H.ids/\H.mem 41= [40,0]:=⟨ua _ ib,rfl⟩
variable{ct a:Nat}
theorem Ql:a∈(qb m).drop ct↔ct<=a/\a<m:=by
 constructor
 .intro h;obtain⟨i,hi⟩:=bq.mp h;rw[List.getElem?_drop]at hi
  have h2:=(ya.mp hi).1;rw[lc]at h2
  rw[jg h2]at hi
  have:=yb hi;omega
 .rintro⟨h1,h2⟩;refine bq.mpr ⟨a-ct,?_⟩;rw[List.getElem?_drop,jg (by omega)];congr 1;omega
theorem QK(H:Hs)(o:H.Ok)(hk:k<H.n):La 2 Zf [H.hsD,.str (H.kn k)]=.ok (sL (H.own k) H.N):=by
 have f2:Fj "House" "doors" H.hsD=.ok (sL H.drs H.N):=X5 H.ru (sL H.drs H.N) H.wgD H.grD;have f3:Fj "House" "wings" H.hsD=.ok H.wgD:=S9 H.ru (sL H.drs H.N) H.wgD H.grD;have f4:Fj "House" "grants" H.hsD=.ok H.grD:=YZ H.ru (sL H.drs H.N) H.wgD H.grD;have c1:=MY H o;have dc:Qg (.lst (H.ids.map λi=>D.tup [.str (H.N i),sL (H.mem i) H.N]))=.ok (dK H.meT):=Pq (g:=λi=>sL (H.mem i) H.N) (TJ H λk hk=>(HC H o k hk).2) (OH H o);have hm:=o.hm;have hn:=o.hn;have g:=o.gr k hk;obtain⟨hk1,hk2⟩:=K6 H o hk;obtain⟨h40,e40⟩:=X0 H;obtain⟨h41,e41⟩:=Y0 H
 have memU:∀ i∈(20+k)::40::41::H.drs,(Ek H.meT (H.N i)).length<=20/\∀ z∈Ek H.meT (H.N i),z∈((20+k)::40::41::H.drs).map H.N:=λi hi=>by
  rcases zc.mp hi with rfl|hi
  .rw[Fk H o hk1,hk2,la];refine⟨by have:=g.tl;omega,λz hz=>?_⟩;obtain⟨a,ha,rfl⟩:=jf.mp hz;refine sj ?_;rcases g.tb a ha with h|rfl|rfl
   .exact ua _ (ua _ (ua _ (wb.mpr h)))
   .exact ua _ ib
   .exact ua _ (ua _ ib)
  rcases zc.mp hi with rfl|hi
  .rw[Fk H o h40,e40,la];refine⟨by rw[zt];unfold Hs.drs;rw[lc];omega,λz hz=>?_⟩;obtain⟨a,ha,rfl⟩:=jf.mp hz;exact sj (ua _ (ua _ (ua _ (List.mem_of_mem_drop ha))))
  rcases zc.mp hi with rfl|hi
  .rw[Fk H o h41,e41,la];refine⟨by simp,λz hz=>?_⟩;obtain⟨a,ha,rfl⟩:=jf.mp hz;refine sj ?_;rcases zc.mp ha with rfl|ha
   .exact ua _ ib
   .rw[ge.mp ha];exact ua _ (ua _ (ua _ (wb.mpr (by have:=o.m1;omega))))
  .rw[YM H o (wb.mp hi)];exact⟨by simp,λz hz=>by simp at hz⟩
 have lU:(((20+k)::40::41::H.drs).map H.N).length<=22:=by
  rw[la,ba,ba,ba];unfold Hs.drs;rw[lc];omega
 have lf:AQ (((20+k)::40::41::H.drs).map H.N) []<=22:=uf (zl _ _) lU
 obtain⟨R,y,wh,a1,a2,a3⟩:=PK H.hsD (.str (H.kn k)) H.meT (AU H) (((20+k)::40::41::H.drs).map H.N) 20 (λx hx=>by
  obtain⟨i,hi,rfl⟩:=jf.mp hx
  exact memU i hi) (by decide) (by omega) 100000 [H.kn k] [] none (by rw[qg];omega) (λx hx=>by
   rw[ge.mp hx];exact sj (f:=H.N) ib) (by simp only[rd];omega) (by rw[qg];omega)
 have cl:=a2 (λx hx=>by simp at hx);have k0:H.N (20+k)∈R:=a1 _ (.inr (ge.mpr rfl));have go:∀ i∈H.ids,H.N i∈R->∀ a∈H.mem i,H.N a∈R:=λi hi hR a ha=>cl _ hR _ (by rw[Fk H o hi];exact sj ha)
 have inR':∀ j,j<H.m->(H.N j∈R↔H.ob k j=true):=λj hj=>by
  constructor
  .intro hx
   have:=a3 (λx=>∃ i,x=H.N i/\i<600/\(i=20+k\/(i<H.m/\H.ob k i=true)\/(i=40/\(40∈H.th k\/41∈H.th k))\/(i=41/\41∈H.th k))) (λx hx z hz=>by
    obtain⟨i,rfl,_,h⟩:=hx;rcases h with rfl|⟨h,_⟩|⟨rfl,h⟩|⟨rfl,h⟩
    .rw[Fk H o hk1,hk2]at hz
     obtain⟨a,ha,rfl⟩:=jf.mp hz;rcases g.tb a ha with h|rfl|rfl
     .exact⟨a,rfl,by omega,.inr (.inl ⟨h,(g.ob a h).mpr (.inl ha)⟩)⟩
     .exact⟨40,rfl,by decide,.inr (.inr (.inl ⟨rfl,.inl ha⟩))⟩
     .exact⟨41,rfl,by decide,.inr (.inr (.inr ⟨rfl,ha⟩))⟩
    .rw[YM H o h]at hz;simp at hz
    .rw[Fk H o h40,e40]at hz
     obtain⟨a,ha,rfl⟩:=jf.mp hz;obtain⟨b1',b2'⟩:=Ql.mp ha;exact⟨a,rfl,by omega,.inr (.inl ⟨b2',(g.ob a b2').mpr (.inr (.inl ⟨b1',h⟩))⟩)⟩
    .rw[Fk H o h41,e41]at hz
     obtain⟨a,ha,rfl⟩:=jf.mp hz;rcases zc.mp ha with rfl|ha
     .exact⟨40,rfl,by decide,.inr (.inr (.inl ⟨rfl,.inr h⟩))⟩
     .rw[ge.mp ha]
      exact⟨0,rfl,by decide,.inr (.inl ⟨by have:=o.m1;omega,(g.ob 0 (by have:=o.m1;omega)).mpr (.inr (.inr ⟨rfl,h⟩))⟩)⟩) (λx hx=>by
    rcases hx with hx|hx
    .simp at hx
    .exact⟨20+k,ge.mp hx,by omega,.inl rfl⟩) _ hx
   obtain⟨i,e,hi,h⟩:=this;have:=Bn (X:=H.X) (Q:=H.Q) (j:=j) (k:=i) (by omega) hi e;subst this;rcases h with h|h|h|h
   .omega
   .exact h.2
   .omega
   .omega
  .intro hx;rcases(g.ob j hj).mp hx with h|⟨h1,h⟩|⟨h1,h⟩
   .exact go _ hk1 k0 j (by rw[hk2];exact h)
   .have r40:H.N 40∈R:=by
     rcases h with h|h
     .exact go _ hk1 k0 40 (by rw[hk2];exact h)
     .exact go _ h41 (go _ hk1 k0 41 (by rw[hk2];exact h)) 40 (by rw[e41];exact ib)
    exact go _ h40 r40 j (by rw[e40];exact Ql.mpr ⟨h1,hj⟩)
   .subst h1;exact go _ h41 (go _ hk1 k0 41 (by rw[hk2];exact h)) 0 (by rw[e41];exact ua _ ib)
 have cm:∀ δ,Yc 1 (Za 0) Wg Yj (sd H.hsD::sd (.str (H.kn k))::sd (dK H.meT)::sd (.dct (R.map λx=>(Sum.inr x:Hb)) (R.map λ_=>D.bl true))::δ) (H.drs.map λj=>D.str (H.N j))=.ok ((H.own k).map λj=>D.str (H.N j)):=λδ=>by
  refine Ac ?_ (by rw[la];unfold Hs.drs;rw[lc];omega)
  exact Vd (gc:=Wg) (fe:=Yj) (λj=>H.ob k j) (λj=>D.str (H.N j)) (λj=>D.str (H.N j)) (sd H.hsD::sd (.str (H.kn k))::sd (dK H.meT)::sd (.dct (R.map λx=>(Sum.inr x:Hb)) (R.map λ_=>D.bl true))::δ) H.drs none (λj hj=>by
   have hj':=wb.mp hj;refine⟨?_,λ_=>rfl⟩
   have q1:Cc 4 (sd (.str (H.N j))::sd H.hsD::sd (.str (H.kn k))::sd (dK H.meT)::sd (.dct (R.map λx=>(Sum.inr x:Hb)) (R.map λ_=>D.bl true))::δ)=.ok (rK R):=by
    rw[<-LD];rfl
   have q2:Js (.str (H.N j)) (rK R)=.ok (.bl (H.ob k j)):=by
    show Res.ok (D.bl (Fc (rK R) (.inr (H.N j))).isSome)=_;rw[Kx];congr 2;rw[kh,decide_eq_true_eq,inR' j hj']
   unfold Wg
   simp only[tR,Ey,Qa,Res.bind_ok,q1,q2,Wa])
 refine Jb _ _ _ _ ?_ rfl;have sq:Oc (sL H.drs H.N)=.ok (H.drs.map λj=>D.str (H.N j)):=rfl;have fz:KH 3 (Vi H.hsD (.str (H.kn k)) (.dct (H.meT.map (·.1)) (H.meT.map (·.2))) R [] y)= [sd H.hsD,sd (.str (H.kn k)),sd (dK H.meT),sd (.dct (R.map λx=>(Sum.inr x:Hb)) (R.map λ_=>D.bl true)),some (.o []),y]:=rfl;unfold Zf Kr
 walk_at "s"
 simp only[ba,rd,ve,b1,VP,De,Me,Aa,Ra,Sa,Bb,Vb,Oe,Km,Dp,Va,Gb,Res.bind_ok,f2,f3,f4,c1,dc,Eb,Fb,zb,Sc,qf,if_true,reduceIte];change Uy (Em (Pe Fe He 100000 (Vi H.hsD (.str (H.kn k)) (.dct (H.meT.map (·.1)) (H.meT.map (·.2))) [] [H.kn k] none)) _)=_;rw[wh,Fb];unfold NA;rw[fz];simp only[Tb,De,Rb,b1,Va,Res.bind_ok,f2,sq,cm,Eb,Lb];rfl
theorem Rz(H:Hs)(o:H.Ok):La 1 Be [H.grD]=.ok (sL H.ks H.kn):=by
 have hl:H.ks.length<=1000:=by unfold Hs.ks;rw[lc];have:=o.hn;omega
 have cm:Yc 2 (Xb 2 (Ka (Za 0) (Ka (Za 1) Wb))) (λ_=>.ok true) Ak [sd H.grD] (H.ks.map λk=>D.tup [.str (H.kn k),sL (H.th k) H.N])=.ok (H.ks.map λk=>D.str (H.kn k)):=by
  refine Ac ?_ (by rw[la];omega);have:=Dj (gc:=λ_=>.ok true) (fe:=Ak) (λ_=>true) (λk=>D.str (H.kn k)) (λk=>sL (H.th k) H.N) (λk=>D.str (H.kn k)) [sd H.grD] H.ks none none (λk _=>⟨rfl,λ_=>rfl⟩);rw[filter_all]at this
  exact this
 have sq:Oc H.grD=.ok (H.ks.map λk=>D.tup [.str (H.kn k),sL (H.th k) H.N]):=rfl;refine Jb _ _ _ _ ?_ rfl;unfold Be Nr
 walk_at "s"
 simp only[b1,De,Rb,Tb,Va,Res.bind_ok,sq,cm,Eb,Lb];rfl
theorem OM(H:Hs):H.ks.Nodup:=gu
theorem MF(H:Hs)(k:Nat):∀ a∈H.own k,a∈H.drs:=λa ha=>(lm.mp ha).1
theorem LF(H:Hs)(k:Nat)(hj:j∈H.drs):decide (j∈H.own k)=H.ob k j:=by
 rw[kh,decide_eq_true_eq];unfold Hs.own;rw[lm];exact⟨λz=>z.2,λz=>⟨hj,z⟩⟩
theorem CP(H:Hs)(o:H.Ok):La 1 Bg [H.hsD]=.ok (dK H.spT):=by
 have f4:Fj "House" "grants" H.hsD=.ok H.grD:=YZ H.ru (sL H.drs H.N) H.wgD H.grD;have nms:=Rz H o
 have cm:Yc 1 (Za 0) (λ_=>.ok true) Zg [sd H.hsD] (H.ks.map λk=>D.str (H.kn k))=.ok (H.ks.map λk=>D.tup [.str (H.kn k),sL (H.own k) H.N]):=by
  refine Ac ?_ (by rw[la];unfold Hs.ks;rw[lc];have:=o.hn;omega)
  have:=Vd (gc:=λ_=>.ok true) (fe:=Zg) (λ_=>true) (λk=>D.str (H.kn k)) (λk=>D.tup [.str (H.kn k),sL (H.own k) H.N]) [sd H.hsD] H.ks none (λk hk=>⟨rfl,λ_=>by
   have e:=QK H o (wb.mp hk);unfold Zg
   simp only[b1,Ef,Aa,Ra,Sa,Va,Gb,Res.bind_ok,e,ba,rd,ve,qf,if_true,reduceIte]⟩)
  rw[filter_all]at this
  exact this
 have dc:=Pq (g:=λk=>sL (H.own k) H.N) (MC H o) (OM H);have sq:Oc (sL H.ks H.kn)=.ok (H.ks.map λk=>D.str (H.kn k)):=rfl;refine Jb _ _ _ _ ?_ rfl;unfold Bg Qr
 walk_at "s"
 simp only[b1,De,Rb,Aa,Ra,Sa,Tb,Va,Res.bind_ok,f4,nms,sq,cm,dc,Eb,Lb];rfl
theorem US(H:Hs)(o:H.Ok):La 1 Oh [H.hsD]=.ok (dK H.heT):=by
 have f2:Fj "House" "doors" H.hsD=.ok (sL H.drs H.N):=X5 H.ru (sL H.drs H.N) H.wgD H.grD;have sp:=CP H o;have pr:=Ct H.kn (λk=>sL (H.own k) H.N) H.ks
 have cm:Yc 1 (Za 0) (λ_=>.ok true) Ii [sd H.hsD,sd (dK H.spT)] (H.drs.map λj=>D.str (H.N j))=.ok (H.drs.map λj=>D.tup [.str (H.N j),sL (H.hold j) H.kn]):=by
  refine Ac ?_ (by rw[la];unfold Hs.drs;rw[lc];have:=o.hm;omega)
  have:=Vd (gc:=λ_=>.ok true) (fe:=Ii) (λ_=>true) (λj=>D.str (H.N j)) (λj=>D.tup [.str (H.N j),sL (H.hold j) H.kn]) [sd H.hsD,sd (dK H.spT)] H.drs none (λj hj=>⟨rfl,λ_=>by
   have cm2:Yc 2 (Xb 2 (Ka (Za 0) (Ka (Za 1) Wb))) Gi Hl [sd (.str (H.N j)),sd H.hsD,sd (dK H.spT)] (H.ks.map λk=>D.tup [.str (H.kn k),sL (H.own k) H.N])=.ok ((H.hold j).map λk=>D.str (H.kn k)):=by
    refine Ac ?_ (by rw[la];unfold Hs.ks;rw[lc];have:=o.hn;omega)
    exact Dj (gc:=Gi) (fe:=Hl) (λk=>H.ob k j) (λk=>D.str (H.kn k)) (λk=>sL (H.own k) H.N) (λk=>D.str (H.kn k)) [sd (.str (H.N j)),sd H.hsD,sd (dK H.spT)] H.ks none none (λk hk=>⟨by
     have e:=JC (Fw H o) (MF H k) hj;rw[LF H k hj]at e
     unfold Gi
     simp only[tR,b2,Qa,Ya,Res.bind_ok,e,Wa],λ_=>rfl⟩)
   unfold Ii;simp only[b1,Dy,De,Rb,Ef,Aa,Ra,Sa,Va,Gb,Res.bind_ok,Hs.spT,pr,cm2,ba,rd,ve,qf,if_true,reduceIte];rw[show dK (tK H.ks H.kn λk=>sL (H.own k) H.N)=dK H.spT from rfl,cm2];simp only[Res.bind_ok,Sa,Ef,ba,rd,ve,qf,if_true,reduceIte]
   rfl⟩)
  rw[filter_all]at this
  exact this
 have dc:=Pq (g:=λj=>sL (H.hold j) H.kn) (Fw H o) (gu (n:=H.m));have sq:Oc (sL H.drs H.N)=.ok (H.drs.map λj=>D.str (H.N j)):=rfl;refine Jb _ _ _ _ ?_ rfl;unfold Oh Qu
 walk_at "s"
 simp only[b1,De,Rb,Aa,Ra,Sa,Bb,Vb,Tb,Va,Res.bind_ok,sp,f2,sq,cm,Eb,Fb,Lb,zb,Sc];change Uy (Kj (Qg (.lst (H.drs.map λj=>D.tup [.str (H.N j),sL (H.hold j) H.kn]))) _)=_;rw[dc];rfl
theorem A8(X Q:xa)(m ct:Nat):OP X Q m ct=([(nm X Q 40,((qb m).drop ct).map (nm X Q)),(nm X Q 41,[nm X Q 40,nm X Q 0])]:List (xa×List xa)).map GB:=by
 have e:(((qb m).drop ct).map (nm X Q)).map D.str=((qb m).drop ct).map λk=>D.str (nm X Q k):=by rw[xh];rfl
 show _= [D.tup [.str (nm X Q 40),.lst ((((qb m).drop ct).map (nm X Q)).map D.str)],D.tup [.str (nm X Q 41),.lst [.str (nm X Q 40),.str (nm X Q 0)]]]
 rw[e];rfl
theorem B6(X Q:xa)(th:Nat->List Nat)(n:Nat):Aq X Q th n=((qb n).map λk=>(nm X Q (20+k),(th k).map (nm X Q))).map GB:=by
 unfold Aq;rw[xh];refine qi λk _=>?_;show D.tup [.str (nm X Q (20+k)),sL (th k) (nm X Q)]=D.tup [.str (nm X Q (20+k)),.lst (((th k).map (nm X Q)).map D.str)];unfold sL;rw[xh];rfl
theorem PL(H:Hs)(o:H.Ok):La 4 (Ss 4 "House" Jg) [H.ru,.lst (Qq H.X H.Q H.m),.lst (OP H.X H.Q H.m H.ct),.lst (Aq H.X H.Q H.th H.n)]=.ok H.hsD:=by
 have:=ZT H.ru (Qq H.X H.Q H.m) [(nm H.X H.Q 40,((qb H.m).drop H.ct).map (nm H.X H.Q)),(nm H.X H.Q 41,[nm H.X H.Q 40,nm H.X H.Q 0])] ((qb H.n).map λk=>(nm H.X H.Q (20+k),(H.th k).map (nm H.X H.Q))) (by show 2<=1000;decide) (by rw[la,lc];have:=o.hn;omega);rw[<-A8,<-B6]at this
 exact this
theorem XJ(n:Nat)(m:List D->Res D)(ds:List D)(d:D)(h:La n m ds=.ok d):Hm n m ds=.ok d:=by
 unfold La at h;unfold Hm;split at h
 .rename_i hn;rw[if_pos hn];cases hm:m ds with
  |ok x=>rw[hm]at h;exact h
  |ex c fs=>rw[hm]at h;cases h
  |stuck=>rw[hm]at h;cases h
 .cases h
theorem TM(p d h s:Int)(cs:List (List Int))(hp:0<=p)(hp2:p<=100)(hc:∀ c∈cs,c.length=p.toNat)(hn:cs.length<64)(hf:∀ i,i<p.toNat->((sortI (cs.map λc=>c.getD i 0)).length:Int)<=h):
  La 2 Ag [Br p d h s,.lst (cs.map pD)]=.ok (bD (Xi p.toNat cs)):=by
 have pl:La 1 Bf [Br p d h s]=.ok (.int p):=by
  refine Jb _ _ _ _ ?_ rfl;unfold Bf Np;simp only[Pd,Sb,ac,fk,ba,rd,lg,xg,ve,qj,kc,kD,b2,Tb,Qa,Res.bind_ok,show Qe (Br p d h s) (.int 0)=.ok (.int p) from rfl,Eb,Lb]
 have hg:La 1 Je [Br p d h s]=.ok (.int h):=by
  refine Jb _ _ _ _ ?_ rfl;unfold Je Qn;simp only[Pd,Sb,ac,fk,ba,rd,lg,xg,ve,qj,kc,kD,b2,Tb,Qa,Res.bind_ok,show Qe (Br p d h s) (.int 2)=.ok (.int h) from rfl,Eb,Lb]
 have rg:=ND p hp (by omega);have hn2:p.toNat<=100:=by omega
 generalize p.toNat=n at*;generalize Br p d h s=RU at*
 obtain⟨δ2,f,x,y,rfl⟩:=Xn (t:=Za 3) (body:=Ck) (λi δ=>∃ (x y:Option S),δ= [sd (RU),sd ((.lst (cs.map pD))),some (.o ((Xi i cs).map pD)),x,y]) (Nj 0 n) [sd (RU),sd ((.lst (cs.map pD))),some (.o []),none,none] (λi e δ he hI=>by
  obtain⟨x,y,rfl⟩:=hI;obtain⟨hi,rfl⟩:=Kt he;rw[Int.zero_add]
  have cm:=Ac (n:=1) (c:=λ_=>.ok true) (fe:=Yg) (δ:= [sd (RU),sd ((.lst (cs.map pD))),some (.o ((Xi i cs).map pD)),sd ((.int (i:Int))),y]) (Py (fe:=Yg) (λd=>match d with| .tup ds=>ds.getD i .non|_=>.non) [sd (RU),sd ((.lst (cs.map pD))),some (.o ((Xi i cs).map pD)),sd ((.int (i:Int))),y] (cs.map pD) none (λd hd=>by
   obtain⟨c,hc1,rfl⟩:=jf.mp hd;have e1:=pD_at c i (by rw[hc c hc1];exact hi);unfold Yg;simp only[b2,Qa,Ya,Res.bind_ok,e1];unfold pD;dsimp only;rw[ub,ub,wc,oa (show i<c.length by rw[hc c hc1];exact hi)]
   rfl)) (by rw[la];omega)
  have em:(cs.map pD).map (λd=>match d with| .tup ds=>ds.getD i .non|_=>.non)=(cs.map λc=>c.getD i 0).map D.int:=by
   rw[xh,xh];refine qi λc hc1=>?_;show(c.map D.int).getD i .non=.int (c.getD i 0);rw[ub,ub,wc,oa (show i<c.length by rw[hc c hc1];exact hi)];rfl
  rw[em]at cm
  have so:=HW (cs.map λc=>c.getD i 0) (by rw[la];exact hn);have hfi:=hf i hi;have dt:decide (h<(((sortI (cs.map λc=>c.getD i 0)).map D.int).length:Int))=false:=decide_eq_false (by rw[la];omega);have ap:=Ln 2 [sd (RU),sd ((.lst (cs.map pD))),some (.o ((Xi i cs).map pD)),sd ((.int (i:Int))),sd ((pD (sortI (cs.map λc=>c.getD i 0))))] ((Xi i cs).map pD) (pD (sortI (cs.map λc=>c.getD i 0))) rfl (by rw[la,Ao];omega)
  have es:(Xi (i+1) cs).map pD=(Xi i cs).map pD++ [pD (sortI (cs.map λc=>c.getD i 0))]:=by
   unfold Xi;rw[ut,kg,kg,yl,yl]
  refine⟨_,rfl,[sd (RU),sd ((.lst (cs.map pD))),some (.o ((Xi (i+1) cs).map pD)),sd ((.int (i:Int))),sd ((pD (sortI (cs.map λc=>c.getD i 0))))],.inl ?_,_,_,rfl⟩;rw[es];have tp:Bj (.lst ((sortI (cs.map λc=>c.getD i 0)).map D.int))=.ok (pD (sortI (cs.map λc=>c.getD i 0))):=rfl;have ln:Dm (pD (sortI (cs.map λc=>c.getD i 0)))=.ok (.int ((sortI (cs.map λc=>c.getD i 0)).map D.int).length):=rfl;clear es em hfi;generalize pD (sortI (cs.map λc=>c.getD i 0))=PV at*;generalize (sortI (cs.map λc=>c.getD i 0)).map D.int=V at*;generalize (cs.map λc=>c.getD i 0).map D.int=V0 at*;unfold Ck;simp only[zb,Sc,Bb,Vb,Of,Ho,tR,b1,b2,De,Rb,Aa,Ra,Sa,Va,Gb,Qa,Ya,Res.bind_ok,Aj,cm,so,tp,ln,Eb,Fb,hg,Ll,dt,Wa,Ub,uc,if_false,reduceIte,ap]
  ) ⟨none,none,rfl⟩
 rw[Fo]at f
 refine Jb _ _ _ _ ?_ rfl;have tp:Bj (.lst ((Xi n cs).map pD))=.ok (bD (Xi n cs)):=rfl;clear hf hc;generalize bD (Xi n cs)=OUT at*;generalize (Xi n cs).map pD=V at*;generalize cs.map pD=C at*;unfold Ag Mr;simp only[Pd,Sb,ac,fk,ba,rd,lg,xg,ve,qj,kc,kD,b1,Me,Aa,Ra,Sa,Bb,Oe,Df,Tb,Va,Gb,Qa,Nd,Ya,Res.bind_ok,pl,rg,f,tp,Eb,Fb,Lb,zb,Sc,vh,if_true,reduceIte]
theorem Yt(p d h s:Int)(door:xa)(cs:List (List Int))(hp:0<=p)(hp2:p<=100)(hc:∀ c∈cs,c.length=p.toNat)(hn:cs.length<64)(hf:∀ i,i<p.toNat->((sortI (cs.map λc=>c.getD i 0)).length:Int)<=h):
  La 3 Ic [Br p d h s,.str door,.lst (cs.map pD)]=.ok (if cs= [] then .non else bD (Xi p.toNat cs)):=by
 have e1:=XJ _ _ _ _ (TM p d h s cs hp hp2 hc hn hf)
 have e0:decide (((cs.map pD).length:Int)=0)=decide (cs= []):=by
  rw[la];cases cs with
  |nil=>rfl
  |cons c r=>
   rw[decide_eq_false (by simp:¬ (c::r:List (List Int))= [])];exact decide_eq_false (by simp only[ba];omega)
 refine Jb _ _ _ _ ?_ rfl;generalize Br p d h s=RU at*;have e0':(((cs.map pD).length:Int)==0)=decide (cs= []):=by rw[<-e0];rfl
 by_cases hz:cs= []
 .rw[decide_eq_true hz]at e0'
  rw[if_pos hz];clear hz e0;generalize cs.map pD=C at*;unfold Ic Sj;simp only[Pd,Sb,ac,fk,ba,rd,lg,xg,ve,qj,kc,kD,tR,b1,b2,Bb,Of,Tb,Qa,Ya,Res.bind_ok,Yh,Cd,e0',Wa,Ub,Eb,Le,Lb,if_true,reduceIte]
 .rw[decide_eq_false hz]at e0'
  rw[if_neg hz];clear hz e0;generalize bD (Xi p.toNat cs)=OUT at*;generalize cs.map pD=C at*;unfold Ic Sj;simp only[Pd,Sb,ac,fk,ba,rd,lg,xg,ve,qj,kc,kD,tR,b1,b2,Aa,Ra,Sa,Bb,Of,BJ,J4,Eh,Tb,Va,Gb,Qa,Ya,Res.bind_ok,Yh,Cd,e0',Wa,Ub,e1,Eb,Fb,Le,Lb,uc,if_false,reduceIte]
def Hs.plT(H:Hs):List (Hb×D):=tK H.po H.kn λk=>pD (H.cut k)
def Hs.hp(H:Hs)(j:Nat):List Nat:=H.ks.filter λk=>H.ob k j&&decide (k<H.pn)
def Hs.C(H:Hs)(j:Nat):List (List Int):=(H.hp j).map H.cut
def Hs.lb(H:Hs)(j:Nat):List (List Int):=Xi H.p.toNat (H.C j)
def Hs.baV(H:Hs)(j:Nat):D:=if H.C j= [] then .non else bD (H.lb j)
def Hs.baT(H:Hs):List (Hb×D):=tK H.drs H.N H.baV
theorem ID(H:Hs)(o:H.Ok):Ig H.po H.kn:=Pw H λk hk=>by have:=(o.po2 k).mp hk;have:=o.hn;have:=o.pn;omega
theorem UL(H:Hs)(o:H.Ok)(hk:k<H.n):Js (.str (H.kn k)) H.plT=.ok (.bl (decide (k<H.pn))):=by
 have h1:=o.hn;have h2:=o.pn;by_cases h:k<H.pn
 .rw[decide_eq_true h];exact G6 (ID H o) ((o.po2 k).mpr h)
 .rw[decide_eq_false h];show Res.ok (D.bl (Fc H.plT (.inr (H.kn k))).isSome)=_;unfold Hs.plT
  rw[Dr λa ha e=>by
   have ha':=(o.po2 a).mp ha;have:=Bn (X:=H.X) (Q:=H.Q) (j:=20+a) (k:=20+k) (by omega) (by omega) e
   omega]
  rfl
theorem Vo(H:Hs)(o:H.Ok)(hk:k<H.pn):Se H.plT (.str (H.kn k))=.ok (pD (H.cut k)):=DC (ID H o) ((o.po2 k).mpr hk)
theorem Ds(H:Hs):k∈H.hold j↔k<H.n/\H.ob k j=true:=by
 unfold Hs.hold Hs.ks;rw[lm,wb]
theorem Es(H:Hs):k∈H.hp j↔k<H.n/\H.ob k j=true/\k<H.pn:=by
 unfold Hs.hp Hs.ks;rw[lm,wb,ze,decide_eq_true_eq]
theorem BF(H:Hs)(j:Nat):(H.hold j).filter (λk=>decide (k<H.pn))=H.hp j:=by
 unfold Hs.hold Hs.hp;rw[List.filter_filter];exact aq λk _=>Bool.and_comm _ _
theorem Lw(H:Hs)(o:H.Ok)(j:Nat):(H.hp j).length<=19:=by
 have:=zl (λk=>H.ob k j&&decide (k<H.pn)) H.ks;have h2:H.ks.length=H.n:=lc;have:=o.hn;unfold Hs.hp;omega
theorem Bz(H:Hs)(o:H.Ok)(j:Nat):(H.hold j).length<=19:=by
 have:=zl (λk=>H.ob k j) H.ks;have h2:H.ks.length=H.n:=lc;have:=o.hn;unfold Hs.hold;omega
theorem Gr(H:Hs)(o:H.Ok)(j:Nat):∀ c∈H.C j,c.length=H.p.toNat:=λc hc=>by
 obtain⟨k,hk,rfl⟩:=jf.mp hc;exact o.cl k (Es H |>.mp hk).2.2
theorem KY(H:Hs)(j:Nat):cD (H.C j)=.lst ((H.hp j).map λk=>pD (H.cut k)):=by
 unfold cD Hs.C;rw[xh];rfl
theorem MP{d:Int}:∀ {l:List Int} {a:Int},Up l->(∀ x∈l,a<=x/\x<d)->a<=d->(l.length:Int)<=d-a
 | [],a,_,_,h=>by rw[rd];omega
 |x::l,a,hu,hb,h=>by
  have hx:=hb x ib;have:=MP (a:=x+1) (ji.mp hu).2 (λy hy=>⟨by have:=(ji.mp hu).1 y hy;omega,(hb y (ua _ hy)).2⟩) (by omega);rw[ba];omega
theorem B5(H:Hs)(o:H.Ok)(hd:0<=H.d)(j i:Nat)(hi:i<H.p.toNat):((sortI ((H.C j).map λc=>c.getD i 0)).length:Int)<=H.h:=by
 have:=MP (d:=H.d) (a:=0) (Ut ((H.C j).map λc=>c.getD i 0)) (λx hx=>by
  obtain⟨c,hc,rfl⟩:=jf.mp (Zl.mp hx);have hl:=Gr H o j c hc;obtain⟨k,hk,rfl⟩:=jf.mp hc
  exact o.cb k (Es H |>.mp hk).2.2 _ (getD_mem 0 (by omega))) hd
 have:=o.dh;omega
theorem SQ(H:Hs)(o:H.Ok)(hd:0<=H.d):La 3 Ie [H.ru,dK H.heT,dK H.plT]=.ok (dK H.baT):=by
 have pr:=Ct H.N (λj=>sL (H.hold j) H.kn) H.drs;change Cn (dK H.heT)=_ at pr;have hm:=o.hm
 obtain⟨δ2,f,x,y,rfl⟩:=Xn (t:=Xb 2 (Ka (Za 4) (Ka (Za 5) Wb))) (body:=Nl) (λi δ=>∃ x y:Option S,δ= [sd H.ru,sd (dK H.heT),sd (dK H.plT),sQ (tK (qb i) H.N H.baV),x,y])
  (H.drs.map λj=>D.tup [.str (H.N j),sL (H.hold j) H.kn]) [sd H.ru,sd (dK H.heT),sd (dK H.plT),some (.q [] []),none,none] (λi d δ hd' hI=>by
   obtain⟨x,y,rfl⟩:=hI;rw[wc]at hd'
   obtain⟨j,hj,rfl⟩:=jh.mp hd';have e2:(qb H.m)[i]? =some j:=hj;have hi':i<H.m:=by have:=(ya.mp e2).1;rw[lc]at this;exact this
   rw[jg hi']at e2
   have this:j=i:=(yb e2).symm;subst this;obtain⟨δ0,hδ⟩:∃ δ0:Ca,δ0= [sd H.ru,sd (dK H.heT),sd (dK H.plT),sQ (tK (qb j) H.N H.baV),sd (.str (H.N j)),sd (sL (H.hold j) H.kn)]:=⟨_,rfl⟩
   have t0:Xb 2 (Ka (Za 4) (Ka (Za 5) Wb)) (D.tup [.str (H.N j),sL (H.hold j) H.kn]) [sd H.ru,sd (dK H.heT),sd (dK H.plT),sQ (tK (qb j) H.N H.baV),x,y]=.ok δ0:=by rw[hδ];rfl
   have s0:Ea 0 δ0=.ok H.ru:=by rw[hδ];rfl
   have s4:Ea 4 δ0=.ok (.str (H.N j)):=by rw[hδ];rfl
   have s5:Ea 5 δ0=.ok (sL (H.hold j) H.kn):=by rw[hδ];rfl
   have s2:∀ d,Cc 3 (sd d::δ0)=.ok H.plT:=λd=>by rw[hδ];simp only[Nh,Qf]
   have q3:δ0[3]? =some (sQ (tK (qb j) H.N H.baV)):=by rw[hδ];rfl
   have st:∀ v,δ0.set 3 v= [sd H.ru,sd (dK H.heT),sd (dK H.plT),v,sd (.str (H.N j)),sd (sL (H.hold j) H.kn)]:=λv=>by rw[hδ];rfl
   clear hδ
   have cm:Yc 1 (Za 0) Td Wd δ0 ((H.hold j).map λk=>D.str (H.kn k))=.ok ((H.hp j).map λk=>pD (H.cut k)):=by
    refine Ac ?_ (by rw[la];have:=Bz H o j;omega)
    have:=Vd (gc:=Td) (fe:=Wd) (λk=>decide (k<H.pn)) (λk=>D.str (H.kn k)) (λk=>pD (H.cut k)) δ0 (H.hold j) none (λk hk=>by
     have e1:=UL H o (Ds H |>.mp hk).1;refine⟨?_,λhp=>?_⟩
     .unfold Td;simp only[tR,Ey,Qa,s2,Res.bind_ok,e1,Wa]
     .have e2:=Vo H o (of_decide_eq_true hp);unfold Wd
      simp only[Mo,Qa,s2,Res.bind_ok,e2])
    rw[BF]at this
    exact this
   have sq:Oc (sL (H.hold j) H.kn)=.ok ((H.hold j).map λk=>D.str (H.kn k)):=rfl;have bf:=Yt H.p H.d H.h H.s (H.N j) (H.C j) (by have:=o.hp;omega) o.hp2 (Gr H o j) (by unfold Hs.C;rw[la];have:=Lw H o j;omega) (B5 H o hd j);rw[show D.lst ((H.C j).map pD)=_ from KY H j]at bf
   have bf':La 3 Ic [H.ru,.str (H.N j),.lst ((H.hp j).map λk=>pD (H.cut k))]=.ok (H.baV j):=bf
   have fv:(b1 (La 3 Ic) (Aa (Ea 0) (Aa (Ea 4) (Aa (De (Rb 1 (Za 0) Td Wd (b1 Oc (Ea 5)))) Ra)))) δ0=.ok (H.baV j):=by
    simp only[b1,De,Rb,Aa,Ra,Sa,s0,s4,s5,Res.bind_ok,sq,cm,bf']
   have pt:=QF 3 δ0 (tK (qb j) H.N H.baV) (H.N j) (H.baV j) (Ea 4) _ q3 (by unfold tK;rw[la,lc];omega) fv s4
   rw[JP j λk hk=>λe=>by
    have:=Bn (X:=H.X) (Q:=H.Q) (j:=k) (k:=j) (by omega) (by omega) e
    omega,st]at pt
   exact⟨δ0,t0,_,.inl pt,_,_,rfl⟩) ⟨none,none,rfl⟩
 rw[la,show H.drs.length=H.m from lc]at f
 refine Jb _ _ _ _ ?_ rfl;have fz:KH 3 [sd H.ru,sd (dK H.heT),sd (dK H.plT),sQ (tK (qb H.m) H.N H.baV),x,y]= [sd H.ru,sd (dK H.heT),sd (dK H.plT),sd (dK H.baT),x,y]:=rfl;unfold Ie Pn
 walk_at "s"
 simp only[Dy,Bb,Km,Df,NA,Tb,Va,Gb,Qa,Ya,Res.bind_ok,pr,f,fz,Eb,Fb,Lb,zb,Sc]
theorem Gj{t:D->Ca->Res Ca}{body:Ca->Out}(I:Nat->Ca->Prop)(u:Nat->D)(P:Nat->Bool)(out:Nat->Out)(hs:∀ k,(∃ d,out k=.rt d)\/∃ c fs,out k=.ex c fs):
  ∀ (L:List Nat) (i0:Nat) (δ:Ca),(∀ i k δ,L[i]? =some k->I (i0+i) δ->∃ δ',t (u k) δ= .ok δ'/\((P k=false/\∃ δ2,body δ'=.nx δ2/\I (i0+i+1) δ2)\/(P k=true/\body δ'=out k)))->I i0 δ->
  (∃ k,L.find? P=some k/\Te t body (L.map u) δ=out k)\/(L.find? P=none/\∃ δ2,Te t body (L.map u) δ= .nx δ2/\I (i0+L.length) δ2)
 | [],i0,δ,_,h=>.inr ⟨rfl,δ,rfl,h⟩
 |k::L,i0,δ,hb,h=>by
  obtain⟨δ',e1,hh⟩:=hb 0 k δ rfl h;rw[ac,To (u k) (L.map u) δ δ' e1];rcases hh with⟨p0,δ2,e2,h2⟩|⟨p0,e2⟩
  .rw[e2,List.find?_cons_of_neg (by rw[p0];simp)]
   have:=Gj I u P out hs L (i0+1) δ2 (λi k' δ hk hI=>by
    have:=hb (i+1) k' δ (by simpa using hk) (by rw[show i0+(i+1)=i0+1+i by omega];exact hI);rw[show i0+(i+1)+1=i0+1+i+1 by omega]at this
    exact this) h2
   rw[ba,show i0+(L.length+1)=i0+1+L.length by omega];exact this
  .rw[e2,List.find?_cons_of_pos p0];refine .inl ⟨k,rfl,?_⟩;rcases hs k with⟨d,e⟩|⟨c,fs,e⟩<;> · rw[e]
theorem NM(H:Hs)(o:H.Ok):La 2 Ke [H.hsD,dK H.plT]=.ok (sL (qb H.pn) H.kn):=by
 have f4:Fj "House" "grants" H.hsD=.ok H.grD:=YZ H.ru (sL H.drs H.N) H.wgD H.grD;have nms:=Rz H o
 have ef:H.ks.filter (λk=>decide (k<H.pn))=qb H.pn:=by
  have:=o.pn;unfold Hs.ks;obtain⟨e,he⟩:∃ e,H.n=H.pn+e:=⟨H.n-H.pn,by omega⟩
  rw[he];clear he this
  induction e with
  |zero=>rw[Nat.add_zero,List.filter_eq_self];intro k hk;exact decide_eq_true (wb.mp hk)
  |succ e ih=>rw[<-Nat.add_assoc,ut,List.filter_append,ih,gf (by simp),List.filter_nil,bj]
 have cm:Yc 1 (Za 0) Gf Uh [sd H.hsD,sd (dK H.plT)] (H.ks.map λk=>D.str (H.kn k))=.ok ((qb H.pn).map λk=>D.str (H.kn k)):=by
  refine Ac ?_ (by rw[la];unfold Hs.ks;rw[lc];have:=o.hn;omega)
  have:=Vd (gc:=Gf) (fe:=Uh) (λk=>decide (k<H.pn)) (λk=>D.str (H.kn k)) (λk=>D.str (H.kn k)) [sd H.hsD,sd (dK H.plT)] H.ks none (λk hk=>by
   have e1:=UL H o (wb.mp hk);refine⟨?_,λ_=>rfl⟩;unfold Gf
   simp only[tR,Ey,Qa,Nh,Qf,Res.bind_ok,e1,Wa])
  rw[ef]at this
  exact this
 have sq:Oc (sL H.ks H.kn)=.ok (H.ks.map λk=>D.str (H.kn k)):=rfl;refine Jb _ _ _ _ ?_ rfl;unfold Ke Rn;simp only[Pd,Sb,ac,fk,ba,rd,lg,xg,ve,qj,kc,b1,De,Rb,Aa,Ra,Sa,Tb,Va,Res.bind_ok,f4,nms,sq,cm,Eb,Lb];rfl
namespace O13
theorem inB_ints(x:Int):∀ q:List Int,HX (.int x) (q.map D.int)=decide (x∈q)
 | []=>rfl
 |y::q=>by
  have ih:=inB_ints x q;unfold HX at ih ⊢;rw[ac,any_cons,ih];by_cases e:y=x
  .subst e;simp[Tf]
  .have:x≠y:=λz=>e z.symm;simp[Tf,e,this]
theorem flat_ints(q:List Int):(q.map D.int).all Mc=true:=by
 rw[Uf];intro d hd;obtain⟨i,_,rfl⟩:=jf.mp hd;rfl
theorem II(x:Int)(q:List Int):Lq (.int x) (pD q)=.ok (.bl (!decide (x∈q))):=by
 show(if(Mc (.int x)&&(q.map D.int).all Mc)=true then _ else _)=_;rw[flat_ints,inB_ints];rfl
theorem pD_at(cs:List Int)(i:Nat)(h:i<cs.length):Qe (pD cs) (.int (i:Int))=.ok (.int (cs.getD i 0)):=by
 refine HM _ _ _ (Ei (by omega) ?_);rw[show((i:Int)).toNat=i by omega,wc,oa h,ub,oa h];rfl
def okAt(B:List (List Int))(cs:List Int)(i:Nat):Bool:=decide (cs.getD i 0∈B.getD i [])
theorem stopped_eq(B:List (List Int))(cs:List Int)(hl:cs.length=B.length)(hB:B.length<=1000):∃ x,La 2 Qc [bD B,pD cs]=.ok x/\E5 (okAt B cs) B.length x:=by
 have he:Xd [bD B]=.ok (Od 0 (B.map pD)):=rfl
 have hs:=Xm (t:=Xb 2 (Ka (Za 2) (Ka (Za 3) Wb))) (body:=Mf) (λ_ δ=>∃ y z,δ= [some (.d (bD B)),some (.d (pD cs)),y,z]) (okAt B cs) (λi=>.int i) (Od 0 (B.map pD)) [some (.d (bD B)),some (.d (pD cs)),none,none] (λi d δ hd hI=>by
  obtain⟨y,z,rfl⟩:=hI;obtain⟨x,hx,rfl⟩:=Yf hd;rw[wc]at hx
  obtain⟨q,hq,rfl⟩:=jh.mp hx;have hi:=(ya.mp hq).1;have eq:B.getD i []=q:=by rw[ub,hq];rfl
  have e1:=pD_at cs i (by omega);have e2:=II (cs.getD i 0) q;rw[zp];refine⟨_,rfl,?_⟩;simp only[zb,Sc];unfold okAt;rw[eq];cases hm:decide (cs.getD i 0∈q) with
  |true=>
   rw[hm]at e2
   refine .inl ⟨rfl,[some (.d (bD B)),some (.d (pD cs)),some (.d (.int (i:Int))),some (.d (pD q))],.inl ?_,_,_,rfl⟩;clear hm;unfold Mf
   walk_at "ev*"
  |false=>
   rw[hm]at e2
   refine .inr ⟨rfl,?_⟩;clear hm;unfold Mf
   walk_at "ev*") ⟨none,none,rfl⟩
 rw[Ge,la]at hs
 rcases hs with⟨δ2,f,⟨y,z,rfl⟩,ho⟩|⟨i,hi,oi,bi,f⟩
 .refine⟨.non,Jb _ _ _ _ ?_ rfl,.inl ⟨rfl,ho⟩⟩;clear ho;unfold Qc Tj
  walk_at "ev*"
 .refine⟨.int i,Jb _ _ _ _ ?_ rfl,.inr ⟨i,hi,oi,bi,rfl⟩⟩;clear oi bi hi;unfold Qc Tj
  walk_at "ev*"
theorem opens_eq(b c x:D)(h:La 2 Qc [b,c]=.ok x):La 2 Af [b,c]=Yn x:=by
 have e:∃ k,Yn x=.ok (.bl k):=by cases x<;>exact⟨_,rfl⟩
 obtain⟨k,hk⟩:=e;rw[hk];refine Jb _ _ _ _ ?_ rfl;unfold Af Pr
 walk_at "ev*"
end O13
def OJ(B:List (List Int))(cs:List Int):Bool:=(qb B.length).all λi=>decide (cs.getD i 0∈B.getD i [])
theorem Zw{B:List (List Int)}{cs:List Int}:OJ B cs=true↔∀ i,i<B.length->cs.getD i 0∈B.getD i []:=by
 unfold OJ;rw[Uf];constructor
 .intro h i hi;exact of_decide_eq_true (h i (wb.mpr hi))
 .intro h i hi;exact decide_eq_true (h i (wb.mp hi))
theorem WI(B:List (List Int))(cs:List Int)(hl:cs.length=B.length)(hB:B.length<=1000):La 2 Af [bD B,pD cs]=.ok (.bl (OJ B cs)):=by
 obtain⟨x,e,hf⟩:=O13.stopped_eq B cs hl hB;rw[O13.opens_eq _ _ x e];rcases hf with⟨rfl,h⟩|⟨i,hi,oi,_,rfl⟩
 .have:OJ B cs=true:=Zw.mpr λi hi=>of_decide_eq_true (h i hi);rw[this];rfl
 .have:OJ B cs=false:=by
   cases h:OJ B cs with
   |false=>rfl
   |true=>
    have:=Zw.mp h i hi;unfold O13.okAt at oi;exact absurd this (of_decide_eq_false oi)
  rw[this];rfl
theorem GK(C:List (List Int))(one:List Int)(hC:∀ q∈C,q.length=one.length)(hl:C.length<=1000)(ho:one.length<=1000):∃ x,La 2 Ze [cD C,pD one]=.ok x/\Ja0 C one one.length x:=by
 have he:Xd [pD one]=.ok (Od 0 (one.map D.int)):=rfl
 have hs:=Xm (t:=Xb 2 (Ka (Za 3) (Ka (Za 4) Wb))) (body:=Bh) (λi δ=>∃ y z u,δ= [some (.d (cD C)),some (.d (pD one)),some (.o (((qb i).map (FC C one)).map D.int)),y,z,u]) (G1 C one) (λ_=>.non) (Od 0 (one.map D.int)) [some (.d (cD C)),some (.d (pD one)),some (.o []),none,none,none] (λi d δ hd hI=>by
  obtain⟨y,z,u,rfl⟩:=hI;obtain⟨x,hx,rfl⟩:=Yf hd;rw[wc]at hx
  obtain⟨c,hc,rfl⟩:=jh.mp hx;have hi:=(ya.mp hc).1;have ec:one.getD i 0=c:=by rw[ub,hc];rfl
  rw[zp];refine⟨_,rfl,?_⟩;simp only[zb,Sc];have he2:Xd [cD C]=.ok (Od 0 (C.map pD)):=rfl
  have hcp:Yc 2 X7 Vg Xj [some (.d (cD C)),some (.d (pD one)),some (.o (((qb i).map (FC C one)).map D.int)),some (.d (.int (i:Int))),some (.d (.int c)),u] (Od 0 (C.map pD))=.ok ((al C one i).map D.int):=by
   refine Ac ?_ (by rw[Ge,la];omega);rw[Wp]
   have:=Wr (c:=Vg) (fe:=Xj) (M8 i c) (λa _=>a) [some (.d (cD C)),some (.d (pD one)),some (.o (((qb i).map (FC C one)).map D.int)),some (.d (.int (i:Int))),some (.d (.int c)),u] (Ik 0 (C.map pD)) none none (λp hp=>by
    obtain⟨q,hq,e⟩:=jf.mp (Iv hp);have hq':i<q.length:=by rw[hC q hq];exact hi
    rw[<-e];have e1:=pD_at q i hq'
    have e2:M8 i c p.1 (pD q)=(q.getD i 0==c):=by
     show(match (q.map D.int).getD i .non with| .int v=>v==c|_=>false)=_;rw[NF q i hq']
    rw[e2];refine⟨?_,rfl⟩;unfold Vg
    simp only[tR,b2,Qa,Ya,Res.bind_ok,e1,Cd,Wa])
   refine this.trans ?_;rw[GA i c C 0 λq hq=>by rw[hC q hq];exact hi];unfold al;rw[ec]
  have hlen:Dm (.lst ((al C one i).map D.int))=.ok (.int (al C one i).length):=by rw[Yh,la]
  have ap:∀ (v:D),Yv 2 [some (.d (cD C)),some (.d (pD one)),some (.o (((qb i).map (FC C one)).map D.int)),some (.d (.int (i:Int))),some (.d (.int c)),some (.o ((al C one i).map D.int))] (.ok v)=.nx [some (.d (cD C)),some (.d (pD one)),some (.o (((qb i).map (FC C one)).map D.int++ [v])),some (.d (.int (i:Int))),some (.d (.int c)),some (.o ((al C one i).map D.int))]:=λv=>Ln 2 _ _ v rfl (by simp;omega);cases hk:(al C one i).isEmpty with
  |false=>
   have z0:(((al C one i).length:Int)==0)=false:=by
    rw[beq_eq_false_iff_ne];intro z;have:al C one i= []:=wk.mp (by omega);rw[this]at hk;cases hk
   have hx:=SS _ hk;refine .inl ⟨by unfold G1;rw[hk];rfl,[some (.d (cD C)),some (.d (pD one)),some (.o (((qb (i+1)).map (FC C one)).map D.int)),some (.d (.int (i:Int))),some (.d (.int c)),some (.o ((al C one i).map D.int))],.inl ?_,_,_,_,rfl⟩;simp only[X7]at hcp;rw[ut,kg,kg];clear hk ec;unfold Bh
   walk_at "ev*"
   rfl
  |true=>
   have z0:(((al C one i).length:Int)==0)=true:=by
    rw[List.isEmpty_iff.mp hk];rfl
   refine .inr ⟨by unfold G1;rw[hk];rfl,?_⟩;simp only[X7]at hcp;clear hk ec;unfold Bh
   walk_at "ev*") ⟨none,none,none,rfl⟩
 rw[Ge,la]at hs
 rcases hs with⟨δ2,f,⟨y,z,u,rfl⟩,hok⟩|⟨i,hi,oi,_,f⟩
 .refine⟨_,Jb _ _ _ _ ?_ rfl,.inl ⟨rfl,hok⟩⟩;have r1:Tb (Ga 2) [some (.d (cD C)),some (.d (pD one)),some (.o (((qb one.length).map (FC C one)).map D.int)),y,z,u]=.rt (.lst (((qb one.length).map (FC C one)).map D.int)):=rfl;clear hok hC;unfold Ze Rm
  walk_at "ev*"
 .refine⟨.non,Jb _ _ _ _ ?_ rfl,.inr ⟨rfl,i,hi,oi⟩⟩;clear oi hi hC;unfold Ze Rm
  walk_at "ev*"
def Hs.al(H:Hs)(j k i:Nat):List Nat:=(H.hp j).filter λa=>((H.cut a).getD i 0==(H.cut k).getD i 0)
def Hs.crs(H:Hs)(j k:Nat):List Nat:=(qb H.p.toNat).map λi=>(H.al j k i).headD 0
def Hs.bad(H:Hs)(j k:Nat):Bool:= !(H.hp j).isEmpty&&(!decide (k∈H.hold j)&&OJ (H.lb j) (H.cut k))
theorem By(cut:Nat->List Int)(i:Nat)(c:Int):∀ (hs:List Nat) (k0:Nat),(MQ i c k0 (hs.map cut)).isEmpty=(hs.filter λa=>((cut a).getD i 0==c)).isEmpty/\
  ((hs.filter λa=>((cut a).getD i 0==c)).isEmpty=false->∃ ix,ix<hs.length/\(MQ i c k0 (hs.map cut)).getD 0 0=((k0+ix:Nat):Int)/\hs[ix]? =some ((hs.filter λa=>((cut a).getD i 0==c)).headD 0))
 | [],k0=>⟨rfl,λh=>by cases h⟩
 |a::hs,k0=>by
  obtain⟨h1,h2⟩:=By cut i c hs (k0+1);rw[ac,MQ];by_cases ha:((cut a).getD i 0==c)=true
  .rw[if_pos ha,we (p:=λa=>((cut a).getD i 0==c)) ha];exact⟨rfl,λ_=>⟨0,by simp,rfl,rfl⟩⟩
  .rw[if_neg ha,gf (p:=λa=>((cut a).getD i 0==c)) ha];refine⟨h1,λh=>?_⟩;obtain⟨ix,hx,e1,e2⟩:=h2 h;exact⟨ix+1,by simpa using hx,by rw[e1];congr 1;omega,by simpa using e2⟩
theorem Wv(H:Hs):a∈H.al j k i↔a∈H.hp j/\(H.cut a).getD i 0=(H.cut k).getD i 0:=by
 unfold Hs.al;rw[lm,beq_iff_eq]
theorem BD(H:Hs)(j k:Nat):OJ (H.lb j) (H.cut k)=(qb H.p.toNat).all λi=> !(H.al j k i).isEmpty:=by
 have ll:(H.lb j).length=H.p.toNat:=Ao _ _;rw[kh,Zw,ll,Uf]
 have one:∀ i,i<H.p.toNat->((H.cut k).getD i 0∈(H.lb j).getD i []↔(!(H.al j k i).isEmpty)=true):=λi hi=>by
  rw[show(H.lb j).getD i []=_ from YT _ _ _ hi,Zl];constructor
  .intro h;obtain⟨c,hc,e⟩:=jf.mp h;obtain⟨a,ha,rfl⟩:=jf.mp hc;have:a∈H.al j k i:=Wv H |>.mpr ⟨ha,e⟩
   cases hz:H.al j k i with
   |nil=>rw[hz]at this;simp at this
   |cons _ _=>rfl
  .intro h;cases hz:H.al j k i with
   |nil=>rw[hz]at h;cases h
   |cons a r=>
    have:a∈H.al j k i:=by rw[hz];exact ib
    obtain⟨h1,h2⟩:=Wv H |>.mp this
    exact jf.mpr ⟨H.cut a,sj h1,h2⟩
 constructor
 .intro h i hi;exact(one i (wb.mp hi)).mp (h i (wb.mp hi))
 .intro h i hi;exact(one i hi).mpr (h i (wb.mpr hi))
theorem ixS(f:Nat->xa)(hs:List Nat)(ix:Nat)(h:hs[ix]? =some a):Qe (sL hs f) (.int (ix:Int))=.ok (.str (f a)):=by
 refine Bq _ _ _ (Ei (by omega) ?_);rw[show((ix:Int)).toNat=ix by omega,wc,h];rfl
theorem FN(H:Hs)(o:H.Ok)(hk:k<H.pn)(hop:OJ (H.lb j) (H.cut k)=true):La 3 Wc [sL (H.hp j) H.kn,.str (H.kn k),dK H.plT]=.ok (sL (H.crs j k) H.kn):=by
 have hpl:=Lw H o j;have hp2:=o.hp2;have ck:=o.cl k hk;obtain⟨x,ex,rx⟩:=GK (H.C j) (H.cut k) (λq hq=>by rw[Gr H o j q hq,ck]) (by unfold Hs.C;rw[la];omega) (by omega);rw[ck]at rx
 have spec:=λi=>By H.cut i ((H.cut k).getD i 0) (H.hp j) 0
 have all:∀ i,i<H.p.toNat->(H.al j k i).isEmpty=false:=λi hi=>by
  rw[BD,Uf]at hop
  have:=hop i (wb.mpr hi);cases hz:(H.al j k i).isEmpty with
  |false=>rfl
  |true=>rw[hz]at this;cases this
 have okA':∀ i,i<H.p.toNat->G1 (H.C j) (H.cut k) i=true:=λi hi=>by
  unfold G1 al Hs.C;rw[(spec i).1];show(!(H.al j k i).isEmpty)=true;rw[all i hi];rfl
 have hx:x=.lst (((qb H.p.toNat).map (FC (H.C j) (H.cut k))).map D.int):=by
  rcases rx with⟨rfl,_⟩|⟨_,i,hi,z⟩
  .rfl
  .rw[okA' i hi]at z;cases z
 have cm1:Yc 1 (Za 0) (λ_=>.ok true) We [some (.d (sL (H.hp j) H.kn)),some (.d (.str (H.kn k))),some (.d (dK H.plT)),none] ((H.hp j).map λk=>D.str (H.kn k))=.ok ((H.hp j).map λk=>pD (H.cut k)):=by
  refine Ac ?_ (by rw[la];omega)
  have:=Vd (gc:=λ_=>.ok true) (fe:=We) (λ_=>true) (λk=>D.str (H.kn k)) (λk=>pD (H.cut k)) [some (.d (sL (H.hp j) H.kn)),some (.d (.str (H.kn k))),some (.d (dK H.plT)),none] (H.hp j) none (λa ha=>⟨rfl,λ_=>by
   have e2:=Vo H o (Es H |>.mp ha).2.2;unfold We
   simp only[Mo,Qa,Nh,Qf,Res.bind_ok,e2]⟩)
  rw[filter_all]at this
  exact this
 have cm2:∀ z:Option S,Yc 1 (Za 0) (λ_=>.ok true) Md [some (.d (sL (H.hp j) H.kn)),some (.d (.str (H.kn k))),some (.d (dK H.plT)),z] (((qb H.p.toNat).map (FC (H.C j) (H.cut k))).map D.int)=.ok ((H.crs j k).map λk=>D.str (H.kn k)):=λz=>by
  refine Ac ?_ (by rw[la,la,lc];omega);rw[xh]
  have:=Vd (gc:=λ_=>.ok true) (fe:=Md) (λ_=>true) (D.int∘FC (H.C j) (H.cut k)) (λi=>D.str (H.kn ((H.al j k i).headD 0))) [some (.d (sL (H.hp j) H.kn)),some (.d (.str (H.kn k))),some (.d (dK H.plT)),z] (qb H.p.toNat) none (λi hi=>⟨rfl,λ_=>by
   obtain⟨ix,hx,e1,e2⟩:=(spec i).2 (all i (wb.mp hi));have e3:=ixS H.kn (H.hp j) ix e2
   have e4:FC (H.C j) (H.cut k) i=(ix:Int):=by
    show(MQ i ((H.cut k).getD i 0) 0 ((H.hp j).map H.cut)).getD 0 0=_;rw[e1,zp]
   show Md (some (.d (.int (FC (H.C j) (H.cut k) i)))::_)=_;rw[e4];unfold Md;simp only[b2,Qa,Ya,Res.bind_ok,e3]
   rfl⟩)
  rw[filter_all]at this
  refine this.trans (congrArg Res.ok ?_);unfold Hs.crs;rw[xh];rfl
 have sq1:Oc (sL (H.hp j) H.kn)=.ok ((H.hp j).map λk=>D.str (H.kn k)):=rfl;have g:=Vo H o hk;rw[KY,hx]at ex
 refine Jb _ _ _ _ ?_ rfl;have out:sL (H.crs j k) H.kn=.lst ((H.crs j k).map λk=>D.str (H.kn k)):=rfl;rw[out];clear spec all okA' hx rx hop hpl hp2 ck out;generalize ((H.crs j k).map λk=>D.str (H.kn k))=OUT at*;generalize ((qb H.p.toNat).map (FC (H.C j) (H.cut k))).map D.int=MID at*;unfold Wc Gm;simp only[Pd,Sb,ac,fk,ba,rd,lg,xg,ve,qj,kc,b1,Mo,De,Rb,Aa,Ra,Sa,Bb,Vb,TF,Va,Gb,Qa,Ya,Nh,Qf,Res.bind_ok,sq1,cm1,g,ex,Aj,cm2,Eb,Fb,Lb,zb,Sc]
def Hs.kb(H:Hs)(j:Nat):Option Nat:=(qb H.pn).find? (H.bad j)
def Hs.faV(H:Hs)(j:Nat):D:=.tup [.str (H.N j),.str (H.kn ((H.kb j).getD 0)),sL (H.crs j ((H.kb j).getD 0)) H.kn]
theorem VW(H:Hs)(j:Nat):(H.C j= [])↔(H.hp j).isEmpty=true:=by
 unfold Hs.C;rw[List.map_eq_nil_iff,List.isEmpty_iff]
theorem NL(H:Hs)(j:Nat):∀ a∈H.hold j,a∈H.ks:=λa ha=>wb.mpr (Ds H |>.mp ha).1
theorem CC(H:Hs)(o:H.Ok)(hj:j<H.m)(hk:k<H.pn)(δ:Ca)(hδ:δ= [some (.d (dK H.heT)),some (.d (dK H.baT)),some (.d (sL (qb H.pn) H.kn)),some (.d (dK H.plT)),some (.d (.str (H.N j))),some (.d (H.baV j)),some (.d (.str (H.kn k)))]):
  (H.bad j k=false/\Hc δ= .nx δ)\/(H.bad j k=true/\Hc δ= .rt (.tup [.str (H.N j),.str (H.kn k),sL (H.crs j k) H.kn])):=by
 have hpn:=o.pn;have g1:Se H.heT (.str (H.N j))=.ok (sL (H.hold j) H.kn):=DC (g:=λj=>sL (H.hold j) H.kn) (Fw H o) (wb.mpr hj);have g2:=Vo H o hk;have g3:=IF (MC H o) (NL H j) (wb.mpr (show k<H.n by omega));have q0:Cc 0 δ= .ok H.heT:=by rw[hδ];exact Qf _ _
 have q3:Cc 3 δ= .ok H.plT:=by rw[hδ];simp only[Nh,Qf]
 have p4:Ga 4 δ= .ok (.str (H.N j)):=by rw[hδ];rfl
 have p5:Ga 5 δ= .ok (H.baV j):=by rw[hδ];rfl
 have p6:Ga 6 δ= .ok (.str (H.kn k)):=by rw[hδ];rfl
 have d4:Ea 4 δ= .ok (.str (H.N j)):=by rw[hδ];rfl
 have d5:Ea 5 δ= .ok (H.baV j):=by rw[hδ];rfl
 have d6:Ea 6 δ= .ok (.str (H.kn k)):=by rw[hδ];rfl
 have d3:Ea 3 δ= .ok (dK H.plT):=by rw[hδ];rfl
 have q4:∀ d,Cc 4 (some (.d d)::δ)=.ok H.plT:=λd=>by rw[hδ];simp only[Nh,Qf]
 clear hδ;unfold Hs.bad;by_cases hz:(H.hp j).isEmpty=true
 .have ev:H.baV j=.non:=by unfold Hs.baV;rw[if_pos ((VW H j).mpr hz)]
  rw[ev]at p5
  rw[hz];refine .inl ⟨rfl,?_⟩;unfold Hc;simp only[Of,Cf,tR,b1,p5,Res.bind_ok,show Vs .non=.ok (.bl false) from rfl,Wa,Ve,Ub,uc,if_false,reduceIte]
 .have hz':(H.hp j).isEmpty=false:=by simpa using hz
  have ev:H.baV j=bD (H.lb j):=by unfold Hs.baV;rw[if_neg (λz=>hz ((VW H j).mp z))]
  rw[ev]at p5 d5
  rw[hz'];have nb:Vs (bD (H.lb j))=.ok (.bl true):=rfl;have op:=WI (H.lb j) (H.cut k) (by rw[o.cl k hk];exact(Ao _ _).symm) (by rw[show(H.lb j).length=H.p.toNat from Ao _ _];have:=o.hp2;omega);by_cases hkj:k∈H.hold j
  .rw[decide_eq_true hkj]at g3 ⊢
   refine .inl ⟨rfl,?_⟩;unfold Hc;simp only[Of,Cf,tR,b1,b2,Mo,q0,p4,p5,p6,Res.bind_ok,nb,g1,g3,Wa,Ve,Ub,nj,uc,if_true,if_false,reduceIte]
  .rw[decide_eq_false hkj]at g3 ⊢
   cases hop:OJ (H.lb j) (H.cut k) with
   |false=>
    rw[hop]at op
    refine .inl ⟨rfl,?_⟩;unfold Hc;simp only[Of,Cf,tR,b1,b2,Mo,Aa,Ra,Sa,q0,q3,p4,p5,p6,d5,Res.bind_ok,nb,g1,g2,g3,op,Wa,Ve,Ub,yh,uc,if_true,if_false,reduceIte]
   |true=>
    rw[hop]at op
    have nc:=FN H o hk hop
    have cm:Yc 1 (Za 0) Xg Zj δ ((H.hold j).map λk=>D.str (H.kn k))=.ok ((H.hp j).map λk=>D.str (H.kn k)):=by
     refine Ac ?_ (by rw[la];have:=Bz H o j;omega)
     have:=Vd (gc:=Xg) (fe:=Zj) (λk=>decide (k<H.pn)) (λk=>D.str (H.kn k)) (λk=>D.str (H.kn k)) δ (H.hold j) none (λa ha=>by
      have e1:=UL H o (Ds H |>.mp ha).1;refine⟨?_,λ_=>rfl⟩;unfold Xg
      simp only[tR,Ey,Qa,q4,Res.bind_ok,e1,Wa])
     rw[BF]at this
     exact this
    have sq:Oc (sL (H.hold j) H.kn)=.ok ((H.hold j).map λk=>D.str (H.kn k)):=rfl;have nc':La 3 Wc [.lst ((H.hp j).map λk=>D.str (H.kn k)),.str (H.kn k),dK H.plT]=.ok (sL (H.crs j k) H.kn):=nc;refine .inr ⟨rfl,?_⟩;unfold Hc;have r3:∀ (x y:D) (ks:List Nat) (f:Nat->xa),VV (.ok x) (.ok y) (.ok (sL ks f))=.rt (.tup [x,y,sL ks f]):=λ_ _ _ _=>rfl;simp only[Of,MO,r3,Cf,tR,b1,b2,Mo,De,Rb,Ef,Aa,Ra,Sa,q0,q3,p4,p5,p6,d3,d4,d5,d6,Res.bind_ok,nb,g1,g2,g3,op,sq,cm,nc',Wa,Ve,Ub,Eb,ba,rd,ve,qf,yh,if_true,reduceIte]
theorem Sy(H:Hs)(o:H.Ok):La 4 Zd [dK H.heT,dK H.baT,sL (qb H.pn) H.kn,dK H.plT]=match H.drs.find? (λj=>(H.kb j).isSome) with
  |none=>.ok .non
  |some j=>.ok (H.faV j):=by
 have pr:=Ct H.N H.baV H.drs;change Cn (dK H.baT)=_ at pr;have sq:Oc (sL (qb H.pn) H.kn)=.ok ((qb H.pn).map λk=>D.str (H.kn k)):=rfl
 have main:=Gj (t:=Xb 2 (Ka (Za 4) (Ka (Za 5) Wb))) (body:=Dh) (λ_ δ=>∃ x y z:Option S,δ= [some (.d (dK H.heT)),some (.d (dK H.baT)),some (.d (sL (qb H.pn) H.kn)),some (.d (dK H.plT)),x,y,z])
  (λj=>D.tup [.str (H.N j),H.baV j]) (λj=>(H.kb j).isSome) (λj=>.rt (H.faV j)) (λj=>.inl ⟨_,rfl⟩) H.drs 0 [some (.d (dK H.heT)),some (.d (dK H.baT)),some (.d (sL (qb H.pn) H.kn)),some (.d (dK H.plT)),none,none,none] (λi j δ hj hI=>by
   obtain⟨x,y,z,rfl⟩:=hI;have hj':=wb.mp (qe hj);refine⟨[some (.d (dK H.heT)),some (.d (dK H.baT)),some (.d (sL (qb H.pn) H.kn)),some (.d (dK H.plT)),some (.d (.str (H.N j))),some (.d (H.baV j)),z],rfl,?_⟩
   have inner:=Gj (t:=Za 6) (body:=Hc) (λ_ δ=>∃ z:Option S,δ= [some (.d (dK H.heT)),some (.d (dK H.baT)),some (.d (sL (qb H.pn) H.kn)),some (.d (dK H.plT)),some (.d (.str (H.N j))),some (.d (H.baV j)),z])
    (λk=>D.str (H.kn k)) (H.bad j) (λk=>.rt (.tup [.str (H.N j),.str (H.kn k),sL (H.crs j k) H.kn])) (λk=>.inl ⟨_,rfl⟩) (qb H.pn) 0 [some (.d (dK H.heT)),some (.d (dK H.baT)),some (.d (sL (qb H.pn) H.kn)),some (.d (dK H.plT)),some (.d (.str (H.N j))),some (.d (H.baV j)),z] (λi2 k δ hk hI=>by
     obtain⟨z,rfl⟩:=hI;have hk':=wb.mp (qe hk);refine⟨_,rfl,?_⟩;rcases CC H o hj' hk' _ rfl with⟨b,e⟩|⟨b,e⟩
     .exact .inl ⟨b,_,e,_,rfl⟩
     .exact .inr ⟨b,e⟩) ⟨_,rfl⟩
   have l2:∀ v,Te (Za 6) Hc ((qb H.pn).map λk=>D.str (H.kn k)) [some (.d (dK H.heT)),some (.d (dK H.baT)),some (.d (sL (qb H.pn) H.kn)),some (.d (dK H.plT)),some (.d (.str (H.N j))),some (.d (H.baV j)),z]=v->Dh [some (.d (dK H.heT)),some (.d (dK H.baT)),some (.d (sL (qb H.pn) H.kn)),some (.d (dK H.plT)),some (.d (.str (H.N j))),some (.d (H.baV j)),z]=v:=λv hv=>by
    unfold Dh;simp only[Df,b1,Va,Gb,Res.bind_ok,sq,Eb];exact hv
   rcases inner with⟨k,ek,f⟩|⟨en,δ2,f,z2,rfl⟩
   .have ek':H.kb j=some k:=ek;refine .inr ⟨by rw[ek'];rfl,?_⟩;unfold Hs.faV;rw[ek'];exact l2 _ f
   .have en':H.kb j=none:=en
    exact .inl ⟨by rw[en'];rfl,_,l2 _ f,_,_,_,rfl⟩) ⟨none,none,none,rfl⟩
 rcases main with⟨j,ej,f⟩|⟨en,δ2,f,_⟩
 .rw[ej];refine Jb _ _ _ _ ?_ rfl;unfold Zd Sm;simp only[Pd,Sb,ac,fk,ba,rd,lg,xg,ve,qj,kc,kD,Dy,Bb,Df,Tb,Va,Gb,Res.bind_ok,pr,f,Eb,Le,Lb]
 .rw[en];refine Jb _ _ _ _ ?_ rfl;unfold Zd Sm;simp only[Pd,Sb,ac,fk,ba,rd,lg,xg,ve,qj,kc,kD,Dy,Bb,Df,Tb,Va,Gb,Res.bind_ok,pr,f,Eb,Fb,Lb]
def Hs.flV(H:Hs):D:=match H.drs.find? (λj=>(H.kb j).isSome) with
 |none=>.non
 |some j=>H.faV j
theorem Xp(H:Hs)(o:H.Ok)(hd:0<=H.d):La 2 Ae [H.hsD,dK H.plT]=.ok H.flV:=by
 have e1:=US H o;have e2:=SQ H o hd;have e3:=NM H o
 have e4:La 4 Zd [dK H.heT,dK H.baT,sL (qb H.pn) H.kn,dK H.plT]=.ok H.flV:=by
  rw[Sy H o];unfold Hs.flV;split<;>rfl
 have f1:Fj "House" "rules" H.hsD=.ok H.ru:=R9 H.ru (sL H.drs H.N) H.wgD H.grD;refine Jb _ _ _ _ ?_ rfl;unfold Ae Lr
 walk_at "s"
 simp only[b1,Aa,Ra,Sa,Bb,Vb,Tb,Va,Gb,Res.bind_ok,f1,e1,e2,e3,e4,Eb,Fb,Lb,zb,Sc]
theorem IP{ks:List Nat}{g':Nat->D}(h:∀ k∈ks,g k=g' k):tK ks f g=tK ks f g':=by
 unfold tK;exact qi λk hk=>by rw[h k hk]
theorem B0(L:List (List Int))(c:List Int)(k:Nat)(h:k<L.length):(L++ [c]).getD k []=L.getD k []:=by
 rw[ub,ub,ug h]
theorem C0(L:List (List Int))(c:List Int):(L++ [c]).getD L.length []=c:=by
 rw[ub,ah (jd _)];simp
def Bd(p d:Int)(c:List Int):Prop:=c.length=p.toNat/\∀ x∈c,0<=x/\x<d
abbrev Gx(ns:List Int)(ru gr:D)(l:List (Hb×D))(k:Nat)(row:D)(x6 x7 x8:Option S):Ca:= [sd (.lst (ns.map D.int)),sd ru,sd gr,sQ l,sd (.int (k:Int)),sd row,x6,x7,x8]
theorem WT(c:List Int)(h:0<c.length):∃ v,Qe (pD c) (.int (-1))=.ok (.int v):=by
 have e:c=c.take (c.length-1)++ [c[c.length-1]]:=by
  rw[List.take_append_getElem (by omega),lj (by omega)]
 obtain⟨l,x,rfl⟩:∃ l x,c=l++ [x]:=⟨_,_,e⟩
 refine⟨x,?_⟩;unfold pD;rw[kg,yl];exact HM _ _ _ (Cy _ _)
theorem U3(p d:Int)(c w:List Int)(a:Nat)(hp2:p<=100)(hc:Bd p d c)(hw:Bd p d w)(ha:a<=p.toNat):Bd p d (c.take a++w.drop a)/\CW (pD c) none (some (a:Int))=.ok (pD (c.take a))/\CW (pD w) (some (a:Int)) none=.ok (pD (w.drop a))/\Pc (pD (c.take a)) (pD (w.drop a))=.ok (pD (c.take a++w.drop a)):=by
 obtain⟨c1,c2⟩:=hc;obtain⟨w1,w2⟩:=hw;have hl:(c.take a++w.drop a).length=p.toNat:=by rw[ud,ao,zt];omega
 refine⟨⟨hl,λx hx=>?_⟩,?_,?_,?_⟩
 .rcases ag.mp hx with hx|hx
  .exact c2 x (List.mem_of_mem_take hx)
  .exact w2 x (List.mem_of_mem_drop hx)
 .unfold pD;rw[S3,List.map_take]
 .unfold pD;rw[YO _ _ (by rw[la];omega),List.map_drop]
 .unfold pD;rw[FE,if_pos,kg];rw[la,la,<-ud,hl];exact OG (by omega)
theorem VI(ns:List Int)(X Q:xa)(cf:Int->Int)(hcf:∀ k,0<=k->k<=1000->La 2 Na [.lst (ns.map D.int),.int k]=.ok (.int (cf k)))(p d h s:Int)(hp:1<=p)(hp2:p<=100)(hd:2<=d)(hs:1<=s)(th:Nat->List Nat)(n:Nat)(hn:n<=19)(L:List (List Int))(hi:L.length<n)(hL:∀ c∈L,Bd p d c)(f:Nat->xa)(hf:f=λk=>nm X Q (20+k))(x6 x7 x8:Option S):
  ∃ c:List Int,Bd p d c/\∃ y6 y7 y8,Fg (Gx ns (Br p d h s) (.lst (Aq X Q th n)) (tK (qb L.length) f λk=>pD (L.getD k [])) L.length (.tup [.str (f L.length),sL (th L.length) (nm X Q)]) x6 x7 x8)
   = .nx (Gx ns (Br p d h s) (.lst (Aq X Q th n)) (tK (qb (L.length+1)) f λk=>pD ((L++ [c]).getD k [])) L.length (.tup [.str (f L.length),sL (th L.length) (nm X Q)]) y6 y7 y8):=by
 have inj:∀ a b,a<500->b<500->f a=f b->a=b:=λa b ha hb e=>by
  rw[hf]at e
  have:=Bn (X:=X) (Q:=Q) (j:=20+a) (k:=20+b) (by omega) (by omega) e;omega
 obtain⟨c,ec,hc⟩:=ZQ ns (16+(L.length:Int)) p d h s (by omega) (by omega) hp hp2 hd hs;have c24:=hcf (24+(L.length:Int)) (by omega) (by omega);have c32:=hcf (32+(L.length:Int)) (by omega) (by omega);have m3:=Cg (cf (24+(L.length:Int))) 3 (by decide);have i0:∀ z y,Qe (.tup [.str z,y]) (.int 0)=.ok (.str z):=λ_ _=>rfl;have r0:Qe (Br p d h s) (.int 0)=.ok (.int p):=rfl;have r3:Qe (Br p d h s) (.int 3)=.ok (.int s):=rfl
 have g0:JL (.int (L.length:Int)) (.int 0)=.ok (.bl (decide (0<L.length))):=by
  rw[Ll];congr 2;rw[kh,decide_eq_true_eq,decide_eq_true_eq];omega
 generalize hrow:D.tup [.str (f L.length),sL (th L.length) (nm X Q)]=row;have ir:Qe row (.int 0)=.ok (.str (f L.length)):=by rw[<-hrow];rfl
 generalize hT:(tK (qb L.length) f λk=>pD (L.getD k []))=T;generalize hru:Br p d h s=ru at*;generalize hgr:D.lst (Aq X Q th n)=gr
 have pt:∀ (z:List Int) (y7 y8:Option S),Li 3 (b2 Qe (Ga 5) (kD (.int 0))) (Ea 6) (Gx ns ru gr T L.length row (sd (pD z)) y7 y8)=.nx (Gx ns ru gr (tK (qb (L.length+1)) f λk=>pD ((L++ [z]).getD k [])) L.length row (sd (pD z)) y7 y8):=λz y7 y8=>by
  have t1:Og T (.inr (f L.length)) (pD z)=tK (qb (L.length+1)) f λk=>pD ((L++ [z]).getD k []):=by
   rw[<-hT,IP (g':=λk=>pD ((L++ [z]).getD k [])) λk hk=>by rw[B0 L z k (wb.mp hk)]]
   have:=JP (f:=f) (g:=λk=>pD ((L++ [z]).getD k [])) L.length λk hk e=>by
    have:=inj k L.length (by omega) (by omega) e;omega
   rw[C0]at this
   exact this
  have:=QF 3 (Gx ns ru gr T L.length row (sd (pD z)) y7 y8) T (f L.length) (pD z) (b2 Qe (Ga 5) (kD (.int 0))) (Ea 6) rfl (by rw[<-hT];unfold tK;rw[la,lc];omega) rfl (by simp only[b2,kD,Qa,Ya,Res.bind_ok,ir]);rw[t1]at this
  exact this
 have s1:Vb 6 (b1 (La 3 Gd) (Aa (Ea 0) (Aa (b2 Pc (kD (.int 16)) (Ga 4)) (Aa (Ea 1) Ra)))) (Gx ns ru gr T L.length row x6 x7 x8)=.nx (Gx ns ru gr T L.length row (sd (pD c)) x7 x8):=by
  simp only[Vb,b1,b2,kD,Aa,Ra,Sa,Va,Gb,Qa,Ya,Res.bind_ok,Lc,ec,Eb,zb,Sc]
 have fin:∀ (z:List Int) (y7 y8:Option S) (g:Ca->Out),Bd p d z->g (Gx ns ru gr T L.length row (sd (pD c)) x7 x8)=.nx (Gx ns ru gr T L.length row (sd (pD z)) y7 y8)->
   (Bb (Vb 6 (b1 (La 3 Gd) (Aa (Ea 0) (Aa (b2 Pc (kD (.int 16)) (Ga 4)) (Aa (Ea 1) Ra))))) (Bb g (Li 3 (b2 Qe (Ga 5) (kD (.int 0))) (Ea 6)))) (Gx ns ru gr T L.length row x6 x7 x8)=.nx (Gx ns ru gr (tK (qb (L.length+1)) f λk=>pD ((L++ [z]).getD k [])) L.length row (sd (pD z)) y7 y8):=λz y7 y8 g _ e=>by
  unfold Bb;rw[s1,Fb,e,Fb,pt]
 unfold Fg;by_cases hz:(decide (0<L.length)&&(cf (24+(L.length:Int))%3==0))=true
 .have hz2:=Bool.and_eq_true_iff.mp hz;have hpos:0<L.length:=of_decide_eq_true hz2.1;have d3:=MK (cf (24+(L.length:Int))) 3 (by decide) (by decide);have ml:=Cg (cf (24+(L.length:Int)) / 3) (L.length:Int) (by omega);have b0:=zg (cf (24+(L.length:Int)) / 3) (show(L.length:Int)≠0 by omega);have b9:=yf (cf (24+(L.length:Int)) / 3) (show 0<(L.length:Int) by omega);obtain⟨ix,hix⟩:∃ ix:Nat,(ix:Int)=cf (24+(L.length:Int)) / 3%(L.length:Int):=⟨(cf (24+(L.length:Int)) / 3%(L.length:Int)).toNat,by omega⟩
  rw[<-hix]at ml b0 b9
  have ma:=Cg (cf (32+(L.length:Int))) (p+1) (by omega);have a0:=zg (cf (32+(L.length:Int))) (show p+1≠0 by omega);have a9:=yf (cf (32+(L.length:Int))) (show 0<p+1 by omega);obtain⟨a,ha⟩:∃ a:Nat,(a:Int)=cf (32+(L.length:Int))%(p+1):=⟨(cf (32+(L.length:Int))%(p+1)).toNat,by omega⟩
  rw[<-ha]at ma a0 a9
  have ig:Qe gr (.int (ix:Int))=.ok (.tup [.str (f ix),sL (th ix) (nm X Q)]):=by
   rw[<-hgr]
   exact Bq _ _ _ (Ei (by omega) (by
    unfold Aq
    rw[show((ix:Int)).toNat=ix by omega,wc,jg (by omega),hf];rfl))
  have io:Ig (qb L.length) f:=λa ha b hb e=>inj a b (by have:=wb.mp ha;omega) (by have:=wb.mp hb;omega) e
  have gd:Se T (.str (f ix))=.ok (pD (L.getD ix [])):=by
   rw[<-hT];exact DC (g:=λk=>pD (L.getD k [])) io (k:=ix) (wb.mpr (by omega))
  have hw:Bd p d (L.getD ix []):=hL _ (getD_mem _ (by omega));generalize L.getD ix []=w at*
  have q3:∀ y6 y7 y8,Cc 3 (Gx ns ru gr T L.length row y6 y7 y8)=.ok T:=λy6 y7 y8=>by
   simp only[Nh];show Res.ok ((T.map (·.1)).zip (T.map (·.2)))=_;rw[Uj]
  obtain⟨sb,sl1,sl2,sl3⟩:=U3 p d c w a hp2 hc hw (by omega)
  obtain⟨bb,tb⟩:∃ bb,(Ci (tR (b2 Al (Ga 8) (b2 Qe (Ga 1) (kD (.int 0))))) (Ci (tR (b2 ZP (b1 HB (b2 Fp (b2 Qe (Ga 7) (Ga 8)) (b2 Qe (Ga 6) (b2 Fp (Ga 8) (kD (.int 1)))))) (b2 Qe (Ga 1) (kD (.int 3))))) (tR (b2 Al (Ga 8) (kD (.int 0)))))) (Gx ns ru gr T L.length row (sd (pD c)) (sd (pD w)) (sd (.int (a:Int))))=.ok bb:=by
   by_cases hap:((a:Int)==p)=true
   .refine⟨true,?_⟩;simp only[Ci,tR,b2,kD,Qa,Ya,Res.bind_ok,r0,Cd,hap,Wa,Dg,if_true,reduceIte]
   .have hap':((a:Int)==p)=false:=by simpa using hap
    have hne:(a:Int)≠p:=λz=>hap (by rw[z];simp);have j1:=pD_at w a (by rw[hw.1];omega)
    obtain⟨v,j2⟩:∃ v,Qe (pD c) (.int ((a:Int)-1))=.ok (.int v):=by
     by_cases z:a=0
     .subst z;exact WT c (by rw[hc.1];omega)
     .have:=pD_at c (a-1) (by rw[hc.1];omega);rw[show((a-1:Nat):Int)=(a:Int)-1 by omega]at this
      exact⟨_,this⟩
    obtain⟨u,eu⟩:∃ u,HB (.int (w.getD a 0-v))=.ok (.int u):=⟨_,rfl⟩
    cases hle:decide (u<=s) with
    |true=>
     refine⟨true,?_⟩;simp only[Ci,tR,b1,b2,kD,Qa,Ya,Res.bind_ok,r0,r3,Cd,hap',Wa,Dg,uc,if_false,if_true,reduceIte,Ui,j1,j2,eu,Pl,hle]
    |false=>
     refine⟨((a:Int)==0),?_⟩;simp only[Ci,tR,b1,b2,kD,Qa,Ya,Res.bind_ok,r0,r3,Cd,hap',Wa,Dg,uc,if_false,reduceIte,Ui,j1,j2,eu,Pl,hle]
  have tst:(Cf (tR (b2 JL (Ga 4) (kD (.int 0)))) (tR (b2 Al (b2 Zc (b1 (La 2 Na) (Aa (Ea 0) (Aa (b2 Pc (kD (.int 24)) (Ga 4)) Ra))) (kD (.int 3))) (kD (.int 0))))) (Gx ns ru gr T L.length row (sd (pD c)) x7 x8)=.ok true:=by
   simp only[Cf,tR,b1,b2,kD,Aa,Ra,Sa,Va,Qa,Ya,Res.bind_ok,Lc,c24,m3,g0,Cd,Wa,Ve,hz2.1,hz2.2,if_true,reduceIte]
  have s7:Vb 7 (Mo Se (Cc 3) (b2 Qe (b2 Qe (Ga 2) (b2 Zc (b2 Kl (b1 (La 2 Na) (Aa (Ea 0) (Aa (b2 Pc (kD (.int 24)) (Ga 4)) Ra))) (kD (.int 3))) (Ga 4))) (kD (.int 0)))) (Gx ns ru gr T L.length row (sd (pD c)) x7 x8)=.nx (Gx ns ru gr T L.length row (sd (pD c)) (sd (pD w)) x8):=by
   simp only[Vb,b1,b2,Mo,kD,Aa,Ra,Sa,q3,Va,Qa,Ya,Res.bind_ok,Lc,c24,d3,ml,ig,i0,gd,Eb,zb,Sc]
  have s8:Vb 8 (b2 Zc (b1 (La 2 Na) (Aa (Ea 0) (Aa (b2 Pc (kD (.int 32)) (Ga 4)) Ra))) (b2 Pc (b2 Qe (Ga 1) (kD (.int 0))) (kD (.int 1)))) (Gx ns ru gr T L.length row (sd (pD c)) (sd (pD w)) x8)=.nx (Gx ns ru gr T L.length row (sd (pD c)) (sd (pD w)) (sd (.int (a:Int)))):=by
   simp only[Vb,b1,b2,kD,Aa,Ra,Sa,Va,Qa,Ya,Res.bind_ok,Lc,c32,r0,ma,Eb,zb,Sc]
  cases bb with
  |true=>
   refine⟨_,sb,_,_,_,fin _ (sd (pD w)) (sd (.int (a:Int))) _ sb ?_⟩;unfold Of Bb;rw[tst,Ub,if_pos rfl,s7,Fb,s8,Fb,tb,Ub,if_pos rfl];simp only[Vb,b2,b3,b1,Tg,Va,Gb,Qa,Ya,Res.bind_ok,Fh,sl1,sl2,sl3,Eb,zb,Sc]
  |false=>
   refine⟨c,hc,_,_,_,fin c (sd (pD w)) (sd (.int (a:Int))) _ hc ?_⟩;unfold Of Bb;rw[tst,Ub,if_pos rfl,s7,Fb,s8,Fb,tb,Ub,if_neg Db]
 .have hz':(decide (0<L.length)&&(cf (24+(L.length:Int))%3==0))=false:=by simpa using hz
  have tst:(Cf (tR (b2 JL (Ga 4) (kD (.int 0)))) (tR (b2 Al (b2 Zc (b1 (La 2 Na) (Aa (Ea 0) (Aa (b2 Pc (kD (.int 24)) (Ga 4)) Ra))) (kD (.int 3))) (kD (.int 0))))) (Gx ns ru gr T L.length row (sd (pD c)) x7 x8)=.ok false:=by
   cases h9:decide (0<L.length) with
   |false=>
    rw[h9]at g0
    simp only[Cf,tR,b2,kD,Qa,Ya,Res.bind_ok,g0,Wa,Ve,uc,if_false,reduceIte]
   |true=>
    rw[h9]at g0 hz'
    rw[su]at hz'
    simp only[Cf,tR,b1,b2,kD,Aa,Ra,Sa,Va,Qa,Ya,Res.bind_ok,Lc,c24,m3,g0,Cd,Wa,Ve,hz',if_true,reduceIte]
  refine⟨c,hc,_,_,_,fin c x7 x8 _ hc ?_⟩;unfold Of;rw[tst,Ub,if_neg Db]
theorem FV(ns : List Int)(X Q : xa)(p d h s : Int)(hp : 1 <= p)(hp2 : p <= 100)(hd : 2 <= d)(hs : 1 <= s)(th : Nat -> List Nat)(n : Nat)(hn : n <= 19) :
    ∃ cut : Nat -> List Int, (∀ k, k < n -> Bd p d (cut k)) /\ La 3 Yd [.lst (ns.map D.int), Br p d h s,.lst (Aq X Q th n)] = .ok (dK (tK (qb n) (λk => nm X Q (20 + k)) λk => pD (cut k))) := by
  obtain⟨cf, hcf⟩ := Sr ns;obtain⟨f, hf⟩ : ∃ f : Nat -> xa, f = λk => nm X Q (20 + k) := ⟨_, rfl⟩
  have en : Xd [.lst (Aq X Q th n)] = .ok ((qb n).map λ(k : Nat) => D.tup [.int (k : Int),.tup [.str (f k), sL (th k) (nm X Q)]]) := by
    rw[hf]; exact Zr (λk => D.tup [.str (nm X Q (20 + k)), sL (th k) (nm X Q)]) n
  obtain⟨δ2, fo, L, k4, r5, x6, x7, x8, rfl, hl, hL⟩ := Xn (t := Xb 2 (Ka (Za 4) (Ka (Za 5) Wb))) (body := Fg) (λi δ => ∃ (L : List (List Int)) (x4 x5 x6 x7 x8 : Option S), δ = [sd (.lst (ns.map D.int)), sd (Br p d h s), sd (.lst (Aq X Q th n)), sQ (tK (qb L.length) f λk => pD (L.getD k [])), x4, x5, x6, x7, x8] /\ L.length = i /\ ∀ c ∈ L, Bd p d c)
    ((qb n).map λ(k : Nat) => D.tup [.int (k : Int),.tup [.str (f k), sL (th k) (nm X Q)]]) [sd (.lst (ns.map D.int)), sd (Br p d h s), sd (.lst (Aq X Q th n)), some (.q [] []), none, none, none, none, none] (λi e δ he hI => by
      obtain⟨L, x4, x5, x6, x7, x8, rfl, hl, hL⟩ := hI;rw[wc]at he
      obtain⟨k, hk, rfl⟩ := jh.mp he;have hi : i < n := by have := (ya.mp hk).1; rw[lc]at this; exact this
      rw[jg hi]at hk
      have : k = i := (yb hk).symm;subst this;subst hl;obtain⟨c, hc, y6, y7, y8, e⟩ := VI ns X Q cf hcf p d h s hp hp2 hd hs th n hn L hi hL f hf x6 x7 x8;refine⟨_, rfl, _,.inl e, L ++ [c], _, _, _, _, _, by rw[ud]; rfl, by rw[ud]; rfl, λz hz =>?_⟩;rcases ag.mp hz with hz | hz
      · exact hL z hz
      · rw[ge.mp hz]; exact hc) ⟨[], none, none, none, none, none, rfl, rfl, λc hc => by simp at hc⟩
  rw[la, lc]at hl
  subst hl;refine⟨λk => L.getD k [], λk hk => hL _ (getD_mem _ hk), Jb _ _ _ _ ?_ rfl⟩;rw[<- hf];have fz : ∀ (l : List (Hb × D)) (a0 a1 a2 : Option S) (r : Ca), KH 3 (a0 :: a1 :: a2 :: sQ l :: r) = a0 :: a1 :: a2 :: sd (dK l) :: r := λ_ _ _ _ _ => rfl;unfold Yd Mp
  walk_at "s"
  simp only[b1, Aa, Ra, Sa, Bb, Km, Df, NA, Tb, Va, Gb, Qa, Ya, Res.bind_ok, en, fo, fz, Eb, Fb, Lb, zb, Sc]
theorem VF(n:Nat)(c:List Int):Qb (n+1) (pD c)=true:=by
 unfold pD;rw[Qb,Uf];intro d hd;obtain⟨i,_,rfl⟩:=jf.mp hd;cases n<;>rfl
def CQ(C:List (List Int))(one:List Int)(i:Nat):Bool:=decide (one.getD i 0∈C.map λc=>c.getD i 0)
theorem M6(x:Int)(q:List Int):Lq (.int x) (.lst (q.map D.int))=.ok (.bl (!decide (x∈q))):=by
 show(if(Mc (.int x)&&(q.map D.int).all Mc)=true then _ else _)=_;rw[O13.flat_ints,O13.inB_ints];rfl
theorem CI(C:List (List Int))(one:List Int)(hC:∀ c∈C,c.length=one.length)(hl:C.length<64)(ho:one.length<=1000):La 2 Ld [cD C,pD one]=.ok (.bl (!C.isEmpty&&(qb one.length).all (CQ C one))):=by
 refine Jb _ _ _ _ ?_ rfl
 have eqn:Al (cD C) (.lst [])=.ok (.bl C.isEmpty):=by
  cases C with
  |nil=>rfl
  |cons c C=>
   have sp:∀ x,Qb 39 (pD x)=true:=λx=>VF 38 x;simp[Al,cD,Tf,Yx,Qb,sp]
 have he:Xd [pD one]=.ok (Od 0 (one.map D.int)):=rfl
 have hs:=Xm (t:=Xb 2 (Ka (Za 2) (Ka (Za 3) Wb))) (body:=Xh) (λ_ δ=>∃ y z,δ= [sd (cD C),sd (pD one),y,z]) (CQ C one) (λ_=>.bl false) (Od 0 (one.map D.int)) [sd (cD C),sd (pD one),none,none] (λi d δ hd hI=>by
  obtain⟨y,z,rfl⟩:=hI;obtain⟨x,hx,rfl⟩:=Yf hd;rw[wc]at hx
  obtain⟨c,hc,rfl⟩:=jh.mp hx;have hi:=(ya.mp hc).1;have ec:one.getD i 0=c:=by rw[ub,hc];rfl
  rw[zp];refine⟨_,rfl,?_⟩;simp only[zb,Sc]
  have cm:=BX (fe:=Th) C i (λq hq=>by rw[hC q hq];exact hi) hl [sd (cD C),sd (pD one),sd (.int (i:Int)),sd (.int c)] (λq e=>by
   unfold Th
   simp only[b2,Qa,Ya,Res.bind_ok,e])
  have ni:=M6 c (C.map λq=>q.getD i 0);have sq:Oc (cD C)=.ok (C.map pD):=rfl;have eo:CQ C one i=decide (c∈C.map λq=>q.getD i 0):=by unfold CQ;rw[ec]
  rw[<-eo]at ni
  unfold Xh;cases hk:CQ C one i with
  |true=>
   rw[hk]at ni
   refine .inl ⟨rfl,[sd (cD C),sd (pD one),sd (.int (i:Int)),sd (.int c)],.inl ?_,_,_,rfl⟩;simp only[Of,tR,b1,b2,De,Rb,Va,Qa,Ya,Res.bind_ok,sq,cm,ni,Wa,Ub,nj,uc,if_false,reduceIte]
  |false=>
   rw[hk]at ni
   refine .inr ⟨rfl,?_⟩
   simp only[Of,Tb,kD,tR,b1,b2,De,Rb,Va,Qa,Ya,Res.bind_ok,sq,cm,ni,Wa,Ub,Eb,yh,if_true,reduceIte]) ⟨none,none,rfl⟩
 rw[Ge,la]at hs
 unfold Ld Nn
 walk_at "s"
 cases hz:C.isEmpty with
 |true=>
  rw[hz]at eqn
  simp only[Bb,Of,Tb,kD,tR,b1,b2,De,Me,Ra,Qa,Res.bind_ok,rd,vh,if_true,reduceIte,eqn,Wa,Ub,Eb,Le,Lb,nj,Op]
 |false=>
  rw[hz]at eqn
  rcases hs with⟨δ2,f,_,hok⟩|⟨i,hi,oi,_,f⟩
  .have ha:(qb one.length).all (CQ C one)=true:=Uf.mpr λi hi=>hok i (wb.mp hi);rw[ha];simp only[Bb,Of,Df,Tb,kD,tR,b1,b2,De,Me,Aa,Ra,Sa,Va,Gb,Qa,Res.bind_ok,rd,vh,if_true,if_false,reduceIte,eqn,Wa,Ub,Eb,Fb,he,f,Lb,uc,yh,su]
  .have ha:(qb one.length).all (CQ C one)=false:=by
    rw[<-Bool.not_eq_true,Uf];intro h;rw[h i (wb.mpr hi)]at oi;cases oi
   rw[ha];simp only[Bb,Of,Df,Tb,kD,tR,b1,b2,De,Me,Aa,Ra,Sa,Va,Gb,Qa,Res.bind_ok,rd,vh,if_true,if_false,reduceIte,eqn,Wa,Ub,Eb,Fb,Le,he,f,Lb,uc,vp]
theorem Av(cut:Nat->List Int)(i:Nat)(c:Int):∀ (hs:List Nat),(hs.filter λa=>((cut a).getD i 0==c)).isEmpty=false->∃ ix,((hs.map λa=>(cut a).getD i 0).map D.int).findIdx? (λz=>Tf z (.int c))=some ix/\hs[ix]? =some ((hs.filter λa=>((cut a).getD i 0==c)).headD 0)
 | [],h=>by cases h
 |a::hs,h=>by
  rw[ac,ac,List.findIdx?_cons]
  have e:Tf (.int ((cut a).getD i 0)) (.int c)=((cut a).getD i 0==c):=by
   rw[kh];simp[Tf]
  rw[e];by_cases ha:((cut a).getD i 0==c)=true
  .rw[if_pos ha,we (p:=λa=>((cut a).getD i 0==c)) ha];exact⟨0,rfl,rfl⟩
  .rw[if_neg ha];rw[gf (p:=λa=>((cut a).getD i 0==c)) ha]at h ⊢
   obtain⟨ix,e1,e2⟩:=Av cut i c hs h;exact⟨ix+1,by rw[e1];rfl,by simpa using e2⟩
theorem K1(H:Hs)(j k i:Nat):CQ (H.C j) (H.cut k) i= !(H.al j k i).isEmpty:=by
 unfold CQ Hs.C;rw[kh,decide_eq_true_eq,xh];constructor
 .intro h;obtain⟨a,ha,e⟩:=jf.mp h;have:a∈H.al j k i:=(Wv H).mpr ⟨ha,e⟩;cases hz:H.al j k i with
  |nil=>rw[hz]at this;simp at this
  |cons _ _=>rfl
 .intro h;cases hz:H.al j k i with
  |nil=>rw[hz]at h;cases h
  |cons a r=>
   obtain⟨h1,h2⟩:=(Wv H).mp (show a∈H.al j k i by rw[hz];exact ib);exact jf.mpr ⟨a,h1,h2⟩
def Hs.waD(H:Hs):D:=.lst (QJ H.X H.Q H.m H.ob H.n)
theorem QL(H:Hs)(hn:H.pn=H.n)(j:Nat):H.hp j=H.hold j:=by
 unfold Hs.hp Hs.hold;refine aq λk hk=>?_;rw[decide_eq_true (by rw[hn];exact wb.mp hk),Bool.and_true]
abbrev Au(H:Hs)(r:Ca):Ca:=sd (sL H.drs H.N)::sd H.grD::sd H.waD::sd (dK H.plT)::r
theorem CS(H:Hs)(o:H.Ok)(hpn:H.pn=H.n)(hk:k<H.n)(x8 x9:Option S)(δ:Ca)(hδ:δ=Au H [sd (.str (H.N j)),sd (sL (H.hp j) H.kn),sd (cD (H.C j)),sd (.str (H.kn k)),x8,x9]):
  (H.bad j k=false/\Jd δ= .nx δ)\/(H.bad j k=true/\Jd δ= .rt (.tup [.str (H.N j),.str (H.kn k),sL (H.crs j k) H.kn])):=by
 have hk':k<H.pn:=by omega
 have hl:=Lw H o j;have g2:=Vo H o hk';have ck:=o.cl k hk';have hp2:=o.hp2;have g3:=IF (MC H o) (ks:=H.hp j) (k:=k) (λa ha=>wb.mpr (Es H |>.mp ha).1) (wb.mpr hk);have op:=CI (H.C j) (H.cut k) (λc hc=>by rw[Gr H o j c hc,ck]) (by unfold Hs.C;rw[la];omega) (by omega)
 have ob:((qb (H.cut k).length).all (CQ (H.C j) (H.cut k)))=OJ (H.lb j) (H.cut k):=by
  rw[BD,ck];congr 1;funext i;exact K1 H j k i
 have ce:(H.C j).isEmpty=(H.hp j).isEmpty:=by unfold Hs.C;rw[List.isEmpty_map]
 rw[ob,ce]at op
 have q3:Cc 3 δ= .ok H.plT:=by rw[hδ];simp only[Nh,Qf]
 have p5:Ga 5 δ= .ok (sL (H.hp j) H.kn):=by rw[hδ];rfl
 have p7:Ga 7 δ= .ok (.str (H.kn k)):=by rw[hδ];rfl
 have d6:Ea 6 δ= .ok (cD (H.C j)):=by rw[hδ];rfl
 have z6:Uo 6 δ=δ:=by rw[hδ];rfl
 have tst:(Cf (tR (b2 Lq (Ga 7) (Ga 5))) (tR (b1 (La 2 Ld) (Aa (Ea 6) (Aa (Mo Se (Cc 3) (Ga 7)) Ra))))) δ= .ok (H.bad j k):=by
  unfold Hs.bad;rw[<-QL H hpn j];by_cases hm:k∈H.hp j
  .rw[decide_eq_true hm]at g3 ⊢
   simp only[Cf,tR,b2,p5,p7,Res.bind_ok,g3,Wa,Ve,nj,uc,if_false,reduceIte,Op,vp]
  .rw[decide_eq_false hm]at g3 ⊢
   simp only[Cf,tR,b1,b2,Mo,Aa,Ra,Sa,q3,p5,p7,d6,Res.bind_ok,g2,g3,op,Wa,Ve,yh,if_true,reduceIte,su]
 cases hb:H.bad j k with
 |false=>
  rw[hb]at tst
  refine .inl ⟨rfl,?_⟩;unfold Jd Ue;rw[z6];unfold Of;rw[tst,Ub,if_neg Db]
 |true=>
  rw[hb]at tst
  refine .inr ⟨rfl,?_⟩
  have hop:OJ (H.lb j) (H.cut k)=true:=by
   unfold Hs.bad at hb;rw[ze,ze]at hb
   exact hb.2.2
  have all:∀ i,i<H.p.toNat->(H.al j k i).isEmpty=false:=λi hi=>by
   rw[BD,Uf]at hop
   have:=hop i (wb.mpr hi);cases hz:(H.al j k i).isEmpty with
   |false=>rfl
   |true=>rw[hz]at this;cases this
  have he:Xd [pD (H.cut k)]=.ok (Od 0 ((H.cut k).map D.int)):=rfl
  have ee:Od 0 ((H.cut k).map D.int)=(qb H.p.toNat).map λ(i:Nat)=>D.tup [.int (i:Int),.int ((H.cut k).getD i 0)]:=by
   refine yp λi=>?_;rw[wc];by_cases hi:i<H.p.toNat
   .rw[jg hi];obtain⟨x,e⟩:∃ x,(Od 0 ((H.cut k).map D.int))[i]? =some x:=⟨_,oa (by rw[Ge,la];omega)⟩
    obtain⟨y,hy,rfl⟩:=Yf e;rw[e,zp];rw[wc,oa (show i<(H.cut k).length by omega)]at hy
    cases hy;show some (D.tup [.int (i:Int),.int ((H.cut k)[i])])=some (D.tup [.int (i:Int),.int ((H.cut k).getD i 0)]);rw[ub,oa (show i<(H.cut k).length by omega)];rfl
   .rw[zf (by rw[Ge,la];omega),zf (by rw[lc];omega)];rfl
  rw[ee]at he
  have cm:Yc 2 (Xb 2 (Ka (Za 0) (Ka (Za 1) Wb))) (λ_=>.ok true) Kf δ ((qb H.p.toNat).map λ(i:Nat)=>D.tup [.int (i:Int),.int ((H.cut k).getD i 0)])=.ok ((H.crs j k).map λk=>D.str (H.kn k)):=by
   refine Ac ?_ (by rw[la,lc];omega)
   have:=Dj (gc:=λ_=>.ok true) (fe:=Kf) (λ_=>true) (λ(i:Nat)=>D.int (i:Int)) (λi=>D.int ((H.cut k).getD i 0)) (λi=>D.str (H.kn ((H.al j k i).headD 0))) δ (qb H.p.toNat) none none (λi hi=>⟨rfl,λ_=>by
    have hi':=wb.mp hi;obtain⟨ix,f1,f2⟩:=Av H.cut i ((H.cut k).getD i 0) (H.hp j) (all i hi');have e3:=ixS H.kn (H.hp j) ix f2
    have cm:=BX (fe:=Vj) (H.C j) i (λc hc=>by rw[Gr H o j c hc];exact hi') (by unfold Hs.C;rw[la];omega) (sd (.int (i:Int))::sd (.int ((H.cut k).getD i 0))::δ) (λq e=>by
     unfold Vj
     simp only[b2,Qa,Ya,Res.bind_ok,e])
    have fl:(((H.C j).map λc=>c.getD i 0).map D.int).all Mc=true:=O13.flat_ints _
    have id:TL (.lst (((H.C j).map λc=>c.getD i 0).map D.int)) [.int ((H.cut k).getD i 0)]=.ok (.int (ix:Int)):=by
     unfold TL;dsimp only;rw[fl,if_pos (show(Mc (.int ((H.cut k).getD i 0))&&true)=true from rfl)];unfold Hs.C;rw[xh]at f1 ⊢
     rw[xh];have f1':List.findIdx? (λz=>Tf z (D.int ((H.cut k).getD i 0))) (List.map ((D.int∘λc=>c.getD i 0)∘H.cut) (H.hp j))=some ix:=f1;rw[f1']
    have sq:Oc (cD (H.C j))=.ok ((H.C j).map pD):=rfl;have d8:∀ a b:Option S,Ea 8 (a::b::δ)=.ok (cD (H.C j)):=λa b=>by rw[hδ];rfl
    have p7':∀ a b:Option S,Ga 7 (a::b::δ)=.ok (sL (H.hp j) H.kn):=λa b=>by rw[hδ];rfl
    unfold Kf;simp only[b1,b2,bL,De,Rb,Aa,Ra,Sa,Va,Gb,d8,p7',Res.bind_ok,sq,cm,id,e3]
    rfl⟩)
   rw[filter_all]at this
   refine this.trans (congrArg Res.ok ?_);unfold Hs.crs;rw[xh];rfl
  have s9:Oe 9 (Rb 2 (Xb 2 (Ka (Za 0) (Ka (Za 1) Wb))) (λ_=>.ok true) Kf (b1 Xd (Aa (Mo Se (Cc 3) (Ga 7)) Ra))) δ= .nx (δ.set 9 (some (.o ((H.crs j k).map λk=>D.str (H.kn k))))):=by
   simp only[Oe,Rb,b1,Mo,Aa,Ra,Sa,q3,p7,Res.bind_ok,g2,he,cm,Eb]
  unfold Jd Ue;rw[z6];unfold Of Bb;rw[tst,Ub,if_pos rfl];show Em (Oe 9 _ (Uo 6 δ)) _=_;rw[z6,s9,Fb,hδ];show Tb _ (Au H [sd (.str (H.N j)),sd (sL (H.hp j) H.kn),sd (cD (H.C j)),sd (.str (H.kn k)),x8,sd (sL (H.crs j k) H.kn)])=_;simp only[Tb,b1,Aa,Ra,Sa,Va,Gb,Res.bind_ok,Ef,ba,rd,ve,qf,if_true,reduceIte,Eb]
theorem RZ(H:Hs)(o:H.Ok)(hpn:H.pn=H.n):La 4 Ye [sL H.drs H.N,H.grD,H.waD,dK H.plT]=.ok H.flV:=by
 have sq:Oc (sL H.drs H.N)=.ok (H.drs.map λj=>D.str (H.N j)):=rfl;have sg:Oc H.grD=.ok (H.ks.map λk=>D.tup [.str (H.kn k),sL (H.th k) H.N]):=rfl;have en:Xd [H.grD]=.ok (H.ks.map λ(k:Nat)=>D.tup [.int (k:Int),.tup [.str (H.kn k),sL (H.th k) H.N]]):=Zr (λk=>D.tup [.str (H.kn k),sL (H.th k) H.N]) H.n;have hn:=o.hn
 have main:=Gj (t:=Za 4) (body:=Ah) (λ_ δ=>∃ x4 x5 x6 x7 x8 x9:Option S,δ=Au H [x4,x5,x6,x7,x8,x9])
  (λj=>D.str (H.N j)) (λj=>(H.kb j).isSome) (λj=>.rt (H.faV j)) (λj=>.inl ⟨_,rfl⟩) H.drs 0 (Au H [none,none,none,none,none,none]) (λi j δ hj hI=>by
   obtain⟨x4,x5,x6,x7,x8,x9,rfl⟩:=hI;have hj':=wb.mp (qe hj);have jm:j∈H.drs:=wb.mpr hj';refine⟨Au H [sd (.str (H.N j)),x5,x6,x7,x8,x9],rfl,?_⟩
   have cm1:Yc 2 (Xb 2 (Ka (Za 0) (Ka (Za 1) Wb))) Ff Hf (Au H [sd (.str (H.N j)),x5,x6,x7,x8,x9]) (H.ks.map λ(k:Nat)=>D.tup [.int (k:Int),.tup [.str (H.kn k),sL (H.th k) H.N]])=.ok ((H.hp j).map λk=>D.str (H.kn k)):=by
    refine Ac ?_ (by rw[la];unfold Hs.ks;rw[lc];omega)
    have:=Dj (gc:=Ff) (fe:=Hf) (λk=>H.ob k j) (λ(k:Nat)=>D.int (k:Int)) (λk=>D.tup [.str (H.kn k),sL (H.th k) H.N]) (λk=>D.str (H.kn k)) (Au H [sd (.str (H.N j)),x5,x6,x7,x8,x9]) H.ks none none (λk hk=>by
     have hk':=wb.mp hk
     have e1:Qe H.waD (.int (k:Int))=.ok (sL (H.own k) H.N):=Bq _ _ _ (Ei (by omega) (by
      show((qb H.n).map λk=>sL ((qb H.m).filter (H.ob k)) (nm H.X H.Q))[((k:Int)).toNat]? =_
      rw[show((k:Int)).toNat=k by omega,wc,jg hk'];rfl))
     have e2:=JC (Fw H o) (MF H k) jm;rw[LF H k jm]at e2
     have e3:Qe (.tup [.str (H.kn k),sL (H.th k) H.N]) (.int 0)=.ok (.str (H.kn k)):=rfl;refine⟨?_,λ_=>?_⟩
     .unfold Ff;simp only[tR,b2,Qa,Ya,Res.bind_ok,e1,e2,Wa]
     .unfold Hf
      simp only[b2,kD,Qa,Ya,Res.bind_ok,e3])
    rw[show H.ks.filter (λk=>H.ob k j)=H.hp j from(QL H hpn j).symm]at this
    exact this
   have cm2:∀ (a4 a6 a7 a8 a9:Option S),Yc 1 (Za 0) (λ_=>.ok true) Jf (Au H [a4,sd (sL (H.hp j) H.kn),a6,a7,a8,a9]) ((H.hp j).map λk=>D.str (H.kn k))=.ok ((H.hp j).map λk=>pD (H.cut k)):=λa4 a6 a7 a8 a9=>by
    refine Ac ?_ (by rw[la];have:=Lw H o j;omega)
    have:=Vd (gc:=λ_=>.ok true) (fe:=Jf) (λ_=>true) (λk=>D.str (H.kn k)) (λk=>pD (H.cut k)) (Au H [a4,sd (sL (H.hp j) H.kn),a6,a7,a8,a9]) (H.hp j) none (λa ha=>⟨rfl,λ_=>by
     have e2:=Vo H o (Es H |>.mp ha).2.2;unfold Jf
     simp only[Mo,Qa,Nh,Qf,Res.bind_ok,e2]⟩)
    rw[filter_all]at this
    exact this
   have inner:=Gj (t:=Xb 2 (Ka (Za 7) (Ka (Za 8) Wb))) (body:=Jd) (λ_ δ=>∃ x7 x8:Option S,δ=Au H [sd (.str (H.N j)),sd (sL (H.hp j) H.kn),sd (cD (H.C j)),x7,x8,x9])
    (λk=>D.tup [.str (H.kn k),sL (H.th k) H.N]) (H.bad j) (λk=>.rt (.tup [.str (H.N j),.str (H.kn k),sL (H.crs j k) H.kn])) (λk=>.inl ⟨_,rfl⟩) (qb H.pn) 0 (Au H [sd (.str (H.N j)),sd (sL (H.hp j) H.kn),sd (cD (H.C j)),x7,x8,x9]) (λi2 k δ hk hI=>by
     obtain⟨x7,x8,rfl⟩:=hI;have hk':=wb.mp (qe hk);refine⟨_,rfl,?_⟩;rcases CS H o hpn (j:=j) (show k<H.n by omega) (sd (sL (H.th k) H.N)) x9 _ rfl with⟨b,e⟩|⟨b,e⟩
     .exact .inl ⟨b,_,e,_,_,rfl⟩
     .exact .inr ⟨b,e⟩) ⟨_,_,rfl⟩
   rw[show qb H.pn=H.ks by rw[hpn];rfl]at inner
   have two:∀ v,Te (Xb 2 (Ka (Za 7) (Ka (Za 8) Wb))) Jd (H.ks.map λk=>D.tup [.str (H.kn k),sL (H.th k) H.N]) (Au H [sd (.str (H.N j)),sd (sL (H.hp j) H.kn),sd (cD (H.C j)),x7,x8,x9])=v->Ah (Au H [sd (.str (H.N j)),x5,x6,x7,x8,x9])=v:=λv hv=>by
    have v1:Oe 5 (Rb 2 (Xb 2 (Ka (Za 0) (Ka (Za 1) Wb))) Ff Hf (b1 Xd (Aa (Ea 1) Ra))) (Au H [sd (.str (H.N j)),x5,x6,x7,x8,x9])=.nx (Au H [sd (.str (H.N j)),some (.o ((H.hp j).map λk=>D.str (H.kn k))),x6,x7,x8,x9]):=by
     simp only[Oe,Rb,b1,Aa,Ra,Sa,Va,Gb,Res.bind_ok,en,cm1,Eb,zb,Sc]
    have z5:Uo 5 (Au H [sd (.str (H.N j)),some (.o ((H.hp j).map λk=>D.str (H.kn k))),x6,x7,x8,x9])=Au H [sd (.str (H.N j)),sd (sL (H.hp j) H.kn),x6,x7,x8,x9]:=rfl;have s5:Oc (sL (H.hp j) H.kn)=.ok ((H.hp j).map λk=>D.str (H.kn k)):=rfl
    have v2:Oe 6 (Rb 1 (Za 0) (λ_=>.ok true) Jf (b1 Oc (Ea 5))) (Au H [sd (.str (H.N j)),sd (sL (H.hp j) H.kn),x6,x7,x8,x9])=.nx (Au H [sd (.str (H.N j)),sd (sL (H.hp j) H.kn),some (.o ((H.hp j).map λk=>pD (H.cut k))),x7,x8,x9]):=by
     simp only[Oe,Rb,b1,Va,Gb,Res.bind_ok,s5,cm2,Eb,zb,Sc]
    have z6:Uo 6 (Au H [sd (.str (H.N j)),sd (sL (H.hp j) H.kn),some (.o ((H.hp j).map λk=>pD (H.cut k))),x7,x8,x9])=Au H [sd (.str (H.N j)),sd (sL (H.hp j) H.kn),sd (cD (H.C j)),x7,x8,x9]:=by
     rw[KY];rfl
    unfold Ah Bb;rw[v1,Fb];unfold Ue;rw[z5,v2,Fb];rw[z6];simp only[Df,b1,Va,Gb,Res.bind_ok,sg,Eb];exact hv
   rcases inner with⟨k,ek,f⟩|⟨en',δ2,f,z7,z8,rfl⟩
   .have ek':H.kb j=some k:=by unfold Hs.kb;rw[hpn];exact ek
    refine .inr ⟨by rw[ek'];rfl,?_⟩;unfold Hs.faV;rw[ek'];exact two _ f
   .have en2:H.kb j=none:=by unfold Hs.kb;rw[hpn];exact en'
    exact .inl ⟨by rw[en2];rfl,_,two _ f,_,_,_,_,_,_,rfl⟩) ⟨none,none,none,none,none,none,rfl⟩
 unfold Hs.flV;refine Jb _ _ _ _ ?_ rfl;unfold Ye Jr
 walk_at "s"
 rcases main with⟨j,ej,f⟩|⟨en',δ2,f,_⟩
 .rw[ej];simp only[kD,b1,Bb,Df,Tb,Va,Res.bind_ok,sq,f,Eb,Le,Lb]
 .rw[en'];simp only[kD,b1,Bb,Df,Tb,Va,Res.bind_ok,sq,f,Eb,Fb,Lb]
theorem As:∀ (ds:List D),(∀ d∈ds,Tf d d=true)->Yx ds ds=true
 | [],_=>by simp[Yx]
 |d::ds,h=>by rw[Yx,h d ib,As ds λx hx=>h x (ua _ hx)];rfl
theorem Il:∀ (n:Nat) (d:D),Qb n d=true->Tf d d=true
 |_,.non,_=>by simp[Tf]
 |_,.bl b,_=>by simp[Tf]
 |_,.int i,_=>by simp[Tf]
 |_,.str x,_=>by simp[Tf]
 |0,.tup ds,h=>by simp[Qb]at h
 |0,.lst ds,h=>by simp[Qb]at h
 |n+1,.tup ds,h=>by
  rw[Qb,Uf]at h
  rw[Tf];exact As ds λd hd=>Il n d (h d hd)
 |n+1,.lst ds,h=>by
  rw[Qb,Uf]at h
  rw[Tf];exact As ds λd hd=>Il n d (h d hd)
 |_,.dct _ _,h=>by simp[Qb]at h
 |_,.exc _ _,h=>by simp[Qb]at h
 |_,.obj _ _ _,h=>by simp[Qb]at h
theorem AL(d:D)(h:Qb 40 d=true):Al d d=.ok (.bl true):=by
 unfold Al;rw[if_pos (by rw[h];rfl),Il 40 d h]
theorem HN(d:D)(h:Qb 40 d=true):FU d d=.ok (.bl false):=by
 unfold FU;rw[if_pos (by rw[h];rfl),Il 40 d h];rfl
theorem Rv:∀ {l:List (Hb×D)},(l.map (·.1)).Nodup->∀ p∈l,Fc l p.1=some p.2
 | [],_,p,h=>by simp at h
 |q::l,hn,p,h=>by
  rw[ac,mm]at hn
  rcases zc.mp h with rfl|h
  .exact Ng rfl
  .rw[Rf (λz=>hn.1 (by rw[show q.1=p.1 from z];exact sj h))];exact Rv hn.2 p h
variable{m l:List (Hb×D)}
theorem SE(hn:(m.map (·.1)).Nodup)(hl:l.length=m.length)(hs:∀ p∈l,p∈m/\Qb 39 p.2=true):L3.eqT l m=true:=by
 unfold L3.eqT;rw[ze,Uf];refine⟨by rw[hl];simp,λp hp=>?_⟩;rw[Rv hn p (hs p hp).1];exact Il 39 p.2 (hs p hp).2
theorem OQ(h:∀ p∈l,Qb 39 p.2=true):(l.map (·.2)).all (Qb 39)=true:=by
 rw[Uf];intro d hd;obtain⟨p,hp,rfl⟩:=jf.mp hd;exact h p hp
theorem YK(h1:∀ p∈l,Qb 39 p.2=true)(h2:∀ p∈m,Qb 39 p.2=true)(h:L3.eqT l m=true):Q9 (dK l) (dK m)=.ok (.bl true)/\GI (dK l) (dK m)=.ok (.bl false):=by
 constructor
 .show(if((l.map (·.2)).all (Qb 39)&&(m.map (·.2)).all (Qb 39))=true then Res.ok (D.bl (L3.eqT ((l.map (·.1)).zip (l.map (·.2))) ((m.map (·.1)).zip (m.map (·.2))))) else .stuck)=_;rw[OQ h1,OQ h2,Uj,Uj,h];rfl
 .show(if((l.map (·.2)).all (Qb 39)&&(m.map (·.2)).all (Qb 39))=true then Res.ok (D.bl (!L3.eqT ((l.map (·.1)).zip (l.map (·.2))) ((m.map (·.1)).zip (m.map (·.2))))) else .stuck)=_;rw[OQ h1,OQ h2,Uj,Uj,h];rfl
theorem Bp(H:Hs):∀ p∈H.plT,Qb 39 p.2=true:=λp hp=>by
 unfold Hs.plT tK at hp;obtain⟨k,_,rfl⟩:=jf.mp hp;exact VF 38 _
theorem CM(ks:List Nat)(f:Nat->xa)(g:Nat->D)(h:ks.length<=1000):Gs (dK (tK ks f g))=.ok (ks.map λk=>D.tup [.str (f k),g k]):=by
 show(@ite (Res (List D)) (((tK ks f g).map (·.1)).length<=sizeLine) (xc _) (.ok ((((tK ks f g).map (·.1)).zip ((tK ks f g).map (·.2))).map λp=>.tup [Ms p.1,p.2])) .stuck)=_;rw[if_pos (by unfold tK;rw[la,la];exact OG h),Uj];unfold tK;rw[xh];rfl
def Z0(X Q:xa)(p d h s:Int)(m ct n:Nat)(f:Nat->Int)(cut:Nat->List Int)(po:List Nat):Hs:=⟨X,Q,p,d,h,s,m,ct,n,λk=>Tx m (f k),λk=>Cu m ct (f k),n,cut,po⟩
theorem CN{p d s:Int}{m:Nat}{f:Nat->Int}{cut:Nat->List Int}{po:List Nat}(hxq:X.length<=10/\Q.length<=10/\BQ X/\BQ Q)(hp:1<=p)(hp2:p<=100)(m1:1<=m)(hm:m<=19)(hc:ct<m)(hn:n<=19)(hcut:∀ k,k<n->Bd p d (cut k))(h1:po.Nodup)(h2:∀ k,k∈po↔k<n):(Z0 X Q p d d s m ct n f cut po).Ok:=
 ⟨hxq,hp,hp2,m1,hm,hc,hn,λk _=>A6 m ct (f k) (by omega),jd _,λk hk=>(hcut k hk).1,λk hk=>(hcut k hk).2,Int.le_refl _,h1,h2⟩
theorem GN(n:Nat):(qb n).reverse.Nodup:=List.pairwise_reverse.mpr (vk.imp (λh=>qk h) gu)
abbrev NJ(a0 a1 a2 a3 a4 a5 a6 a7 a8 a9 a10 a11:Option S):Ca:= [a0,a1,a2,a3,a4,a5,a6,a7,a8,a9,a10,a11]
theorem GO(ns:List Int):∃ p d s:Int,(1<=p/\p<=24)/\2<=d/\1<=s/\∀ G:Ca->Out,(Bb (Vb 1 (b2 Pc (kD (.int 2)) (b2 Zc (b1 (La 2 Na) (Aa (Ea 0) (Aa (kD (.int 12)) Ra))) (kD (.int 5)))))
  (Bb (Vb 2 (b1 Ef (Aa (b2 Pc (kD (.int 1)) (b2 Zc (b1 (La 2 Na) (Aa (Ea 0) (Aa (kD (.int 13)) Ra))) (kD (.int 24)))) (Aa (Ea 1) (Aa (Ea 1) (Aa (b2 Pc (kD (.int 1)) (b2 Zc (b1 (La 2 Na) (Aa (Ea 0) (Aa (kD (.int 14)) Ra))) (b2 Fp (Ga 1) (kD (.int 1))))) Ra))))))
  (Bb (Of (tR (b2 Al (b2 Zc (b1 (La 2 Na) (Aa (Ea 0) (Aa (kD (.int 15)) Ra))) (kD (.int 2))) (kD (.int 0)))) (Vb 2 (b1 Ef (Aa (b2 Pc (kD (.int 1)) (b2 Zc (b1 (La 2 Na) (Aa (Ea 0) (Aa (kD (.int 13)) Ra))) (kD (.int 3)))) (Aa (Ea 1) (Aa (Ea 1) (Aa (b2 Qe (Ga 2) (kD (.int 3))) Ra)))))) Out.nx) G)))
   (NJ (sd (.lst (ns.map D.int))) none none none none none none none none none none none)=G (NJ (sd (.lst (ns.map D.int))) (sd (.int d)) (sd (Br p d d s)) none none none none none none none none none):=by
 obtain⟨cf,hcf⟩:=Sr ns;have c12:=hcf 12 (by decide) (by decide);have c13:=hcf 13 (by decide) (by decide);have c14:=hcf 14 (by decide) (by decide);have c15:=hcf 15 (by decide) (by decide);have m12:=Cg (cf 12) 5 (by decide);have a1:=zg (cf 12) (show(5:Int)≠0 by decide);generalize cf 12%5=q1 at*;generalize hd:2+q1=d at*;have ad:Pc (.int 2) (.int q1)=.ok (.int d):=by rw[<-hd];rfl
 have m13:=Cg (cf 13) 24 (by decide);have m3:=Cg (cf 13) 3 (by decide);have a2:=zg (cf 13) (show(24:Int)≠0 by decide);have a3:=yf (cf 13) (show(0:Int)<24 by decide);have a4:=zg (cf 13) (show(3:Int)≠0 by decide);have a5:=yf (cf 13) (show(0:Int)<3 by decide);have m14:=Cg (cf 14) (d-1) (by omega);have a6:=zg (cf 14) (show d-1≠0 by omega);have m15:=Cg (cf 15) 2 (by decide);have r3:∀ a b c e:Int,Qe (.tup [.int a,.int b,.int c,.int e]) (.int 3)=.ok (.int e):=λ_ _ _ _=>rfl;cases hz:(cf 15%2==0) with
 |true=>
  refine⟨1+cf 13%3,d,1+cf 14%(d-1),by omega,by omega,by omega,λG=>?_⟩;simp only[Bb,Vb,Of,tR,b1,b2,kD,Aa,Ra,Sa,Va,Gb,Qa,Ya,Res.bind_ok,Lc,Ui,c12,c13,c14,c15,m12,ad,m13,m3,m14,m15,Cd,hz,r3,Ef,ba,rd,ve,qf,if_true,reduceIte,Wa,Ub,Eb,Fb,zb,Sc]
 |false=>
  refine⟨1+cf 13%24,d,1+cf 14%(d-1),by omega,by omega,by omega,λG=>?_⟩;simp only[Bb,Vb,Of,tR,b1,b2,kD,Aa,Ra,Sa,Va,Gb,Qa,Ya,Res.bind_ok,Lc,Ui,c12,c13,c14,c15,m12,ad,m13,m3,m14,m15,Cd,hz,r3,Ef,ba,rd,ve,qf,if_true,if_false,reduceIte,uc,Wa,Ub,Eb,Fb,zb,Sc]
theorem law_true(ns:List Int)(hl:ns.length<=63):VM [.lst (ns.map D.int)]=.ok (.bl true):=by
 obtain⟨p,d,s,hp,hd,hs,er⟩:=GO ns;obtain⟨X,Q,hxq,hnm⟩:=EU ns;obtain⟨m,ct,n,f,b1',b2',b3',b4',b5',eh⟩:=OL ns X Q hnm 6 7 (by decide) (by decide) (by decide) (by decide);obtain⟨cut,hcut,ep⟩:=FV ns X Q p d d s hp.1 (by omega) hd hs (λk=>Tx m (f k)) n (by omega);obtain⟨v,ev⟩:=Tn ns 40 (by decide) (by decide);have mv:=Cg v 2 (by decide);obtain⟨H,hH⟩:∃ H:Hs,H=Z0 X Q p d d s m ct n f cut (qb n):=⟨_,rfl⟩
 have o0:(Z0 X Q p d d s m ct n f cut (qb n)).Ok:=CN hxq hp.1 (by omega) b1' (by omega) b3' (by omega) hcut gu λk=>wb;have o:H.Ok:=by rw[hH];exact o0
 have oR:(Z0 X Q p d d s m ct n f cut (qb n).reverse).Ok:=CN hxq hp.1 (by omega) b1' (by omega) b3' (by omega) hcut (GN n) λk=>by rw[qm,wb]
 have hpn:H.pn=H.n:=by rw[hH];rfl
 have du:=RZ H o hpn;have mk:=PL H o;have kn:(λk=>nm X Q (20+k))=H.kn:=by rw[hH];rfl
 have plE:tK (qb n) (λk=>nm X Q (20+k)) (λk=>pD (cut k))=H.plT:=by rw[hH];rfl
 rw[plE]at ep
 have inj:Ig (qb n) H.kn:=Pw H λk hk=>by have:=wb.mp hk;omega
 have it:Gs (dK H.plT)=.ok ((qb n).map λk=>D.tup [.str (H.kn k),pD (cut k)]):=by
  have:=CM (qb n) H.kn (λk=>pD (cut k)) (by rw[lc];omega);rw[<-kn]at this ⊢
  rw[plE]at this
  exact this
 have sl:R3 (.lst ((qb n).map λk=>D.tup [.str (H.kn k),pD (cut k)])) none (some (-1))=.ok ((qb n).reverse.map λk=>D.tup [.str (H.kn k),pD (cut k)]):=by
  show(if(some (-1:Int))=some 0 then Res.stuck else Res.ok (Mj _ none (some (-1))))=_;rw[if_neg (by decide),Ov,qv]
 have injR:Ig (qb n).reverse H.kn:=λa ha b hb e=>inj a (qm.mp ha) b (qm.mp hb) e
 have dr:Qg (.lst ((qb n).reverse.map λk=>D.tup [.str (H.kn k),pD (cut k)]))=.ok (dK (Z0 X Q p d d s m ct n f cut (qb n).reverse).plT):=by
  have:=Pq (g:=λk=>pD (cut k)) injR (GN n);rw[<-kn]at this ⊢
  exact this
 have ndP:(H.plT.map (·.1)).Nodup:=YA (ID H o) o.po1;have eqS:=YK (Bp H) (Bp H) (SE ndP rfl λp hp=>⟨hp,Bp H p hp⟩)
 have plR:(Z0 X Q p d d s m ct n f cut (qb n).reverse).plT=H.plT.reverse:=by
  rw[hH];show tK (qb n).reverse _ _=(tK (qb n) _ _).reverse;unfold tK;rw[qv];rfl
 have eqR':=YK (l:=(Z0 X Q p d d s m ct n f cut (qb n).reverse).plT) (m:=H.plT) (Bp _) (Bp H) (SE ndP (by rw[plR,br]) λp hp=>⟨by rw[plR]at hp;exact qm.mp hp,Bp _ p hp⟩);have dd:Xr (dK H.plT)=.ok (dK H.plT):=rfl
 have hand:∃ HP:D,GI HP (dK H.plT)=.ok (.bl false)/\La 2 Ae [H.hsD,HP]=.ok H.flV/\∀ (a1 a2 a3 a4 a5 a6 a9 a10 a11:Option S),Of (tR (b2 Al (b2 Zc (b1 (La 2 Na) (Aa (Ea 0) (Aa (kD (.int 40)) Ra))) (kD (.int 2))) (kD (.int 1)))) (Vb 8 (b1 Qg (De (b3 R3 (De (Dy Gs (Ea 7))) Tg (b1 Bo (b1 Sw (kD (.int 1)))))))) Out.nx (NJ (sd (.lst (ns.map D.int))) a1 a2 a3 a4 a5 a6 (sd (dK H.plT)) (sd (dK H.plT)) a9 a10 a11)
    = .nx (NJ (sd (.lst (ns.map D.int))) a1 a2 a3 a4 a5 a6 (sd (dK H.plT)) (sd HP) a9 a10 a11):=by
  by_cases hz:(v%2==1)=true
  .have fo:=Xp _ oR (show 0<=d by omega);refine⟨_,eqR'.2,by rw[hH];exact fo,λa1 a2 a3 a4 a5 a6 a9 a10 a11=>?_⟩;simp only[Of,Vb,tR,b1,Dy,b2,b3,De,kD,Tg,Aa,Ra,Sa,Va,Gb,Qa,Ya,Res.bind_ok,Rl,Fh,ev,mv,Cd,hz,it,sl,dr,Wa,Ub,Eb,zb,Sc,if_true,reduceIte]
  .have hz':(v%2==1)=false:=by simpa using hz
   refine⟨dK H.plT,eqS.2,Xp H o (by rw[hH];show 0<=d;omega),λa1 a2 a3 a4 a5 a6 a9 a10 a11=>?_⟩;simp only[Of,tR,b1,b2,kD,Aa,Ra,Sa,Va,Res.bind_ok,ev,mv,Cd,hz',Wa,Ub,uc,if_false,reduceIte]
 obtain⟨HP,q2,fo,q5⟩:=hand;have asg:∀ (a0 a1 a2 a3 a4 a5 a6:Option S) (A B C D':D) (r:Ca),SG (Xb 4 (Ka (Za 3) (Ka (Za 4) (Ka (Za 5) (Ka (Za 6) Wb))))) (a0::a1::a2::a3::a4::a5::a6::r) (.tup [A,B,C,D'])=.nx (a0::a1::a2::sd A::sd B::sd C::sd D'::r):=λ_ _ _ _ _ _ _ _ _ _ _ _=>rfl
 have mk':La 4 (Ss 4 "House" Jg) [Br p d d s,.lst (Qq X Q m),.lst (OP X Q m ct),.lst (Aq X Q (λk=>Tx m (f k)) n)]=.ok H.hsD:=by
  rw[hH]at mk ⊢;exact mk
 have du':La 4 Ye [.lst (Qq X Q m),.lst (Aq X Q (λk=>Tx m (f k)) n),.lst (QJ X Q m (λk=>Cu m ct (f k)) n),dK H.plT]=.ok H.flV:=by
  rw[hH]at du ⊢;exact du
 have fl:H.flV=.non\/∃ (x y:xa) (ks:List Nat),ks.length<=1000/\H.flV=.tup [.str x,.str y,.lst (ks.map λk=>D.str (H.kn k))]:=by
  unfold Hs.flV;split
  .exact .inl rfl
  .refine .inr ⟨_,_,_,?_,rfl⟩;unfold Hs.crs;rw[la,lc];have:=o.hp2;omega
 clear hcut hnm hxq o o0 oR du mk it sl dr eqS eqR' plR ndP inj injR plE hH;generalize H.hsD=HD at*;generalize H.plT=PT at*;generalize H.flV=TV at*;generalize Qq X Q m=DR at*;generalize OP X Q m ct=WG at*;generalize Aq X Q (λk=>Tx m (f k)) n=GR at*;generalize QJ X Q m (λk=>Cu m ct (f k)) n=WA at*;generalize Br p d d s=RU at*;unfold VM AX
 walk_at "s"
 refine(congrArg Uy (er _)).trans ?_;generalize ns.map D.int=NN at*
 have l1:∀ G:Ca->Out,(Bb (Ku (Xb 4 (Ka (Za 3) (Ka (Za 4) (Ka (Za 5) (Ka (Za 6) Wb))))) (b1 (La 3 Kd) (Aa (Ea 0) (Aa (kD (.int 6)) (Aa (kD (.int 7)) Ra)))))
  (Bb (Vb 7 (b1 (La 3 Yd) (Aa (Ea 0) (Aa (Ea 2) (Aa (Ea 5) Ra)))))
  (Bb (Vb 8 (b1 Xr (Ga 7))) G))) (NJ (sd (.lst NN)) (sd (.int d)) (sd RU) none none none none none none none none none)=G (NJ (sd (.lst NN)) (sd (.int d)) (sd RU) (sd (.lst DR)) (sd (.lst WG)) (sd (.lst GR)) (sd (.lst WA)) (sd (dK PT)) (sd (dK PT)) none none none):=λG=>by
  simp only[Bb,Vb,Ku,kD,b1,Aa,Ra,Sa,Va,Gb,Qa,Ya,Res.bind_ok,Eb,Fb,eh,asg,ep,dd,zb,Sc]
 rw[l1];show Uy (Em (Of _ _ _ _) _)=_;rw[q5,Fb];have e1:=AL TV;have e2:=HN TV;rcases fl with rfl|⟨x,y,ks,hk,rfl⟩
 .have n1:FU .non .non=.ok (.bl false):=rfl;have i1:Yn .non=.ok (.bl true):=rfl;have o1:∀ δ,ED 10 δ .non=.nx (δ.set 10 (sd .non)):=λ_=>rfl;have w1:∀ a0 a1 a2 a3 a4 a5 a6 a7 a8 a9 a11,vwT 10 (NJ a0 a1 a2 a3 a4 a5 a6 a7 a8 a9 (sd .non) a11)=NJ a0 a1 a2 a3 a4 a5 a6 a7 a8 a9 (sd .non) a11:=λ_ _ _ _ _ _ _ _ _ _ _=>rfl;simp only[Bb,Vb,SF,Of,sVw,V7,Ci,tR,Tb,De,b1,b2,kD,Aa,Ra,Sa,Va,Gb,Qa,Ya,Res.bind_ok,Eb,Fb,Le,Aj,mk',fo,du',o1,w1,q2,n1,i1,Wa,Dg,Ub,if_true,if_false,reduceIte,uc,Lb,zb,Sc]
 .have sh:Qb 40 (.tup [.str x,.str y,.lst (ks.map λk=>D.str (H.kn k))])=true:=by
   rw[Qb,Uf];intro z hz;simp only[zc,pf,or_false]at hz;rcases hz with rfl|rfl|rfl
   .rfl
   .rfl
   .rw[Qb,Uf];exact YF H.kn ks _
  have e1':=e1 sh;have e2':=e2 sh;generalize hL:(ks.map λk=>D.str (H.kn k))=L at*;have lL:L.length<=100000:=by rw[<-hL,la];omega
  have i1:Yn (.tup [.str x,.str y,.lst L])=.ok (.bl false):=rfl;have i2:LC "tuple" (.tup [.str x,.str y,.lst L])=.ok (.bl true):=rfl;have i3:Qe (.tup [.str x,.str y,.lst L]) (.int 2)=.ok (.lst L):=rfl;have i4:LC "list" (.lst L)=.ok (.bl true):=rfl;have o1:∀ δ,ED 10 δ (.tup [.str x,.str y,.lst L])=.nx (δ.set 10 (some (.k .tup [.d (.str x),.d (.str y),.l L]))):=λ_=>rfl;have w1:∀ a0 a1 a2 a3 a4 a5 a6 a7 a8 a9 a11,vwT 10 (NJ a0 a1 a2 a3 a4 a5 a6 a7 a8 a9 (some (.k .tup [.d (.str x),.d (.str y),.l L])) a11)=NJ a0 a1 a2 a3 a4 a5 a6 a7 a8 a9 (sd (.tup [.str x,.str y,.lst L])) a11:=λ_ _ _ _ _ _ _ _ _ _ _=>rfl;have ap:∀ a0 a1 a2 a3 a4 a5 a6 a7 a8 a9 a11,PQ 10 (kD (.str "x")) (NJ a0 a1 a2 a3 a4 a5 a6 a7 a8 a9 (some (.k .tup [.d (.str x),.d (.str y),.l L])) a11)=.nx (NJ a0 a1 a2 a3 a4 a5 a6 a7 a8 a9 (some (.k .tup [.d (.str x),.d (.str y),.l (L++ [.str "x"])])) a11):=λ_ _ _ _ _ _ _ _ _ _ _=>if_pos lL;simp only[Bb,Vb,SF,Of,V7,Ci,Qt,tR,Tb,De,b1,b2,kD,Aa,Ra,Sa,Va,Gb,Qa,Ya,Res.bind_ok,Eb,Fb,Le,Aj,mk',fo,du',o1,w1,q2,e2',i1,i2,i3,i4,Wa,Dg,Ub,if_true,if_false,reduceIte,nj,uc,Lb,zb,Sc];rw[ap,Fb];simp only[Tb,b1,b2,Aa,Ra,Sa,Va,Gb,Qa,Ya,Res.bind_ok,fo,e1',Eb,Lb]
end G
local macro_rules| `(tactic| walk_at "memfree")=> `(tactic| first|exact cr _|exact List.forall_mem_cons.mpr ⟨(by intro h;first|exact absurd h (by decide)|exact Or.inl rfl|exact Or.inr rfl),by walk_at "memfree"⟩)
local macro_rules| `(tactic| walk_at "memdis")=> `(tactic| first|exact cr _|exact List.forall_mem_cons.mpr ⟨by decide +kernel,by walk_at "memdis"⟩)
local macro_rules| `(tactic| walk_at "compok")=> `(tactic| exact⟨rfl,by decide +kernel,by walk_at "memfree",rfl,by walk_at "memdis"⟩)
namespace G
open PySem PySem.Spec PyProof.Rows L2 L3
def top(i:Nat):sf:=PySem.Challenge.pw_wardsmith_k42_a_fault_told.main.body.getD i (.Pass ⟨0,0,0,0⟩)
abbrev Io:sf:=top 26
abbrev Am:sf:=VS (top 25) 0
abbrev Mi:sf:=top 28
abbrev Hh:sf:=top 33
abbrev Jk:sf:=top 34
abbrev Oi:sf:=top 29
abbrev Gh:sf:=top 31
abbrev Ni:sf:=top 30
abbrev Qi:sf:=top 32
abbrev Kh:sf:=top 6
abbrev Ri:sf:=top 5
abbrev Rk:sf:=top 10
abbrev Ih:sf:=top 21
abbrev Jh:sf:=top 20
abbrev Kk:sf:=top 11
abbrev Gg:sf:=top 23
abbrev Mh:sf:=top 9
abbrev Uk:sf:=top 8
abbrev Nk:sf:=top 22
abbrev Lk:sf:=top 14
abbrev Sk:sf:=top 13
abbrev Vk:sf:=top 15
abbrev Bm:sf:=top 18
abbrev Lh:sf:=top 19
abbrev Pk:sf:=top 17
abbrev Mt:sf:=top 35
structure Txt(K:td)(mg:xa->Option Fa):Prop where
 n_abs:mg "abs"=none
 n_dict:mg "dict"=none
 n_enumerate:mg "enumerate"=none
 n_isinstance:mg "isinstance"=none
 n_len:mg "len"=none
 n_list:mg "list"=none
 n_max:mg "max"=none
 n_min:mg "min"=none
 n_range:mg "range"=none
 n_set:mg "set"=none
 n_sorted:mg "sorted"=none
 n_tuple:mg "tuple"=none
 o_House_doors:FldK K "House" "doors"
 o_House_grants:FldK K "House" "grants"
 o_House_rules:FldK K "House" "rules"
 o_House_wings:FldK K "House" "wings"
variable{w:vd}{K:td}{mg:xa->Option Fa}{f:ca}{fd:wf}
section
variable {P:ic}{base:ke}
theorem CJ:FnScope ["things"] ["things"] (Pa Io):=⟨rfl,rfl,rfl,by decide +kernel,rfl,by decide +kernel,by decide +kernel⟩
theorem LI(F:Fun K "copied" "copied" Io f fd)(hm:mg "copied"=some (.ref f))(T:Txt K mg)  :Fn P w K mg base 1 "copied" 1 Zh:=
 Vc (k:=0) F CJ hm (F.binds (ps:= ["things"]) λ_ _ _ _ _ _=>Z4 λ_=>rfl) λcdv A outer s H E hr=>
  (Ib (Tc (Jc (Hd ["name","names"] ["things"] (by walk_at "compok") rfl (Kg (Ja 0)) (λC fp pins s H=>⟨(Wf rfl (Ob (Cb 0 (show vj (["name","names","things"]:List xa) by decide +kernel)) (Ob (Cb 1 (show vj (["name","names","things"]:List xa) by decide +kernel)) Vf))),Zk,(Om (Ba (Ja 0) (Ba (Jc (Jl T.n_list (Ia 1))) Ab)))⟩)))))
theorem SO:FnScope ["self","rules","doors","wings","grants"] ["self","rules","doors","wings","grants"] (Pa Am):=⟨rfl,rfl,rfl,by decide +kernel,rfl,by decide +kernel,by decide +kernel⟩
theorem PN{C:ca}(F:Fun K "__init__" "House.__init__" Am f fd)(M:Mk K C f)(hm:mg "House"=some (.ref C))(hc:kl K jb "House"=some (some (.ref C)))(cl:Cls K C)(na_rules:NoAttr K C "rules")(na_doors:NoAttr K C "doors")(na_wings:NoAttr K C "wings")(na_grants:NoAttr K C "grants")(T:Txt K mg)(F_copied:Fn P w K mg base 1 "copied" 1 Zh):FnI P w K mg base 3 "House" 4 4 Jg:=
 MS (k:=1) F SO M hm hc (F.binds (ps:= ["self","rules","doors","wings","grants"]) λ_ _ _ _ _ _=>us5 λ_ _ _ _ _=>rfl) λcdv A outer s H E hr=>
  (Tq cl na_rules (Ja 1)
  (Tq cl na_doors (Jc (Jl T.n_list (Ia 2)))
  (Tq cl na_wings (Kb (F_copied.mono (by decide)) hr (Ba (Ja 3) Ab))
  (Tq cl na_grants (Kb (F_copied.mono (by decide)) hr (Ba (Ja 4) Ab))
  F0))))
theorem Wk:FnScope ["_law_script","_law_k","_law_number"] ["_law_script","_law_k"] (Pa Mi):=⟨rfl,rfl,rfl,by decide +kernel,rfl,by decide +kernel,by decide +kernel⟩
theorem Uw(F:Fun K "_law_cell" "_law_cell" Mi f fd)(hm:mg "_law_cell"=some (.ref f))(T:Txt K mg)  :Fn P w K mg base 1 "_law_cell" 2 Na:=
 Vc (k:=0) F Wk hm (F.binds (ps:= ["_law_script","_law_k"]) λ_ _ _ _ _ _=>HQ λ_ _=>rfl) λcdv A outer s H E hr=>
  (Oa (Qk (Sd N9 (Ia 1) (Ma (Iq T.n_len (Ia 0)))) (Ib (Tc (Sf (Ia 0) (Ia 1)))) Ed)
  (Oa (Kc 2 Wk.nd (Qd (Ma (Jp (Ia 1) (Ma Xa))) (Ma Xa)))
  (Oa (Qk (Sd UQ (Ma (Iq T.n_len (Ia 0))) (Ma Xa)) (Ib (Kc 2 Wk.nd (Qd (Ia 2) (Ma (Jp (Ma (Fd (Ma (Sf (Ia 0) (Ma (Fd (Ma (Jp (Ia 1) (Ma Xa))) (Ma (Iq T.n_len (Ia 0))))))) (Ma Xa))) (Ma Xa)))))) Ed)
  (Ib (Tc (Fd (Ma (Jp (Ia 2) (Ia 2))) (Ma Xa)))))))
theorem Yi:FnScope ["_law_some","_law_cuts_here","_law_place","_law_cut"] ["_law_some","_law_cuts_here"] (Pa Hh):=⟨rfl,rfl,rfl,by decide +kernel,rfl,by decide +kernel,by decide +kernel⟩
theorem Eu(F:Fun K "_law_opens" "_law_opens" Hh f fd)(hm:mg "_law_opens"=some (.ref f))(T:Txt K mg)  :Fn P w K mg base 1 "_law_opens" 2 Ld:=
 Vc (k:=0) F Yi hm (F.binds (ps:= ["_law_some","_law_cuts_here"]) λ_ _ _ _ _ _=>HQ λ_ _=>rfl) λcdv A outer s H E hr=>
  (Oa (Qk (Sd (Um (Ml hr)) (Ia 0) (Ma (Jc (Ej Ab)))) (Ib (Tc LJ)) Ed)
  (Oa (Lm rf rfl (Wi T.n_enumerate (Ba (Ja 1) Ab)) (Wf rfl (Ob (Cb 2 Yi.nd) (Ob (Cb 3 Yi.nd) Vf))) (Ib (Qk (MG (Ia 3) (Ma (Jc (Hd ["_law_own"] ["_law_some","_law_cuts_here","_law_place","_law_cut"] (by walk_at "compok") rfl (Kg (Ja 0)) (λC fp pins s H=>⟨(Cb 0 (show vj (["_law_own","_law_some","_law_cuts_here","_law_place","_law_cut"]:List xa) by decide +kernel)),Zk,(Sf (Ia 0) (Ia 3))⟩))))) (Ib (Tc LJ)) Ed)))
  (Ib (Tc LJ))))
theorem Ce:FnScope ["_law_doors","_law_grants","_law_wants","_law_plan_here","_law_door","_law_names","_law_some","_law_key","_law_things","_law_cross"] ["_law_doors","_law_grants","_law_wants","_law_plan_here"] (Pa Jk):=⟨rfl,rfl,rfl,by decide +kernel,rfl,by decide +kernel,by decide +kernel⟩
theorem Wz(F:Fun K "_law_due" "_law_due" Jk f fd)(hm:mg "_law_due"=some (.ref f))(T:Txt K mg)(F__law_opens:Fn P w K mg base 1 "_law_opens" 2 Ld):Fn P w K mg base 2 "_law_due" 4 Ye:=
 Vc (k:=1) F Ce hm (F.binds (ps:= ["_law_doors","_law_grants","_law_wants","_law_plan_here"]) λ_ _ _ _ _ _=>us4 λ_ _ _ _=>rfl) λcdv A outer s H E hr=>
  (Oa (Lm rf rfl (Kg (Ja 0)) (Cb 4 Ce.nd) (Oa (Ul 5 Ce.nd (Hd ["_law_k","_law_row"] ["_law_doors","_law_grants","_law_wants","_law_plan_here","_law_door","_law_names","_law_some","_law_key","_law_things","_law_cross"] (by walk_at "compok") rfl (Wi T.n_enumerate (Ba (Ja 1) Ab)) (λC fp pins s H=>⟨(Wf rfl (Ob (Cb 0 (show vj (["_law_k","_law_row","_law_doors","_law_grants","_law_wants","_law_plan_here","_law_door","_law_names","_law_some","_law_key","_law_things","_law_cross"]:List xa) by decide +kernel)) (Ob (Cb 1 (show vj (["_law_k","_law_row","_law_doors","_law_grants","_law_wants","_law_plan_here","_law_door","_law_names","_law_some","_law_key","_law_things","_law_cross"]:List xa) by decide +kernel)) Vf))),(Nm (Q4 (Ia 6) (Ma (Sf (Ia 4) (Ia 0))))),(Sf (Ia 1) (Ma Xa))⟩)))
  (Oa (Sg 5 (Ul 6 Ce.nd (Hd ["_law_name_here"] ["_law_doors","_law_grants","_law_wants","_law_plan_here","_law_door","_law_names","_law_some","_law_key","_law_things","_law_cross"] (by walk_at "compok") rfl (Kg (Ja 5)) (λC fp pins s H=>⟨(Cb 0 (show vj (["_law_name_here","_law_doors","_law_grants","_law_wants","_law_plan_here","_law_door","_law_names","_law_some","_law_key","_law_things","_law_cross"]:List xa) by decide +kernel)),Zk,(Cj (Ug 4) (Ia 0))⟩))))
  (Ib (Sg 6 (Lm rf rfl (Kg (Ja 1)) (Wf rfl (Ob (Cb 7 Ce.nd) (Ob (Cb 8 Ce.nd) Vf))) (Ib (Sg 6 (Qk (UW (w_and (MG (Ia 7) (Ia 5)) (BE (NG (Kb (F__law_opens.mono (by decide)) hr (Ba (Ja 6) (Ba (Cj (Ug 3) (Ia 7)) Ab))))))) (Oa (Sg 6 (by refine OD 9 Ce.nd ["_law_p","_law_cut"] ["_law_doors","_law_grants","_law_wants","_law_plan_here","_law_door","_law_names","_law_some","_law_key","_law_things","_law_cross"] (by walk_at "compok") rfl (Wi T.n_enumerate (Ba (Cj (Ug 3) (Ia 7)) Ab))  ?_;exact(λC fp pins s H=>⟨(Wf rfl (Ob (Cb 0 (show vj (["_law_p","_law_cut","_law_doors","_law_grants","_law_wants","_law_plan_here","_law_door","_law_names","_law_some","_law_key","_law_things","_law_cross"]:List xa) by decide +kernel)) (Ob (Cb 1 (show vj (["_law_p","_law_cut","_law_doors","_law_grants","_law_wants","_law_plan_here","_law_door","_law_names","_law_some","_law_key","_law_things","_law_cross"]:List xa) by decide +kernel)) Vf))),Zk,(Sf (Ia 7) (Ma (RW (Ma (Jc (Hd ["_law_own"] ["_law_p","_law_cut","_law_doors","_law_grants","_law_wants","_law_plan_here","_law_door","_law_names","_law_some","_law_key","_law_things","_law_cross"] (by walk_at "compok") rfl (Kg (Ja 8)) (λC fp pins s H=>⟨(Cb 0 (show vj (["_law_own","_law_p","_law_cut","_law_doors","_law_grants","_law_wants","_law_plan_here","_law_door","_law_names","_law_some","_law_key","_law_things","_law_cross"]:List xa) by decide +kernel)),Zk,(Sf (Ia 0) (Ia 1))⟩)))) (Ba (Ja 1) Ab))))⟩)))
  (Ib (Sg 9 (Tc (Om (Ba (Ja 4) (Ba (Ja 7) (Ba (Ja 9) Ab)))))))) Ed)))))))))
  (Ib (Tc CB)))
theorem Xk:FnScope ["_law_script","_law_k","_law_some","_law_pad"] ["_law_script","_law_k"] (Pa Oi):=⟨rfl,rfl,rfl,by decide +kernel,rfl,by decide +kernel,by decide +kernel⟩
theorem Ww(F:Fun K "_law_name" "_law_name" Oi f fd)(hm:mg "_law_name"=some (.ref f))(T:Txt K mg)(F__law_cell:Fn P w K mg base 1 "_law_cell" 2 Na):Fn P w K mg base 2 "_law_name" 2 Mb:=
 Vc (k:=1) F Xk hm (F.binds (ps:= ["_law_script","_law_k"]) λ_ _ _ _ _ _=>HQ λ_ _=>rfl) λcdv A outer s H E hr=>
  (Oa (Kc 2 Xk.nd KG)
  (Oa (Kc 3 Xk.nd (Kb (F__law_cell.mono (by decide)) hr (Ba (Ja 0) (Ba Xa Ab))))
  (Ib (Tc (Qd (Ma (Qd (Ma (Qd (Ma (QP (Ma KG) (Ma (Fd (Ia 3) (Ma Xa))))) (Ma (Sf (Ia 2) (Ma (Fd (Ia 1) (Ma Xa))))))) (Ma (Sf (Ia 2) (Ma (Fd (Ma (Wt (Ia 1) (Ma Xa))) (Ma Xa))))))) (Ma (QP (Ma KG) (Ma (Fd (Ma (Wt (Ia 3) (Ma Xa))) (Ma Xa))))))))))
theorem Nb:FnScope ["_law_script","_law_most_doors","_law_most_keys","_law_doors","_law_cut","_law_wings","_law_wants","_law_grants","_law_k","_law_cell_here","_law_own","_law_things"] ["_law_script","_law_most_doors","_law_most_keys"] (Pa Gh):=⟨rfl,rfl,rfl,by decide +kernel,rfl,by decide +kernel,by decide +kernel⟩
theorem Du(F:Fun K "_law_house" "_law_house" Gh f fd)(hm:mg "_law_house"=some (.ref f))(T:Txt K mg)(F__law_cell:Fn P w K mg base 1 "_law_cell" 2 Na)(F__law_name:Fn P w K mg base 2 "_law_name" 2 Mb):Fn P w K mg base 3 "_law_house" 3 Kd:=
 Vc (k:=2) F Nb hm (F.binds (ps:= ["_law_script","_law_most_doors","_law_most_keys"]) λ_ _ _ _ _ _=>A5 λ_ _ _=>rfl) λcdv A outer s H E hr=>
  (Oa (by refine OD 3 Nb.nd ["_law_k"] ["_law_script","_law_most_doors","_law_most_keys","_law_doors","_law_cut","_law_wings","_law_wants","_law_grants","?","_law_cell_here","_law_own","_law_things"] (by walk_at "compok") rfl (Fs T.n_range (Ba (Qd (Ma Xa) (Ma (Fd (Ma (Kb (F__law_cell.mono (by decide)) hr (Ba (Ja 0) (Ba Xa Ab)))) (Ia 1)))) Ab))  ?_;exact(λC fp pins s H=>⟨(Cb 0 (show vj (["_law_k","_law_script","_law_most_doors","_law_most_keys","_law_doors","_law_cut","_law_wings","_law_wants","_law_grants","?","_law_cell_here","_law_own","_law_things"]:List xa) by decide +kernel)),Zk,(Kb (F__law_name.mono (by decide)) hr (Ba (Ja 1) (Ba (Ja 0) Ab)))⟩))
  (Oa (Kc 4 Nb.nd (Fd (Ma (Kb (F__law_cell.mono (by decide)) hr (Ba (Ja 0) (Ba Xa Ab)))) (Ma (Iq T.n_len (Ia 3)))))
  (Oa (Kc 5 Nb.nd (Jc (Ej (Ba (Om (Ba (Kb (F__law_name.mono (by decide)) hr (Ba (Ja 0) (Ba Xa Ab))) (Ba (Jc (W5 (Ia 3) (Ys (Ja 4)) Xs)) Ab))) (Ba (Om (Ba (Kb (F__law_name.mono (by decide)) hr (Ba (Ja 0) (Ba Xa Ab))) (Ba (Jc (Ej (Ba (Kb (F__law_name.mono (by decide)) hr (Ba (Ja 0) (Ba Xa Ab))) (Ba (Sf (Ia 3) (Ma Xa)) Ab)))) Ab))) Ab)))))
  (Oa (Ul 6 Nb.nd (Ej Ab))
  (Oa (Ul 7 Nb.nd (Ej Ab))
  (Oa (Lm rf rfl (Fs T.n_range (Ba (Qd (Ma Xa) (Ma (Fd (Ma (Kb (F__law_cell.mono (by decide)) hr (Ba (Ja 0) (Ba Xa Ab)))) (Ia 2)))) Ab)) (Cb 8 Nb.nd) (Oa (Kc 9 Nb.nd (Fd (Ma (Kb (F__law_cell.mono (by decide)) hr (Ba (Ja 0) (Ba (Qd (Ma Xa) (Ia 8)) Ab)))) (Ma (BY (Ma Xa) (Ma Xa)))))
  (Oa (Sg 3 (Ul 10 Nb.nd (Hd ["_law_place","_law_door"] ["_law_script","_law_most_doors","_law_most_keys","_law_doors","_law_cut","_law_wings","_law_wants","_law_grants","_law_k","_law_cell_here","_law_own","_law_things"] (by walk_at "compok") rfl (Wi T.n_enumerate (Ba (Ja 3) Ab)) (λC fp pins s H=>⟨(Wf rfl (Ob (Cb 0 (show vj (["_law_place","_law_door","_law_script","_law_most_doors","_law_most_keys","_law_doors","_law_cut","_law_wings","_law_wants","_law_grants","_law_k","_law_cell_here","_law_own","_law_things"]:List xa) by decide +kernel)) (Ob (Cb 1 (show vj (["_law_place","_law_door","_law_script","_law_most_doors","_law_most_keys","_law_doors","_law_cut","_law_wings","_law_wants","_law_grants","_law_k","_law_cell_here","_law_own","_law_things"]:List xa) by decide +kernel)) Vf))),(Nm (Sd (Um (Ml hr)) (Ma (Fd (Ma (Wt (Ia 11) (Ma (Qd (Ma Xa) (Ma (Jp (Ma Xa) (Ia 0))))))) (Ma Xa))) (Ma Xa))),(Ja 1)⟩))))
  (Oa (Kc 11 Nb.nd (Jc (FX (Ia 10) Xs (Ys (JG (Ma Xa))))))
  (Oa (Qk (Sd (Um (Ml hr)) (Ma (Fd (Ia 9) (Ma Xa))) (Ma Xa)) (Oa (Kc 11 Nb.nd (Jc (EX (Ia 11) (Ma (Jc (Ej (Ba (Kb (F__law_name.mono (by decide)) hr (Ba (Ja 0) (Ba Xa Ab))) Ab)))))))
  (Ib (Sg 3 (Ul 10 Nb.nd (Hd ["_law_place","_law_door"] ["_law_script","_law_most_doors","_law_most_keys","_law_doors","_law_cut","_law_wings","_law_wants","_law_grants","_law_k","_law_cell_here","_law_own","_law_things"] (by walk_at "compok") rfl (Wi T.n_enumerate (Ba (Ja 3) Ab)) (λC fp pins s H=>⟨(Wf rfl (Ob (Cb 0 (show vj (["_law_place","_law_door","_law_script","_law_most_doors","_law_most_keys","_law_doors","_law_cut","_law_wings","_law_wants","_law_grants","_law_k","_law_cell_here","_law_own","_law_things"]:List xa) by decide +kernel)) (Ob (Cb 1 (show vj (["_law_place","_law_door","_law_script","_law_most_doors","_law_most_keys","_law_doors","_law_cut","_law_wings","_law_wants","_law_grants","_law_k","_law_cell_here","_law_own","_law_things"]:List xa) by decide +kernel)) Vf))),(Nm (UW (w_or (Q4 (Ia 1) (Ia 12)) (Uv (Sd O5 (Ia 0) (Ia 6)))))),(Ja 1)⟩)))))) Ed)
  (Oa (Qk (UW (w_or (Sd (Um (Ml hr)) (Ia 11) (Ma (Jc (Ej Ab)))) (Uv (Sd (Um (Ml hr)) (Ma (Fd (Ia 9) (Ma Xa))) (Ma Xa))))) (Oa (Kc 11 Nb.nd (Jc (Ej (Ba (Kb (F__law_name.mono (by decide)) hr (Ba (Ja 0) (Ba Xa Ab))) Ab))))
  (Ib (Sg 3 (Ul 10 Nb.nd (Hd ["_law_place","_law_door"] ["_law_script","_law_most_doors","_law_most_keys","_law_doors","_law_cut","_law_wings","_law_wants","_law_grants","_law_k","_law_cell_here","_law_own","_law_things"] (by walk_at "compok") rfl (Wi T.n_enumerate (Ba (Ja 3) Ab)) (λC fp pins s H=>⟨(Wf rfl (Ob (Cb 0 (show vj (["_law_place","_law_door","_law_script","_law_most_doors","_law_most_keys","_law_doors","_law_cut","_law_wings","_law_wants","_law_grants","_law_k","_law_cell_here","_law_own","_law_things"]:List xa) by decide +kernel)) (Ob (Cb 1 (show vj (["_law_place","_law_door","_law_script","_law_most_doors","_law_most_keys","_law_doors","_law_cut","_law_wings","_law_wants","_law_grants","_law_k","_law_cell_here","_law_own","_law_things"]:List xa) by decide +kernel)) Vf))),(Nm (UW (w_or (Sd (Um (Ml hr)) (Ia 0) (Ma Xa)) (Uv (Sd O5 (Ia 0) (Ia 6)))))),(Ja 1)⟩)))))) Ed)
  (Oa (Sl 7 (Om (Ba (Kb (F__law_name.mono (by decide)) hr (Ba (Ja 0) (Ba (Qd (Ma Xa) (Ia 8)) Ab))) (Ba (Ja 11) Ab))))
  (Ib (Sg 10 (Sl 6 (Ja 10)))))))))))
  (Ib (Sg 6 (Sg 7 (Sg 3 (Tc (Om (Ba (Ja 3) (Ba (Ja 5) (Ba (Ja 7) (Ba (Ja 6) Ab))))))))))))))))
theorem Bc:FnScope ["_law_script","_law_k","_law_rules","_law_places","_law_depths","_law_heights","_law_step","_law_cell_here","_law_found","_law_place","_law_low","_law_high"] ["_law_script","_law_k","_law_rules"] (Pa Ni):=⟨rfl,rfl,rfl,by decide +kernel,rfl,by decide +kernel,by decide +kernel⟩
theorem Vw(F:Fun K "_law_cuts" "_law_cuts" Ni f fd)(hm:mg "_law_cuts"=some (.ref f))(T:Txt K mg)(F__law_cell:Fn P w K mg base 1 "_law_cell" 2 Na):Fn P w K mg base 2 "_law_cuts" 3 Gd:=
 Vc (k:=1) F Bc hm (F.binds (ps:= ["_law_script","_law_k","_law_rules"]) λ_ _ _ _ _ _=>A5 λ_ _ _=>rfl) λcdv A outer s H E hr=>
  (Oa (UX (Ja 2) (Wf rfl (Ob (Cb 3 Bc.nd) (Ob (Cb 4 Bc.nd) (Ob (Cb 5 Bc.nd) (Ob (Cb 6 Bc.nd) Vf))))))
  (Oa (Kc 7 Bc.nd (Fd (Ma (Kb (F__law_cell.mono (by decide)) hr (Ba (Ja 0) (Ba (Ja 1) Ab)))) (Ma (BY (Ma Xa) (Ma Xa)))))
  (Oa (Ul 8 Bc.nd (Ej (Ba (Fd (Ia 7) (Ia 4)) Ab)))
  (Oa (Lm rf rfl (RL T.n_range (Ba Xa (Ba (Ja 3) Ab))) (Cb 9 Bc.nd) (Oa (Kc 7 Bc.nd (Qd (Ma (Fd (Ma (Jp (Ia 7) (Ma Xa))) (Ma Xa))) (Ia 9)))
  (Oa (Kc 10 Bc.nd (D8 rfl T.n_max (Ba Xa (Ba (Vv (Ma (Sf (Ia 8) (Ma (JG (Ma Xa))))) (Ia 6)) Ab))))
  (Oa (Kc 11 Bc.nd (E8 rfl T.n_min (Ba (Vv (Ia 4) (Ma Xa)) (Ba (Qd (Ma (Sf (Ia 8) (Ma (JG (Ma Xa))))) (Ia 6)) Ab))))
  (Ib (Sl 8 (Qd (Ia 10) (Ma (Fd (Ma (Wt (Ia 7) (Ma Xa))) (Ma (Qd (Ma (Vv (Ia 11) (Ia 10))) (Ma Xa))))))))))))
  (Ib (Tc (Vx T.n_tuple (Ia 8))))))))
theorem Uc:FnScope ["_law_script","_law_rules","_law_grants","_law_plan_here","_law_k","_law_row","_law_cuts_here","_law_other","_law_at"] ["_law_script","_law_rules","_law_grants"] (Pa Qi):=⟨rfl,rfl,rfl,by decide +kernel,rfl,by decide +kernel,by decide +kernel⟩
theorem Xw(F:Fun K "_law_plan" "_law_plan" Qi f fd)(hm:mg "_law_plan"=some (.ref f))(T:Txt K mg)(F__law_cell:Fn P w K mg base 1 "_law_cell" 2 Na)(F__law_cuts:Fn P w K mg base 2 "_law_cuts" 3 Gd):Fn P w K mg base 3 "_law_plan" 3 Yd:=
 Vc (k:=2) F Uc hm (F.binds (ps:= ["_law_script","_law_rules","_law_grants"]) λ_ _ _ _ _ _=>A5 λ_ _ _=>rfl) λcdv A outer s H E hr=>
  (Oa (PD 3 Uc.nd)
  (Oa (Lm rf rfl (Wi T.n_enumerate (Ba (Ja 2) Ab)) (Wf rfl (Ob (Cb 4 Uc.nd) (Ob (Cb 5 Uc.nd) Vf))) (Oa (Kc 6 Uc.nd (Kb (F__law_cuts.mono (by decide)) hr (Ba (Ja 0) (Ba (Qd (Ma Xa) (Ia 4)) (Ba (Ja 1) Ab)))))
  (Oa (Qk (UW (w_and (Sd UQ (Ia 4) (Ma Xa)) (BE (Sd (Um (Ml hr)) (Ma (Fd (Ma (Kb (F__law_cell.mono (by decide)) hr (Ba (Ja 0) (Ba (Qd (Ma Xa) (Ia 4)) Ab)))) (Ma Xa))) (Ma Xa))))) (Oa (Kc 7 Uc.nd (Cj (Ug 3) (Ma (Sf (Ma (Sf (Ia 2) (Ma (Fd (Ma (Wt (Ma (Kb (F__law_cell.mono (by decide)) hr (Ba (Ja 0) (Ba (Qd (Ma Xa) (Ia 4)) Ab)))) (Ma Xa))) (Ia 4))))) (Ma Xa)))))
  (Oa (Kc 8 Uc.nd (Fd (Ma (Kb (F__law_cell.mono (by decide)) hr (Ba (Ja 0) (Ba (Qd (Ma Xa) (Ia 4)) Ab)))) (Ma (Qd (Ma (Sf (Ia 1) (Ma Xa))) (Ma Xa)))))
  (Ib (Qk (UW (w_or (Sd (Um (Ml hr)) (Ia 8) (Ma (Sf (Ia 1) (Ma Xa)))) (w_or (Sd M9 (Ma (B8 T.n_abs (Ma (Vv (Ma (Sf (Ia 7) (Ia 8))) (Ma (Sf (Ia 6) (Ma (Vv (Ia 8) (Ma Xa))))))))) (Ma (Sf (Ia 1) (Ma Xa)))) (Uv (Sd (Um (Ml hr)) (Ia 8) (Ma Xa)))))) (Ib (Kc 6 Uc.nd (Qd (Ma (CY (Ia 6) Xs (Ys (Ja 8)))) (Ma (CY (Ia 7) (Ys (Ja 8)) Xs))))) Ed)))) Ed)
  (Ib (QD 3 (Ja 6) (Sf (Ia 5) (Ma Xa)))))))
  (Ib (RO 3 (RD 3)))))
theorem Lu:FnScope ["rules"] ["rules"] (Pa Kh):=⟨rfl,rfl,rfl,by decide +kernel,rfl,by decide +kernel,by decide +kernel⟩
theorem Hu(F:Fun K "heights_of" "heights_of" Kh f fd)(hm:mg "heights_of"=some (.ref f))(T:Txt K mg)  :Fn P w K mg base 1 "heights_of" 1 Je:=
 Vc (k:=0) F Lu hm (F.binds (ps:= ["rules"]) λ_ _ _ _ _ _=>Z4 λ_=>rfl) λcdv A outer s H E hr=>
  (Ib (Tc (Sf (Ia 0) (Ma Xa))))
theorem Lx:FnScope ["rules"] ["rules"] (Pa Ri):=⟨rfl,rfl,rfl,by decide +kernel,rfl,by decide +kernel,by decide +kernel⟩
theorem Yw(F:Fun K "places_of" "places_of" Ri f fd)(hm:mg "places_of"=some (.ref f))(T:Txt K mg)  :Fn P w K mg base 1 "places_of" 1 Bf:=
 Vc (k:=0) F Lx hm (F.binds (ps:= ["rules"]) λ_ _ _ _ _ _=>Z4 λ_=>rfl) λcdv A outer s H E hr=>
  (Ib (Tc (Sf (Ia 0) (Ma Xa))))
theorem Ti:FnScope ["rules","some","barrel","place","pin"] ["rules","some"] (Pa Rk):=⟨rfl,rfl,rfl,by decide +kernel,rfl,by decide +kernel,by decide +kernel⟩
theorem BA(F:Fun K "least_of" "least_of" Rk f fd)(hm:mg "least_of"=some (.ref f))(T:Txt K mg)(F_heights_of:Fn P w K mg base 1 "heights_of" 1 Je)(F_places_of:Fn P w K mg base 1 "places_of" 1 Bf):Fn P w K mg base 2 "least_of" 2 Ag:=
 Vc (k:=1) F Ti hm (F.binds (ps:= ["rules","some"]) λ_ _ _ _ _ _=>HQ λ_ _=>rfl) λcdv A outer s H E hr=>
  (Oa (Ul 2 Ti.nd (Ej Ab))
  (Oa (Lm rf rfl (Fs T.n_range (Ba (Kb (F_places_of.mono (by decide)) hr (Ba (Ja 0) Ab)) Ab)) (Cb 3 Ti.nd) (Oa (Kc 4 Ti.nd (Vx T.n_tuple (Ma (Jc (JH rfl T.n_sorted T.n_set (Ma (Jc (Hd ["one"] ["rules","some","barrel","place","pin"] (by walk_at "compok") rfl (Kg (Ja 1)) (λC fp pins s H=>⟨(Cb 0 (show vj (["one","rules","some","barrel","place","pin"]:List xa) by decide +kernel)),Zk,(Sf (Ia 0) (Ia 4))⟩)))))))))
  (Oa (Qk (Sd UQ (Ma (Iq T.n_len (Ia 4))) (Ma (Kb (F_heights_of.mono (by decide)) hr (Ba (Ja 0) Ab)))) (Ib C7) Ed)
  (Ib (Sl 2 (Ja 4))))))
  (Ib (Tc (Vx T.n_tuple (Ia 2))))))
theorem Mm:FnScope ["rules","door","some","refusal"] ["rules","door","some"] (Pa Ih):=⟨rfl,rfl,rfl,by decide +kernel,rfl,by decide +kernel,by decide +kernel⟩
theorem Fu(F:Fun K "barrel_for" "barrel_for" Ih f fd)(hm:mg "barrel_for"=some (.ref f))(T:Txt K mg)(F_least_of:Fn P w K mg base 2 "least_of" 2 Ag):Fn P w K mg base 3 "barrel_for" 3 Ic:=
 Vc (k:=2) F Mm hm (F.binds (ps:= ["rules","door","some"]) λ_ _ _ _ _ _=>A5 λ_ _ _=>rfl) λcdv A outer s H E hr=>
  (Oa (Qk (Sd (Um (Ml hr)) (Ma (Iq T.n_len (Ia 2))) (Ma Xa)) (Ib (Tc CB)) Ed)
  (Ib (WV 3 [] (F_least_of.toX.mono (by decide)) (cr _) Mm.nd hr (Ba (Ja 0) (Ba (Ja 2) Ab)) N0 Ed (λ_=>(Ib C7)))))
theorem Hg:FnScope ["rules","held","plan","barrels","door","names"] ["rules","held","plan"] (Pa Jh):=⟨rfl,rfl,rfl,by decide +kernel,rfl,by decide +kernel,by decide +kernel⟩
theorem Gu(F:Fun K "barrels_in" "barrels_in" Jh f fd)(hm:mg "barrels_in"=some (.ref f))(T:Txt K mg)(F_barrel_for:Fn P w K mg base 3 "barrel_for" 3 Ic):Fn P w K mg base 4 "barrels_in" 3 Ie:=
 Vc (k:=3) F Hg hm (F.binds (ps:= ["rules","held","plan"]) λ_ _ _ _ _ _=>A5 λ_ _ _=>rfl) λcdv A outer s H E hr=>
  (Oa (PD 3 Hg.nd)
  (Oa (Lm rf rfl (Mw (Ja 1)) (Wf rfl (Ob (Cb 4 Hg.nd) (Ob (Cb 5 Hg.nd) Vf))) (Ib (QD 3 (Kb (F_barrel_for.mono (by decide)) hr (Ba (Ja 0) (Ba (Ja 4) (Ba (Jc (Hd ["name"] ["rules","held","plan","barrels","door","names"] (by walk_at "compok") rfl (Kg (Ja 5)) (λC fp pins s H=>⟨(Cb 0 (show vj (["name","rules","held","plan","barrels","door","names"]:List xa) by decide +kernel)),(Nm (LG (Ia 0) (Ug 3))),(Cj (Ug 3) (Ia 0))⟩))) Ab)))) (Ja 4))))
  (Ib (RO 3 (RD 3)))))
theorem Lg:FnScope ["some","one","cross","place","cut","alike"] ["some","one"] (Pa Kk):=⟨rfl,rfl,rfl,by decide +kernel,rfl,by decide +kernel,by decide +kernel⟩
theorem Xz(F:Fun K "cross_of" "cross_of" Kk f fd)(hm:mg "cross_of"=some (.ref f))(T:Txt K mg)  :Fn P w K mg base 1 "cross_of" 2 Ze:=
 Vc (k:=0) F Lg hm (F.binds (ps:= ["some","one"]) λ_ _ _ _ _ _=>HQ λ_ _=>rfl) λcdv A outer s H E hr=>
  (Oa (Ul 2 Lg.nd (Ej Ab))
  (Oa (Lm rf rfl (Wi T.n_enumerate (Ba (Ja 1) Ab)) (Wf rfl (Ob (Cb 3 Lg.nd) (Ob (Cb 4 Lg.nd) Vf))) (Oa (by refine OD 5 Lg.nd ["number","other"] ["some","one","cross","place","cut","alike"] (by walk_at "compok") rfl (Wi T.n_enumerate (Ba (Ja 0) Ab))  ?_;exact(λC fp pins s H=>⟨(Wf rfl (Ob (Cb 0 (show vj (["number","other","some","one","cross","place","cut","alike"]:List xa) by decide +kernel)) (Ob (Cb 1 (show vj (["number","other","some","one","cross","place","cut","alike"]:List xa) by decide +kernel)) Vf))),(Nm (Sd (Um (Ml hr)) (Ma (Sf (Ia 1) (Ia 5))) (Ia 6))),(Ja 0)⟩))
  (Oa (Qk (Sd (Um (Ml hr)) (Ma (Iq T.n_len (Ia 5))) (Ma Xa)) (Ib (Tc CB)) Ed)
  (Ib (Sl 2 (Sf (Ia 5) (Ma Xa)))))))
  (Ib (RD 2))))
theorem Vl:FnScope ["names","key","plan","cross"] ["names","key","plan"] (Pa Gg):=⟨rfl,rfl,rfl,by decide +kernel,rfl,by decide +kernel,by decide +kernel⟩
theorem Zs(F:Fun K "named_cross" "named_cross" Gg f fd)(hm:mg "named_cross"=some (.ref f))(T:Txt K mg)(F_cross_of:Fn P w K mg base 1 "cross_of" 2 Ze):FnO P w K mg base 2 "named_cross" 3 Wc:=
 LS (k:=1) F Vl hm (F.binds (ps:= ["names","key","plan"]) λ_ _ _ _ _ _=>A5 λ_ _ _=>rfl) λcdv A outer s H E hr=>
  (FW (Kc 3 Vl.nd (Kb (F_cross_of.mono (by decide)) hr (Ba (Jc (Hd ["name"] ["names","key","plan","cross"] (by walk_at "compok") rfl (Kg (Ja 0)) (λC fp pins s H=>⟨(Cb 0 (show vj (["name","names","key","plan","cross"]:List xa) by decide +kernel)),Zk,(Cj (Ug 3) (Ia 0))⟩))) (Ba (Cj (Ug 2) (Ia 1)) Ab)))) NoL.set
  (GW (Hd ["number"] ["names","key","plan","cross"] (by walk_at "compok") rfl (Kg (Ja 3)) (λC fp pins s H=>⟨(Cb 0 (show vj (["number","names","key","plan","cross"]:List xa) by decide +kernel)),Zk,(Sf (Ia 1) (Ia 0))⟩))))
theorem Zi:FnScope ["barrel","one","place","pin"] ["barrel","one"] (Pa Mh):=⟨rfl,rfl,rfl,by decide +kernel,rfl,by decide +kernel,by decide +kernel⟩
theorem Ju(F:Fun K "stopped_at" "stopped_at" Mh f fd)(hm:mg "stopped_at"=some (.ref f))(T:Txt K mg)  :Fn P w K mg base 1 "stopped_at" 2 Qc:=
 Vc (k:=0) F Zi hm (F.binds (ps:= ["barrel","one"]) λ_ _ _ _ _ _=>HQ λ_ _=>rfl) λcdv A outer s H E hr=>
  (Oa (Lm rf rfl (Wi T.n_enumerate (Ba (Ja 0) Ab)) (Wf rfl (Ob (Cb 2 Zi.nd) (Ob (Cb 3 Zi.nd) Vf))) (Ib (Qk (MG (Ma (Sf (Ia 1) (Ia 2))) (Ia 3)) (Ib (Tc (Ja 2))) Ed)))
  (Ib (Tc CB)))
theorem QA:FnScope ["barrel","one"] ["barrel","one"] (Pa Uk):=⟨rfl,rfl,rfl,by decide +kernel,rfl,by decide +kernel,by decide +kernel⟩
theorem EA(F:Fun K "opens_at" "opens_at" Uk f fd)(hm:mg "opens_at"=some (.ref f))(T:Txt K mg)(F_stopped_at:Fn P w K mg base 1 "stopped_at" 2 Qc):Fn P w K mg base 2 "opens_at" 2 Af:=
 Vc (k:=1) F QA hm (F.binds (ps:= ["barrel","one"]) λ_ _ _ _ _ _=>HQ λ_ _=>rfl) λcdv A outer s H E hr=>
  (Ib (Tc (ZX (Ma (Kb (F_stopped_at.mono (by decide)) hr (Ba (Ja 0) (Ba (Ja 1) Ab)))))))
theorem Si:FnScope ["held","barrels","keys","plan","door","barrel","key"] ["held","barrels","keys","plan"] (Pa Nk):=⟨rfl,rfl,rfl,by decide +kernel,rfl,by decide +kernel,by decide +kernel⟩
theorem Zz(F:Fun K "fault_in" "fault_in" Nk f fd)(hm:mg "fault_in"=some (.ref f))(T:Txt K mg)(F_named_cross:FnO P w K mg base 2 "named_cross" 3 Wc)(F_opens_at:Fn P w K mg base 2 "opens_at" 2 Af):FnT P w K mg base 3 "fault_in" 4 Zd:=
 YE (k:=2) F Si hm (F.binds (ps:= ["held","barrels","keys","plan"]) λ_ _ _ _ _ _=>us4 λ_ _ _ _=>rfl) λcdv A outer s H E hr=>
  (EG (XX rf rfl (Mw (Ja 1)) (Wf rfl (Ob (Cb 4 Si.nd) (Ob (Cb 5 Si.nd) Vf))) (Rt (XX rf rfl (Kg (Ja 2)) (Cb 6 Si.nd) (Rt (Hb0 (UW (w_and (S4 (Ia 5)) (w_and (MG (Ia 6) (Ma (Cj (Ug 0) (Ia 4)))) (BE (NG (Kb (F_opens_at.mono (by decide)) hr (Ba (Ja 5) (Ba (Cj (Ug 3) (Ia 6)) Ab)))))))) (Rt (B4 (Ja 4) (Ja 6) (F_named_cross.mono (by decide)) hr (Ba (Jc (Hd ["name"] ["held","barrels","keys","plan","door","barrel","key"] (by walk_at "compok") rfl (Kg (Cj (Ug 0) (Ia 4))) (λC fp pins s H=>⟨(Cb 0 (show vj (["name","held","barrels","keys","plan","door","barrel","key"]:List xa) by decide +kernel)),(Nm (LG (Ia 0) (Ug 4))),(Ja 0)⟩))) (Ba (Ja 6) (Ba (Ja 3) Ab))))) K4)))))
  (Rt (D4 CB)))
theorem Mg:FnScope ["house","name","members","reached","waiting","thing"] ["house","name"] (Pa Lk):=⟨rfl,rfl,rfl,by decide +kernel,rfl,by decide +kernel,by decide +kernel⟩
theorem Yz(F:Fun K "doors_of" "doors_of" Lk f fd)(hm:mg "doors_of"=some (.ref f))(T:Txt K mg)  :Fn P w K mg base 1 "doors_of" 2 Zf:=
 Vc (k:=0) F Mg hm (F.binds (ps:= ["house","name"]) λ_ _ _ _ _ _=>HQ λ_ _=>rfl) λcdv A outer s H E hr=>
  (Oa (Kc 2 Mg.nd (Er rfl T.n_dict (Ma (Jc (EX (Ma (Xt T.o_House_wings (Ja 0))) (Ma (Xt T.o_House_grants (Ja 0))))))))
  (Oa (PD 3 Mg.nd)
  (Oa (Ul 4 Mg.nd (Ej (Ba (Ja 1) Ab)))
  (Oa (YV 100000 rf (Sd UQ (Ma (Iq T.n_len (Ia 4))) (Ma Xa)) (Oa (O3 5 4 Mg.nd)
  (Ib (Qk (R4 (Ia 5) (Ug 3)) (Oa (QD 3 LJ (Ja 5))
  (Ib (M3 4 (O4 (Ug 2) (Ba (Ja 5) (Ba (Jc (Ej Ab)) Ab)))))) Ed))))
  (Ib (RO 3 (Tc (Jc (Hd ["door"] ["house","name","members","reached","waiting","thing"] (by walk_at "compok") rfl (Kg (Xt T.o_House_doors (Ja 0))) (λC fp pins s H=>⟨(Cb 0 (show vj (["door","house","name","members","reached","waiting","thing"]:List xa) by decide +kernel)),(Nm (LG (Ia 0) (Ug 4))),(Ja 0)⟩))))))))))
theorem OA:FnScope ["things"] ["things"] (Pa Sk):=⟨rfl,rfl,rfl,by decide +kernel,rfl,by decide +kernel,by decide +kernel⟩
theorem CA(F:Fun K "names_of" "names_of" Sk f fd)(hm:mg "names_of"=some (.ref f))(T:Txt K mg)  :Fn P w K mg base 1 "names_of" 1 Be:=
 Vc (k:=0) F OA hm (F.binds (ps:= ["things"]) λ_ _ _ _ _ _=>Z4 λ_=>rfl) λcdv A outer s H E hr=>
  (Ib (Tc (Jc (Hd ["name","names"] ["things"] (by walk_at "compok") rfl (Kg (Ja 0)) (λC fp pins s H=>⟨(Wf rfl (Ob (Cb 0 (show vj (["name","names","things"]:List xa) by decide +kernel)) (Ob (Cb 1 (show vj (["name","names","things"]:List xa) by decide +kernel)) Vf))),Zk,(Ja 0)⟩)))))
theorem SA:FnScope ["house"] ["house"] (Pa Vk):=⟨rfl,rfl,rfl,by decide +kernel,rfl,by decide +kernel,by decide +kernel⟩
theorem FA(F:Fun K "spans_of" "spans_of" Vk f fd)(hm:mg "spans_of"=some (.ref f))(T:Txt K mg)(F_doors_of:Fn P w K mg base 1 "doors_of" 2 Zf)(F_names_of:Fn P w K mg base 1 "names_of" 1 Be):Fn P w K mg base 2 "spans_of" 1 Bg:=
 Vc (k:=1) F SA hm (F.binds (ps:= ["house"]) λ_ _ _ _ _ _=>Z4 λ_=>rfl) λcdv A outer s H E hr=>
  (Ib (Tc (Er rfl T.n_dict (Ma (Jc (Hd ["name"] ["house"] (by walk_at "compok") rfl (Kg (Kb (F_names_of.mono (by decide)) hr (Ba (Xt T.o_House_grants (Ja 0)) Ab))) (λC fp pins s H=>⟨(Cb 0 (show vj (["name","house"]:List xa) by decide +kernel)),Zk,(Om (Ba (Ja 0) (Ba (Kb (F_doors_of.mono (by decide)) hr (Ba (Ja 1) (Ba (Ja 0) Ab))) Ab)))⟩)))))))
theorem Nt:FnScope ["house","spans"] ["house"] (Pa Bm):=⟨rfl,rfl,rfl,by decide +kernel,rfl,by decide +kernel,by decide +kernel⟩
theorem AD(F:Fun K "held_by" "held_by" Bm f fd)(hm:mg "held_by"=some (.ref f))(T:Txt K mg)(F_spans_of:Fn P w K mg base 2 "spans_of" 1 Bg):Fn P w K mg base 3 "held_by" 1 Oh:=
 Vc (k:=2) F Nt hm (F.binds (ps:= ["house"]) λ_ _ _ _ _ _=>Z4 λ_=>rfl) λcdv A outer s H E hr=>
  (Oa (Kc 1 Nt.nd (Kb (F_spans_of.mono (by decide)) hr (Ba (Ja 0) Ab)))
  (Ib (Tc (Er rfl T.n_dict (Ma (Jc (Hd ["door"] ["house","spans"] (by walk_at "compok") rfl (Kg (Xt T.o_House_doors (Ja 0))) (λC fp pins s H=>⟨(Cb 0 (show vj (["door","house","spans"]:List xa) by decide +kernel)),Zk,(Om (Ba (Ja 0) (Ba (Jc (Hd ["name","doors"] ["door","house","spans"] (by walk_at "compok") rfl (Mw (Ja 2)) (λC fp pins s H=>⟨(Wf rfl (Ob (Cb 0 (show vj (["name","doors","door","house","spans"]:List xa) by decide +kernel)) (Ob (Cb 1 (show vj (["name","doors","door","house","spans"]:List xa) by decide +kernel)) Vf))),(Nm (Q4 (Ia 2) (Ia 1))),(Ja 0)⟩))) Ab)))⟩))))))))
theorem Mu:FnScope ["house","plan"] ["house","plan"] (Pa Lh):=⟨rfl,rfl,rfl,by decide +kernel,rfl,by decide +kernel,by decide +kernel⟩
theorem Iu(F:Fun K "known_keys" "known_keys" Lh f fd)(hm:mg "known_keys"=some (.ref f))(T:Txt K mg)(F_names_of:Fn P w K mg base 1 "names_of" 1 Be):Fn P w K mg base 2 "known_keys" 2 Ke:=
 Vc (k:=1) F Mu hm (F.binds (ps:= ["house","plan"]) λ_ _ _ _ _ _=>HQ λ_ _=>rfl) λcdv A outer s H E hr=>
  (Ib (Tc (Jc (Hd ["name"] ["house","plan"] (by walk_at "compok") rfl (Kg (Kb (F_names_of.mono (by decide)) hr (Ba (Xt T.o_House_grants (Ja 0)) Ab))) (λC fp pins s H=>⟨(Cb 0 (show vj (["name","house","plan"]:List xa) by decide +kernel)),(Nm (LG (Ia 0) (Ug 2))),(Ja 0)⟩)))))
theorem Hq:FnScope ["house","plan","held"] ["house","plan"] (Pa Pk):=⟨rfl,rfl,rfl,by decide +kernel,rfl,by decide +kernel,by decide +kernel⟩
theorem AA(F:Fun K "fault_of" "fault_of" Pk f fd)(hm:mg "fault_of"=some (.ref f))(T:Txt K mg)(F_barrels_in:Fn P w K mg base 4 "barrels_in" 3 Ie)(F_fault_in:FnT P w K mg base 3 "fault_in" 4 Zd)(F_held_by:Fn P w K mg base 3 "held_by" 1 Oh)(F_known_keys:Fn P w K mg base 2 "known_keys" 2 Ke):FnT P w K mg base 5 "fault_of" 2 Ae:=
 YE (k:=4) F Hq hm (F.binds (ps:= ["house","plan"]) λ_ _ _ _ _ _=>HQ λ_ _=>rfl) λcdv A outer s H E hr=>
  (EG (Pu (Kc 2 Hq.nd (Kb (F_held_by.mono (by decide)) hr (Ba (Ja 0) Ab))) NoR.set)
  (Rt (C4 (F_fault_in.mono (by decide)) hr (Ba (Ja 2) (Ba (Kb (F_barrels_in.mono (by decide)) hr (Ba (Xt T.o_House_rules (Ja 0)) (Ba (Ja 2) (Ba (Ja 1) Ab)))) (Ba (Kb (F_known_keys.mono (by decide)) hr (Ba (Ja 0) (Ba (Ja 1) Ab))) (Ba (Ja 1) Ab)))))))
theorem Pf:FnScope ["_law_script","_law_depths","_law_rules","_law_doors","_law_wings","_law_grants","_law_wants","_law_plan_here","_law_handed","_law_house_here","_law_found","_law_due_here"] ["_law_script"] (Pa Mt):=⟨rfl,rfl,rfl,by decide +kernel,rfl,by decide +kernel,by decide +kernel⟩
theorem L1(F:Fun K "law" "law" Mt f fd)(T:Txt K mg)(F_House:FnI P w K mg base 3 "House" 4 4 Jg)(F__law_cell:Fn P w K mg base 1 "_law_cell" 2 Na)(F__law_due:Fn P w K mg base 2 "_law_due" 4 Ye)(F__law_house:Fn P w K mg base 3 "_law_house" 3 Kd)(F__law_plan:Fn P w K mg base 3 "_law_plan" 3 Yd)(F_fault_of:FnT P w K mg base 5 "fault_of" 2 Ae):FnOk P w K mg base Oo 6 f fd ["_law_script"] (VX K 1 VM):=
 A0 (k:=5) F Pf λcdv A outer s H E hr=>
  (Oa (Kc 1 Pf.nd (Qd (Ma Xa) (Ma (Fd (Ma (Kb (F__law_cell.mono (by decide)) hr (Ba (Ja 0) (Ba Xa Ab)))) (Ma Xa)))))
  (Oa (Kc 2 Pf.nd (Om (Ba (Qd (Ma Xa) (Ma (Fd (Ma (Kb (F__law_cell.mono (by decide)) hr (Ba (Ja 0) (Ba Xa Ab)))) (Ma Xa)))) (Ba (Ja 1) (Ba (Ja 1) (Ba (Qd (Ma Xa) (Ma (Fd (Ma (Kb (F__law_cell.mono (by decide)) hr (Ba (Ja 0) (Ba Xa Ab)))) (Ma (Vv (Ia 1) (Ma Xa)))))) Ab))))))
  (Oa (Qk (Sd (Um (Ml hr)) (Ma (Fd (Ma (Kb (F__law_cell.mono (by decide)) hr (Ba (Ja 0) (Ba Xa Ab)))) (Ma Xa))) (Ma Xa)) (Ib (Kc 2 Pf.nd (Om (Ba (Qd (Ma Xa) (Ma (Fd (Ma (Kb (F__law_cell.mono (by decide)) hr (Ba (Ja 0) (Ba Xa Ab)))) (Ma Xa)))) (Ba (Ja 1) (Ba (Ja 1) (Ba (Sf (Ia 2) (Ma Xa)) Ab))))))) Ed)
  (Oa (UX (Kb (F__law_house.mono (by decide)) hr (Ba (Ja 0) (Ba Xa (Ba Xa Ab)))) (Wf rfl (Ob (Cb 3 Pf.nd) (Ob (Cb 4 Pf.nd) (Ob (Cb 5 Pf.nd) (Ob (Cb 6 Pf.nd) Vf))))))
  (Oa (Kc 7 Pf.nd (Kb (F__law_plan.mono (by decide)) hr (Ba (Ja 0) (Ba (Ja 2) (Ba (Ja 5) Ab)))))
  (Oa (Kc 8 Pf.nd (QW T.n_dict (Ia 7)))
  (Oa (Qk (Sd (Um (Ml hr)) (Ma (Fd (Ma (Kb (F__law_cell.mono (by decide)) hr (Ba (Ja 0) (Ba Xa Ab)))) (Ma Xa))) (Ma Xa)) (Ib (Kc 8 Pf.nd (Er rfl T.n_dict (Ma (Jc (FX (Ma (Jc (HS rfl T.n_list (Ja 7)))) Xs (Ys (JG (Ma Xa))))))))) Ed)
  (Oa (Kc 9 Pf.nd (P4 (F_House.mono (by decide)) hr (Ba (Ja 2) (Ba (Jc (Jl T.n_list (Ia 3))) (Ba (Jc (Jl T.n_list (Ia 4))) (Ba (Jc (Jl T.n_list (Ia 5))) Ab))))))
  (Oa (N3 10 Pf.nd (F_fault_of.mono (by decide)) hr (Ba (Ja 9) (Ba (Ja 8) Ab)))
  (Oa (Kc 11 Pf.nd (Kb (F__law_due.mono (by decide)) hr (Ba (Ja 3) (Ba (Ja 5) (Ba (Ja 6) (Ba (Ja 7) Ab))))))
  (Oa (Qk (G8 10 (UW (w_or (Sd (P5 (Ml hr)) (Ia 8) (Ia 7)) (Uv (Sd (O9 (Ml hr)) (Ia 10) (Ia 11)))))) (Ib (Tc LJ)) Ed)
  (Oa (Qk (F8 (Ia 11)) (Ib (Ma0 10 (Tc (ZX (Ia 10))))) Ed)
  (Oa (Qk (G8 10 (UW (w_or (DY (NG (AY SH (by decide +kernel) T.n_isinstance T.n_tuple (Ia 10)))) (Uv (DY (NG (AY AM (by decide +kernel) T.n_isinstance T.n_list (Ma (Sf (Ia 10) (Ma Xa)))))))))) (Ib (Tc LJ)) Ed)
  (Oa (K3 10 Xa KG)
  (Ib (Tc (C8 (Um (Ml hr)) (Ma (Kb (F_fault_of.fn.mono (by decide)) hr (Ba (Ja 9) (Ba (Ja 8) Ab)))) (Ia 11))))))))))))))))))
end
abbrev NsF(K:td)(n:xa)(f:ca):Prop:=kl K jb n=some (some (.ref f))
abbrev LkF(K:td)(f:ca)(n:xa)(s:sf)(o:Fa)(od:Option ca)(v d m:Fa)(an:Option ca)(c u:Fa)(sl:Array (Option Fa)):Prop:=K.lookup f=some ⟨o,od,.func (fnOf n n (Hi s) (Ad s) (Pa s) .none v d m an c u),sl⟩
variable{l:PySem.W.OpenLaw}
theorem all_mk{h:ke}{fa:ca}(X:K.In h)(G:h.Ns jb mg)(hfa:mg "law"=some (.ref fa))(a0:NsF K "copied" f0)(l0:LkF K f0 "copied" Io oc0 od0 kV0 dc0 pm0 an0 cd0 ct0 sl0)(c0:rh K cd0 "copied"=true)(k0:mf K (.ref f0)=true)(aC1:kl K jb "House"=some (some (.ref C1)))(a1:ik K (.ref C1) "__init__"=some (some (.ref f1)))(i1:isFn K (.ref f1)=true)(l1:K.lookup f1=some ⟨oc1,od1,.func (fnOf "__init__" "House.__init__" (Hi Am) (Ad Am) (Pa Am) .none kV1 dc1 pm1 an1 cd1 ct1),sl1⟩)(c1:rh K cd1 "House.__init__"=true)(k1:mf K (.ref f1)=true)(pg1:plainGet K C1 Str.empty=true)(hd1:wu K C1=true)(po1:plainOver K C1=true)(sa1:ik K (.ref C1) "__setattr__"=some (some (.builtin "object.__setattr__")))(mk1:makesIn K C1=true)(kc1:mf K (.ref C1)=true)(n1_rules:ik K (.ref C1) "rules"=some none)(n1_doors:ik K (.ref C1) "doors"=some none)(n1_wings:ik K (.ref C1) "wings"=some none)(n1_grants:ik K (.ref C1) "grants"=some none)(a2:NsF K "_law_cell" f2)(l2:LkF K f2 "_law_cell" Mi oc2 od2 kV2 dc2 pm2 an2 cd2 ct2 sl2)(c2:rh K cd2 "_law_cell"=true)(k2:mf K (.ref f2)=true)(a3:NsF K "_law_opens" f3)(l3:LkF K f3 "_law_opens" Hh oc3 od3 kV3 dc3 pm3 an3 cd3 ct3 sl3)(c3:rh K cd3 "_law_opens"=true)(k3:mf K (.ref f3)=true)(a4:NsF K "_law_due" f4)(l4:LkF K f4 "_law_due" Jk oc4 od4 kV4 dc4 pm4 an4 cd4 ct4 sl4)(c4:rh K cd4 "_law_due"=true)(k4:mf K (.ref f4)=true)(a5:NsF K "_law_name" f5)(l5:LkF K f5 "_law_name" Oi oc5 od5 kV5 dc5 pm5 an5 cd5 ct5 sl5)(c5:rh K cd5 "_law_name"=true)(k5:mf K (.ref f5)=true)(a6:NsF K "_law_house" f6)(l6:LkF K f6 "_law_house" Gh oc6 od6 kV6 dc6 pm6 an6 cd6 ct6 sl6)(c6:rh K cd6 "_law_house"=true)(k6:mf K (.ref f6)=true)(a7:NsF K "_law_cuts" f7)(l7:LkF K f7 "_law_cuts" Ni oc7 od7 kV7 dc7 pm7 an7 cd7 ct7 sl7)(c7:rh K cd7 "_law_cuts"=true)(k7:mf K (.ref f7)=true)(a8:NsF K "_law_plan" f8)(l8:LkF K f8 "_law_plan" Qi oc8 od8 kV8 dc8 pm8 an8 cd8 ct8 sl8)(c8:rh K cd8 "_law_plan"=true)(k8:mf K (.ref f8)=true)(a9:NsF K "heights_of" f9)(l9:LkF K f9 "heights_of" Kh oc9 od9 kV9 dc9 pm9 an9 cd9 ct9 sl9)(c9:rh K cd9 "heights_of"=true)(k9:mf K (.ref f9)=true)(a10:NsF K "places_of" f10)(l10:LkF K f10 "places_of" Ri oc10 od10 kV10 dc10 pm10 an10 cd10 ct10 sl10)(c10:rh K cd10 "places_of"=true)(k10:mf K (.ref f10)=true)(a11:NsF K "least_of" f11)(l11:LkF K f11 "least_of" Rk oc11 od11 kV11 dc11 pm11 an11 cd11 ct11 sl11)(c11:rh K cd11 "least_of"=true)(k11:mf K (.ref f11)=true)(a12:NsF K "barrel_for" f12)(l12:LkF K f12 "barrel_for" Ih oc12 od12 kV12 dc12 pm12 an12 cd12 ct12 sl12)(c12:rh K cd12 "barrel_for"=true)(k12:mf K (.ref f12)=true)(a13:NsF K "barrels_in" f13)(l13:LkF K f13 "barrels_in" Jh oc13 od13 kV13 dc13 pm13 an13 cd13 ct13 sl13)(c13:rh K cd13 "barrels_in"=true)(k13:mf K (.ref f13)=true)(a14:NsF K "cross_of" f14)(l14:LkF K f14 "cross_of" Kk oc14 od14 kV14 dc14 pm14 an14 cd14 ct14 sl14)(c14:rh K cd14 "cross_of"=true)(k14:mf K (.ref f14)=true)(a15:NsF K "named_cross" f15)(l15:LkF K f15 "named_cross" Gg oc15 od15 kV15 dc15 pm15 an15 cd15 ct15 sl15)(c15:rh K cd15 "named_cross"=true)(k15:mf K (.ref f15)=true)(a16:NsF K "stopped_at" f16)(l16:LkF K f16 "stopped_at" Mh oc16 od16 kV16 dc16 pm16 an16 cd16 ct16 sl16)(c16:rh K cd16 "stopped_at"=true)(k16:mf K (.ref f16)=true)(a17:NsF K "opens_at" f17)(l17:LkF K f17 "opens_at" Uk oc17 od17 kV17 dc17 pm17 an17 cd17 ct17 sl17)(c17:rh K cd17 "opens_at"=true)(k17:mf K (.ref f17)=true)(a18:NsF K "fault_in" f18)(l18:LkF K f18 "fault_in" Nk oc18 od18 kV18 dc18 pm18 an18 cd18 ct18 sl18)(c18:rh K cd18 "fault_in"=true)(k18:mf K (.ref f18)=true)(a19:NsF K "doors_of" f19)(l19:LkF K f19 "doors_of" Lk oc19 od19 kV19 dc19 pm19 an19 cd19 ct19 sl19)(c19:rh K cd19 "doors_of"=true)(k19:mf K (.ref f19)=true)(a20:NsF K "names_of" f20)(l20:LkF K f20 "names_of" Sk oc20 od20 kV20 dc20 pm20 an20 cd20 ct20 sl20)(c20:rh K cd20 "names_of"=true)(k20:mf K (.ref f20)=true)(a21:NsF K "spans_of" f21)(l21:LkF K f21 "spans_of" Vk oc21 od21 kV21 dc21 pm21 an21 cd21 ct21 sl21)(c21:rh K cd21 "spans_of"=true)(k21:mf K (.ref f21)=true)(a22:NsF K "held_by" f22)(l22:LkF K f22 "held_by" Bm oc22 od22 kV22 dc22 pm22 an22 cd22 ct22 sl22)(c22:rh K cd22 "held_by"=true)(k22:mf K (.ref f22)=true)(a23:NsF K "known_keys" f23)(l23:LkF K f23 "known_keys" Lh oc23 od23 kV23 dc23 pm23 an23 cd23 ct23 sl23)(c23:rh K cd23 "known_keys"=true)(k23:mf K (.ref f23)=true)(a24:NsF K "fault_of" f24)(l24:LkF K f24 "fault_of" Pk oc24 od24 kV24 dc24 pm24 an24 cd24 ct24 sl24)(c24:rh K cd24 "fault_of"=true)(k24:mf K (.ref f24)=true)(a25:NsF K "law" f25)(l25:LkF K f25 "law" Mt oc25 od25 kV25 dc25 pm25 an25 cd25 ct25 sl25)(c25:rh K cd25 "law"=true)(k25:mf K (.ref f25)=true)(z0:kl K jb "abs"=some none)(z1:kl K jb "dict"=some none)(z2:kl K jb "enumerate"=some none)(z3:kl K jb "isinstance"=some none)(z4:kl K jb "len"=some none)(z5:kl K jb "list"=some none)(z6:kl K jb "max"=some none)(z7:kl K jb "min"=some none)(z8:kl K jb "range"=some none)(z9:kl K jb "set"=some none)(z10:kl K jb "sorted"=some none)(z11:kl K jb "tuple"=some none)
  :∃ fd:wf,(∀ (s:Shared) (v:Fa),xv s fd ⟨[v],[]⟩ [("_law_script",v)])/\∀ base:ke,K.In base->base.Ns jb mg->FnOk l.prog w K mg base Oo 6 fa fd ["_law_script"] (CG K):=by
 have e:=hfa.symm.trans (zk X G a25);cases e;have T:Txt K mg:=⟨tj X G z0,tj X G z1,tj X G z2,tj X G z3,tj X G z4,tj X G z5,tj X G z6,tj X G z7,tj X G z8,tj X G z9,tj X G z10,tj X G z11,⟨⟨C1,aC1,⟨pg1,hd1,po1,sa1⟩,n1_doors⟩⟩,⟨⟨C1,aC1,⟨pg1,hd1,po1,sa1⟩,n1_grants⟩⟩,⟨⟨C1,aC1,⟨pg1,hd1,po1,sa1⟩,n1_rules⟩⟩,⟨⟨C1,aC1,⟨pg1,hd1,po1,sa1⟩,n1_wings⟩⟩⟩
 refine⟨fnOf "law" "law" (Hi Mt) (Ad Mt) (Pa Mt) .none kV25 dc25 pm25 an25 cd25 ct25,λs v=>.of_eq rfl,λbase _ _=>?_⟩;have F_copied:Fn l.prog w K mg base 1 "copied" 1 Zh:=LI (Dc (st:=Io) l0 c0 k0) (zk X G a0) T;have F_House:FnI l.prog w K mg base 3 "House" 4 4 Jg:=PN (Dc (st:=Am) l1 c1 k1) ⟨mk1,a1,i1,kc1⟩ (zk X G aC1) aC1 ⟨pg1,hd1,po1,sa1⟩ n1_rules n1_doors n1_wings n1_grants T F_copied;have F__law_cell:Fn l.prog w K mg base 1 "_law_cell" 2 Na:=Uw (Dc (st:=Mi) l2 c2 k2) (zk X G a2) T;have F__law_opens:Fn l.prog w K mg base 1 "_law_opens" 2 Ld:=Eu (Dc (st:=Hh) l3 c3 k3) (zk X G a3) T;have F__law_due:Fn l.prog w K mg base 2 "_law_due" 4 Ye:=Wz (Dc (st:=Jk) l4 c4 k4) (zk X G a4) T F__law_opens;have F__law_name:Fn l.prog w K mg base 2 "_law_name" 2 Mb:=Ww (Dc (st:=Oi) l5 c5 k5) (zk X G a5) T F__law_cell;have F__law_house:Fn l.prog w K mg base 3 "_law_house" 3 Kd:=Du (Dc (st:=Gh) l6 c6 k6) (zk X G a6) T F__law_cell F__law_name;have F__law_cuts:Fn l.prog w K mg base 2 "_law_cuts" 3 Gd:=Vw (Dc (st:=Ni) l7 c7 k7) (zk X G a7) T F__law_cell;have F__law_plan:Fn l.prog w K mg base 3 "_law_plan" 3 Yd:=Xw (Dc (st:=Qi) l8 c8 k8) (zk X G a8) T F__law_cell F__law_cuts;have F_heights_of:Fn l.prog w K mg base 1 "heights_of" 1 Je:=Hu (Dc (st:=Kh) l9 c9 k9) (zk X G a9) T;have F_places_of:Fn l.prog w K mg base 1 "places_of" 1 Bf:=Yw (Dc (st:=Ri) l10 c10 k10) (zk X G a10) T;have F_least_of:Fn l.prog w K mg base 2 "least_of" 2 Ag:=BA (Dc (st:=Rk) l11 c11 k11) (zk X G a11) T F_heights_of F_places_of;have F_barrel_for:Fn l.prog w K mg base 3 "barrel_for" 3 Ic:=Fu (Dc (st:=Ih) l12 c12 k12) (zk X G a12) T F_least_of;have F_barrels_in:Fn l.prog w K mg base 4 "barrels_in" 3 Ie:=Gu (Dc (st:=Jh) l13 c13 k13) (zk X G a13) T F_barrel_for;have F_cross_of:Fn l.prog w K mg base 1 "cross_of" 2 Ze:=Xz (Dc (st:=Kk) l14 c14 k14) (zk X G a14) T;have F_named_cross:FnO l.prog w K mg base 2 "named_cross" 3 Wc:=Zs (Dc (st:=Gg) l15 c15 k15) (zk X G a15) T F_cross_of;have F_stopped_at:Fn l.prog w K mg base 1 "stopped_at" 2 Qc:=Ju (Dc (st:=Mh) l16 c16 k16) (zk X G a16) T;have F_opens_at:Fn l.prog w K mg base 2 "opens_at" 2 Af:=EA (Dc (st:=Uk) l17 c17 k17) (zk X G a17) T F_stopped_at;have F_fault_in:FnT l.prog w K mg base 3 "fault_in" 4 Zd:=Zz (Dc (st:=Nk) l18 c18 k18) (zk X G a18) T F_named_cross F_opens_at;have F_doors_of:Fn l.prog w K mg base 1 "doors_of" 2 Zf:=Yz (Dc (st:=Lk) l19 c19 k19) (zk X G a19) T;have F_names_of:Fn l.prog w K mg base 1 "names_of" 1 Be:=CA (Dc (st:=Sk) l20 c20 k20) (zk X G a20) T;have F_spans_of:Fn l.prog w K mg base 2 "spans_of" 1 Bg:=FA (Dc (st:=Vk) l21 c21 k21) (zk X G a21) T F_doors_of F_names_of;have F_held_by:Fn l.prog w K mg base 3 "held_by" 1 Oh:=AD (Dc (st:=Bm) l22 c22 k22) (zk X G a22) T F_spans_of;have F_known_keys:Fn l.prog w K mg base 2 "known_keys" 2 Ke:=Iu (Dc (st:=Lh) l23 c23 k23) (zk X G a23) T F_names_of;have F_fault_of:FnT l.prog w K mg base 5 "fault_of" 2 Ae:=AA (Dc (st:=Pk) l24 c24 k24) (zk X G a24) T F_barrels_in F_fault_in F_held_by F_known_keys;exact U0 (L1 (Dc (st:=Mt) l25 c25 k25) T F_House F__law_cell F__law_due F__law_house F__law_plan F_fault_of) law_true
theorem walk{q:ic}{loose:List xa}{XP:(xa->Option Fa)->ke->Prop}{YP:vd->ke->Prop}{d:DefRec}{K:Params->td}(hn:l.most=some 63)(hdf:d.params.defaults= [])(hY:∀ (w:vd) (h:ke),YP w h->(K w.params).In h)(F:∀ (w:vd) (mg:xa->Option Fa) (fa:ca) (h:ke),(K w.params).In h->h.Ns jb mg->mg d.name=some (.ref fa)->
   ∃ fd:wf,(∀ (s:Shared) (u:Fa),xv s fd ⟨[u],[]⟩ [("_law_script",u)])/\∀ base:ke,(K w.params).In base->base.Ns jb mg->FnOk l.prog w (K w.params) mg base Oo 6 fa fd ["_law_script"] (CG (K w.params))):
  PySem.W.WalkO q loose XP YP l.row.toRowW d [] (λf vs=>PySem.call f vs):=
 L2.walk_of (n:=63) (k:=6) (x:="_law_script") (CX:=λ_=>Oo) (sp:=λw=>CG (K w.params)) hn (by decide) hdf ⟨rfl,by decide,by decide,rfl⟩ hY F (λ_ _ a ns hl _ hS=>⟨a,ns,rfl,hS,hl,(λ_ h=>nomatch h),λ_ _=>rfl⟩) λ_ _ _ _ _ z=>z
end G
open PySem PySem.W PyProof.Rows
set_option maxRecDepth 100000 in
set_option maxHeartbeats 0 in
theorem PySem.W.Fast.tw532980941722680096 : True := trivial
theorem PySem.W.Fast.tw2186352515883085663 : True := trivial
theorem PySem.W.Fast.tw1895763229873990865 : True := trivial
theorem PySem.W.Fast.tw16535857583650013797 : True := trivial
theorem PySem.W.Fast.tw17036534531230613986 : True := trivial
theorem PySem.W.Fast.tw14175364236902080724 : True := trivial
theorem PySem.W.Fast.tw16367621010894282482 : True := trivial
theorem PySem.W.Fast.tw1002647621022115620 : True := trivial
theorem PySem.W.Fast.tw15423789960586428500 : True := trivial
theorem PySem.W.Fast.tw2492065634233406553 : True := trivial
theorem PySem.W.Fast.tw1361617302897526305 : True := trivial
theorem PySem.W.Fast.tw13605047293067012117 : True := trivial
theorem PySem.W.Fast.tw5299314026866983262 : True := trivial
theorem PySem.W.Fast.tw11859276752788100592 : True := trivial
theorem PySem.W.Fast.tw4032843276118452515 : True := trivial
theorem PySem.W.Fast.tw11792419124393576867 : True := trivial
theorem PySem.W.Fast.tw16468196216742160279 : True := trivial
theorem PySem.W.Fast.tw4289912229609824394 : True := trivial
theorem PySem.W.Fast.tw14813961196826092841 : True := trivial
theorem PySem.W.Fast.tw1136376371426952438 : True := trivial
theorem PySem.W.Fast.tw15560232964525027034 : True := trivial
theorem PySem.W.Fast.tw2481975348686453333 : True := trivial
theorem PySem.W.Fast.tw6851273443574857141 : True := trivial
theorem PySem.W.Fast.tw14234408219056528438 : True := trivial
theorem PySem.W.Fast.tw16027119636091024072 : True := trivial
theorem PySem.W.Fast.tw1016409897792471012 : True := trivial
theorem PySem.W.Fast.tw9115862365821674673 : True := trivial
theorem PySem.W.Fast.tw5440686289751054205 : True := trivial
theorem PySem.W.Fast.tw1865086306742994323 : True := trivial
theorem PySem.W.Fast.tw846038325050529566 : True := trivial
theorem PySem.W.Fast.tw12064298142512405376 : True := trivial
theorem PySem.W.Fast.tw7743339363116902904 : True := trivial
theorem PySem.W.Fast.tw3192237140365623113 : True := trivial
theorem PySem.W.Fast.tw12005399288875053904 : True := trivial
theorem PySem.W.Fast.tw17133750238593109641 : True := trivial
theorem PySem.W.Fast.tw7474290483223155951 : True := trivial
theorem PySem.W.Fast.tw5475601554337651586 : True := trivial
theorem PySem.W.Fast.tw10629483523842647604 : True := trivial
theorem PySem.W.Fast.tw11910868392779778630 : True := trivial
theorem PySem.W.Fast.tw17375902994772651693 : True := trivial
theorem PySem.W.Fast.tw10960525404507370206 : True := trivial
theorem PySem.W.Fast.tw1188000317186389804 : True := trivial
theorem PySem.W.Fast.tw18444622685703925511 : True := trivial
theorem PySem.W.Fast.tw17056350214152362344 : True := trivial
theorem PySem.W.Fast.tw8711211949833676051 : True := trivial
theorem PySem.W.Fast.tw14240004585354014839 : True := trivial
theorem PySem.W.Fast.tw4513021243952306395 : True := trivial
theorem PySem.W.Fast.tw5932821884637459799 : True := trivial
theorem PySem.W.Fast.tw15926557284250178206 : True := trivial
theorem PySem.W.Fast.tw2908499771024101964 : True := trivial
theorem PySem.W.Fast.tw1496157169361971859 : True := trivial
theorem PySem.W.Fast.tw4688553108232876284 : True := trivial
theorem PySem.W.Fast.tw7989912971605143913 : True := trivial
theorem PySem.W.Fast.tw6357221273860750530 : True := trivial
theorem PySem.W.Fast.tw3756781976275139355 : True := trivial
theorem PySem.W.Fast.tw10643981602486475944 : True := trivial
theorem PySem.W.Fast.tw1668930441974603587 : True := trivial
theorem PySem.W.Fast.tw3206792696830466601 : True := trivial
theorem PySem.W.Fast.tw1411300606442842854 : True := trivial
theorem PySem.W.Fast.tw1924176679728431428 : True := trivial
theorem PySem.W.Fast.tw15721825791941903280 : True := trivial
theorem PySem.W.Fast.tw6147518723196884304 : True := trivial
theorem PySem.W.Fast.tw832634017836807132 : True := trivial
theorem PySem.W.Fast.tw15083579836222990032 : True := trivial
theorem PySem.W.Fast.tw2690291955486494524 : True := trivial
theorem PySem.W.Fast.tw16534944473320015125 : True := trivial
theorem PySem.W.Fast.tw4464271911454289647 : True := trivial
theorem PySem.W.Fast.tw1823852687954380176 : True := trivial
theorem PySem.W.Fast.tw7543389178778211032 : True := trivial
theorem PySem.W.Fast.tw14882900060505396896 : True := trivial
theorem PySem.W.Fast.tw6986640848786296902 : True := trivial
theorem PySem.W.Fast.tw14166971497615102623 : True := trivial
theorem PySem.W.Fast.tw17991414340407036245 : True := trivial
theorem PySem.W.Fast.tw5407261725335285394 : True := trivial
theorem PySem.W.Fast.tw10608766318701414067 : True := trivial
theorem PySem.W.Fast.tw5273146634096943070 : True := trivial
theorem PySem.W.Fast.tw16749802176409235670 : True := trivial
theorem PySem.W.Fast.tw10522903695802074844 : True := trivial
theorem PySem.W.Fast.tw11258074932135269126 : True := trivial
theorem PySem.W.Fast.tw11832288199829078211 : True := trivial
theorem PySem.W.Fast.tw5535869079985597213 : True := trivial
theorem PySem.W.Fast.tw9154374427220788724 : True := trivial
theorem PySem.W.Fast.tw9030366396124622483 : True := trivial
theorem PySem.W.Fast.tw10702518763972712610 : True := trivial
theorem PySem.W.Fast.tw4265206786369341461 : True := trivial
theorem PySem.W.Fast.tw16867957429532443893 : True := trivial
theorem PySem.W.Fast.tw5093243574648095268 : True := trivial
theorem PySem.W.Fast.tw10276983571689590277 : True := trivial
theorem PySem.W.Fast.tw13861534886988831347 : True := trivial
theorem PySem.W.Fast.tw8894394371417829646 : True := trivial
theorem PySem.W.Fast.tw6764606808167742467 : True := trivial
theorem PySem.W.Fast.tw7517635134700690115 : True := trivial
theorem PySem.W.Fast.tw2284291069650121737 : True := trivial
theorem PySem.W.Fast.tw12486237790728540938 : True := trivial
theorem PySem.W.Fast.tw872324501784879335 : True := trivial
theorem PySem.W.Fast.tw5389081980932918406 : True := trivial
theorem PySem.Challenge.cw_wardsmith_k42_a_fault_told_holds : PySem.Challenge.rw_wardsmith_k42_a_fault_told.Holds := by
 w_on;o_law;k_head;(case hw=>w_witness2)
 k_fill
 refine G.walk (l:=PySem.Challenge.rw_wardsmith_k42_a_fault_told) rfl rfl (λw h Y=>PySem.W.kIn_of Y) ?F
 case F=>
  intro w mg fa h KX GG hmg;refine' G.all_mk KX GG hmg ?a0 ?l0 ?c0 ?k0 ?aC1 ?a1 ?i1 ?l1 ?c1 ?k1 ?pg1 ?hd1 ?po1 ?sa1 ?mk1 ?kc1 ?n1_rules ?n1_doors ?n1_wings ?n1_grants ?a2 ?l2 ?c2 ?k2 ?a3 ?l3 ?c3 ?k3 ?a4 ?l4 ?c4 ?k4 ?a5 ?l5 ?c5 ?k5 ?a6 ?l6 ?c6 ?k6 ?a7 ?l7 ?c7 ?k7 ?a8 ?l8 ?c8 ?k8 ?a9 ?l9 ?c9 ?k9 ?a10 ?l10 ?c10 ?k10 ?a11 ?l11 ?c11 ?k11 ?a12 ?l12 ?c12 ?k12 ?a13 ?l13 ?c13 ?k13 ?a14 ?l14 ?c14 ?k14 ?a15 ?l15 ?c15 ?k15 ?a16 ?l16 ?c16 ?k16 ?a17 ?l17 ?c17 ?k17 ?a18 ?l18 ?c18 ?k18 ?a19 ?l19 ?c19 ?k19 ?a20 ?l20 ?c20 ?k20 ?a21 ?l21 ?c21 ?k21 ?a22 ?l22 ?c22 ?k22 ?a23 ?l23 ?c23 ?k23 ?a24 ?l24 ?c24 ?k24 ?a25 ?l25 ?c25 ?k25 ?z0 ?z1 ?z2 ?z3 ?z4 ?z5 ?z6 ?z7 ?z8 ?z9 ?z10 ?z11
  case a0|l0|c0|k0|aC1|a1|i1|l1|c1|k1|pg1|hd1|po1|sa1|mk1|kc1|n1_rules|n1_doors|n1_wings|n1_grants|a2|l2|c2|k2|a3|l3|c3|k3|a4|l4|c4|k4|a5|l5|c5|k5|a6|l6|c6|k6|a7|l7|c7|k7|a8|l8|c8|k8|a9|l9|c9|k9|a10|l10|c10|k10|a11|l11|c11|k11|a12|l12|c12|k12|a13|l13|c13|k13|a14|l14|c14|k14|a15|l15|c15|k15|a16|l16|c16|k16|a17|l17|c17|k17|a18|l18|c18|k18|a19|l19|c19|k19|a20|l20|c20|k20|a21|l21|c21|k21|a22|l22|c22|k22|a23|l23|c23|k23|a24|l24|c24|k24|a25|l25|c25|k25|z0|z1|z2|z3|z4|z5|z6|z7|z8|z9|z10|z11=>(try unfold G.NsF);(try unfold G.LkF);k_is
