import PyProof.Rows.All
import Wide.All
import OpenK.AllK
import Wide.FinOn
import Lean
import PyProof.EqAt
import PyProof.EqKinds
import PyProof.TupleCall
import PyProof.FactsAll.NoneType_1
import PyProof.ZipIter
import PyProof.Draws
import PyProof.TupleIter
import PyProof.ListMulRoad
import PyProof.FactsAll.tuple
import PyProof.ReprRoads
import PyProof.Rows.RegFStrParts
import PyProof.Rows.Range3
import KE.KIntText
import PyProof.AutoListH
import PyProof.Rows.MinMaxN
import PyProof.SetScanFacts
import PyProof.SetKind
import PyProof.DictKinds
import PyProof.WalkLemmas
import PyProof.CollectWalk
import PyProof.FactsAll.set
import PyProof.Walks
import PyProof.WalksS
import PyProof.SetRoads
import PyProof.Rows.SetFrom
import PyProof.Rows.SortWalk
import PyProof.EnumMake
import PyProof.EnumFor
import PyProof.DictItemsLoops
import PyProof.DictWalks
import KE.KDictList
import PyProof.Rows.SumAny
import KE.KRevIter
import KE.KDictOf
import PyProof.AttrMissHeap
import PyProof.NsDelKeeps
import PyProof.RulesAs
import KE.KTryMore
import PyProof.ExcArgsOwn
import KE.KUnpack
import PyProof.ExcClass2
import OpenK.KMake
import OpenK.KGet
import PyProof.InstStore
import PyProof.InstStoreFacts
import OpenK.KCls
import OpenK.KMore
import PyProof.FString4
import PyProof.StrLawsRepr
import KE.KEqDict
import KE.KItemsList
import PyProof.Rows.SortStr
import KE.KLam
import KE.KMinKey
import KE.KNestM
import KE.KStrOpen
import PySem.Challenge.RW_wardsmith_k33_where_rows_stand
open PySem renaming Value->Da,starEach->Fa,mainGlobals->aa,Addr->ia,wpAny_bind->ja,Shared->ka,Str->ua,wpAny->cb,model->jb,wpAny_pure->kb,Program->ic,Expr->nc,backTo->yc,Heap->pd,World->yd,sizeLine_eq->qe,wpAny_mono->se,Around->ye,Stmt->yf,wpAny_truthy_bool->cg,attributeBase->dg,keywordEach->ig,FuncData->lg,codeAny_call_builtin->og,bootBuiltins->ug,wpAny_loadPart_at->ah,Pos->bh,assignEach->gh,wpAny_Call_Name_kw->jh,Obj->mh,wpAny_holding->ph,compareOp->yh,mem_of_lookup->zh,cellsFrom->Pi,behindInMarks->gi,codeAny_mono->ii,NameKind->ji,swapsWith->ki,Keyword->li,wpAny_standAt->xi,backToKw->bj,call_meets->cj,codeAny->kj,codeAny_builtin->pj,foldedSetIterable->rj,binaryOp->yj,noteFrame->ck,intText?->gk,sysModules->jk,Builtin->nk,GenState->rk,setFlight->vk,ExceptHandler->xk,wpAny_pyIter_list->il,valueAt->ml,wpAny_call->xl,typeIs_str->dm,wpAny_field->fm,wpAny_setField->gm,excClassObj->im,wpAny_isSubtype_exc->zm,holding->mn,wpAny_passesOwn->vn,sliceBounds->No,pushCells->ao,Scope->io,checkBuiltinCall->gp,relabel->ip,SetTable->yp,Env->cq,wpAny_specialOf->dq,letOwnedTupleGo->gq,Result->iq,meets_str_split_cannot_occur->lq,codeAny_of_tree->mq,pairTrees_cons_walk->oq,DictEntry->yq,Paired->zq,recursionLimit->cr,wpAny_newFunctionEnv_cells->mr,handleBy->sr,meets_str_split_not_found->zr,wpAny_newObj_type->qt,bindSpecial->ut,wpAny_call_entry->bu,wpAny_execs_cons->cu,lastMarks->fu,noFill_tuple_add->gu,wpAny_callSpecial?_slot->ku,scanBound->nu,standAt->uu,assign->wu,BindsTo->xu,leaving->yu,wpAny_execs_nil->kv,pushCells_keeps->qv
open List renaming length_cons->ba,length_map->Db,map_cons->db,mem_cons_of_mem->ib,getElem?_eq_some_iff->pb,replicate->qb,set_cons_zero->ac,set_cons_succ->bc,mem_cons_self->kc,length_nil->lc,size_toArray->qc,mem_cons->xc,getElem?_set_ne->zc,cons_append->jd,length_append->md,getElem?_eq_getElem->qd,nil_append->Re,getElem?_set_self->ze,not_mem_nil->mf,lookup_cons->sf,map_nil->tf,eq_nil_of_length_eq_zero->zf,append_nil->kg,getElem?_append_right->ng,mem_append_right->vg,getElem?_map->wg,append_assoc->xg,count_cons_of_ne->yg,getElem?_append_left->zg,getD_eq_getElem?_getD->qh,map_append->uh,length_replicate->ai,getElem?_set_self'->bi,mem_of_getElem?->mi,all_eq_true->yi,length_singleton->aj,mem_map->lj,forall_mem_cons->qj,take_of_length_le->uj,mem_append->wj,forall_mem_nil->xj,getElem?_replicate->Tk,replicate_succ->ak,mem_singleton->qk,mem_filterMap->uk,getElem?_eq_none->yk,map_map->gl,lookup->ul,append_cancel_left_eq->qm,count_cons_self->rm,filterMap_cons->xm,map_congr_left->ym,all_cons->dn,flatten_cons->ko,range_succ_eq_map->qo,length_range->vo,range->wo,foldl_cons->Op,mem_append_left->qp,Nodup->bq,nodup_cons->jq,of_mem_zip->kq,getElem?_range->nq,map_eq_nil_iff->pq,length_pos_iff->qq,find?_cons->qr,zip_cons_cons->ur,drop_eq_getElem_cons->yr,length_take->js,any_cons->xt,sum_cons->au,length_drop->iu,range'_succ->su,drop_of_length_le->jv
open Bool renaming false_ne_true->xa,false_eq_true->Sc,not_true->jf,and_eq_true->qf,eq_iff_iff->sg,not_false->vh,and_eq_true_iff->oi,false_and->ql
open PySem.Heap renaming get?_push_of_some->ya,lt_size->sd,get?_push_size->ue,get?_update_other->ui,get?_update_self->zi,SameBut->tm,FlyingW->wn,get?_none_of_le->pp,size_push->xq
open PySem.Txt renaming split->yb,join->zb,slice->we,startswith->wf
open Option.some renaming inj->jc
open Classical renaming propDecidable->uc
open Nat renaming lt_of_lt_of_le->bd,reduceAdd->ae,le_refl->Uf,le_trans->bf,reduceLeDiff->pf,reduceSub->uf,ne_of_lt->ag,lt_irrefl->xh,zero_le->si,lt_succ_self->um,lt_of_not_le->bp,le_of_lt->rq,lt_trans->vq,lt_succ_of_lt->jt,ne_of_gt->du,le_of_not_lt->ju,zero_add->ou,add_zero->qu,min_eq_left->vv
open PySem.W renaming Frag->td,nsIn->je,keepIn->kf,mg_of->lf,findIn->fg,codeIn->gg,mg_none_of->di,hideAll->qi,fnOf->mj,looks_findIn->wm,hasDictIn->zn,emptyDict->Do,funFrames_hide->uo,hideAll_none->jp,cellsFrom_some->jr,instObj->tu,kia_one->bv,tail_of_in->dv,kitAny->gv,mroIn->nv
open False renaming elim->ud
open Option renaming isSome_iff_exists->ve,map_eq_some_iff->oj
open PySem.Builtin.Str renaming strSliceIndices->af,occurrences->ik,partsBetween->vm,occurrences->yn
open PySem.Str renaming cps_append->vf,join->vj
open PySem.StrLaws renaming glued_eq_join->bg
open Ne renaming symm->jg
open Array renaming length_toList->qg,toList_append->dh,mem_toList_iff->vp,getElem?_eq_some_iff->xr
open PySem.F renaming called_set->lh,plainAttrs_list->fk,excBase_ValueError->jm,args_tuple_add_2->bn,entry_tuple_add->Go,slot_tuple_add->jo,slot_dict_getitem->Os,slot_list_append->yt,type_list_append->zt
open PyProof.Rows.F renaming plain_set_update_loop->pi,entry_set_update_loop->On
open PySem.Obj renaming data_mapFields->dj,mapFields->kn,isFreed_of_fields->xo,mapSeq->Ev
open Int renaming emod_lt_of_pos->fj,toNat_natCast->tj,emod_nonneg->mm,reduceLT->wq,natCast_add->wv
open PyProof.Rows renaming AllBare->gj,envOfC->zj,callWith_type1->Tl,callWith_builtin1->yo,IntsAre->et,subscriptTail->wt,subscriptTail_builtinR->zu
open PySem.Builtin.SmallTypes renaming nextOf->nj
open PySem.Code renaming quiet_builtin->pk
open List.cons renaming injEq->sk
open PySem.Builtin.List renaming listTooLong->gn
open PySem.PassesOwn renaming never->xn
open PySem.Calls renaming evalArgs_plain->xp,Name_function_global->br,spliced_cons->gr,spliced_nil->Rs,callWith_builtin->Pv
open PySem.Around renaming under_plainId->zp,under->uq
open PySem.Sem renaming wp_pure->aq
open PySem.Builtin.Tuple renaming tupleTooMany->nr
open Sum.inr renaming inj->Ps
open PySem.Value renaming isStrOf->vt
open PySem.W.Looks renaming ld->lu
open PySem.PyData renaming depthAll->sv
noncomputable section
open PySem.W (plainGet specialIn exmOne hideAll_get of_hideAll callWith_K kitOne excIn methodObj lookIn plainOver takerIn makesIn typeIn isFn)
open List (range Nodup getElem?_eq_getElem append_assoc mem_of_getElem? all_map range' take length)
open Nat (le_succ zero_add mod_lt)
open Option (map_some)
set_option Elab.async false
set_option linter.all false
set_option maxRecDepth 100000
namespace L2
open PySem PySem.Spec PyProof.Rows
abbrev Jd:=Sum Int ua
def Vp:Jd->Da->Bool
 | .inl k,v=>Value.isInt k v
 | .inr x,v=>vt x v
def VV(w:yd):Jd->Int
 | .inl k=>hashInt k
 | .inr x=>hashStr w x
theorem Lc:∀ {k:Jd} {v:Da},Vp k v=true->(∃ i t,k=Sum.inl i/\v=Value.int i t)\/(∃ x t,k=Sum.inr x/\v=Value.str x t)
 | .inl i,v,h=>by
  obtain⟨t,e⟩:=Value.isInt_shape (k:=i) (v:=v) h;exact .inl ⟨i,t,rfl,e⟩
 | .inr x,v,h=>by
  obtain⟨t,e⟩:=Value.isStrOf_shape (x:=x) (v:=v) h;exact .inr ⟨x,t,rfl,e⟩
theorem JK(i:Int)(t:Tok):Vp (.inl i) (.int i t)=true:=by simp[Vp,Value.isInt]
theorem LK(x:ua)(t:Tok):Vp (.inr x) (.str x t)=true:=by simp[Vp,vt]
theorem M3(a b:Int):decide ((Sum.inl a:Jd)=Sum.inl b)=(a==b):=by
 by_cases e:a=b
 .subst e;simp
 .have h:¬ (Sum.inl a:Jd)=Sum.inl b:=λq=>e (Sum.inl.inj q);rw[decide_eq_false h];exact(beq_eq_false_iff_ne.mpr e).symm
theorem Q3(a b:ua):decide ((Sum.inr a:Jd)=Sum.inr b)=decide (a=b):=by
 by_cases e:a=b
 .subst e;simp
 .have h:¬ (Sum.inr a:Jd)=Sum.inr b:=λq=>e (Ps q);rw[decide_eq_false h,decide_eq_false e]
theorem N3(a:Int)(b:ua):decide ((Sum.inl a:Jd)=Sum.inr b)=false:=decide_eq_false (λq=>nomatch q)
theorem O3(a:ua)(b:Int):decide ((Sum.inr a:Jd)=Sum.inl b)=false:=decide_eq_false (λq=>nomatch q)
def Od(prog:ic)(w:yd):PySem.KeyKind prog w Jd where
 is:=Vp
 hash:=VV w
 inj:=λv a b ha hb=>by
  rcases Lc ha with⟨i,t,rfl,rfl⟩|⟨x,t,rfl,rfl⟩
  .rcases Lc hb with⟨j,u,rfl,e⟩|⟨y,u,rfl,e⟩
   .injection e with e1 _;rw[e1]
   .exact nomatch e
  .rcases Lc hb with⟨j,u,rfl,e⟩|⟨y,u,rfl,e⟩
   .exact nomatch e
   .injection e with e1 _;rw[e1]
 byValue:=λk v h=>by
  rcases Lc h with⟨i,t,rfl,rfl⟩|⟨x,t,rfl,rfl⟩<;>rfl
 pyHash:=λhv h=>by
  rcases Lc hv with⟨i,t,rfl,rfl⟩|⟨x,t,rfl,rfl⟩
  .exact wpAny_pyHash_int h
  .exact wpAny_pyHash_str h
 eqBool:=λhu hv h=>by
  rcases Lc hu with⟨i,t,rfl,rfl⟩|⟨x,t,rfl,rfl⟩
  .rcases Lc hv with⟨j,u,rfl,rfl⟩|⟨y,u,rfl,rfl⟩
   .rw[M3]at h;exact wpAny_eqBool_int h
   .rw[N3]at h;exact SeqAt.EqAt.int_str i t y u _ _ _ _ h
  .rcases Lc hv with⟨j,u,rfl,rfl⟩|⟨y,u,rfl,rfl⟩
   .rw[O3]at h;exact SeqAt.EqAt.str_int x t j u _ _ _ _ h
   .rw[Q3]at h;exact wpAny_eqBool_str h
 «strs» :=λk x t v h=>by
  rcases Lc h with⟨i,u,rfl,e⟩|⟨y,u,rfl,e⟩
  .exact nomatch e
  .injection e with e1 _
   subst e1;cases v<;>rfl
theorem YB(prog:ic)(w:yd)(i:Int)(t:Tok):(Od prog w).is (.inl i) (.int i t)=true:=JK i t
theorem Yr(prog:ic)(w:yd)(x:ua)(t:Tok):(Od prog w).is (.inr x) (.str x t)=true:=LK x t
inductive V where
 |non|bl (b:Bool)|int (i:Int)|str (x:ua)|byt (b:Array UInt8)|flt (b:UInt64)|ref (a:ia)|ty (n:String)
 deriving DecidableEq
def RelV:V->Da->Prop
 | .non,u=>u=Value.none
 | .bl b,u=>u=Value.bool b
 | .int i,u=>∃ t,u=Value.int i t
 | .str x,u=>∃ t,u=Value.str x t
 | .byt b,u=>∃ t,u=Value.bytes b t
 | .flt b,u=>∃ t,u=Value.float b t
 | .ref a,u=>u=Value.ref a
 | .ty n,u=>u=Value.type n
abbrev Vals:List V->List Da->Prop:=zq RelV
variable{xs:List V}{us:List Da}
theorem Vals.length(r:Vals xs us):xs.length=us.length:=Paired.length r
theorem Vals.get:∀ {xs:List V} {us:List Da} {i:Nat} {x:V},Vals xs us->xs[i]? =some x->∃ u,us[i]? =some u/\RelV x u
 |_,_,_,_,.nil,e=>by simp at e
 |_,_,0,_,.cons r _,e=>by simp at e;subst e;exact⟨_,rfl,r⟩
 |_,_,i+1,x,.cons _ t,e=>by
  obtain⟨u,h1,h2⟩:=Vals.get (i:=i) (x:=x) t (by simpa using e);exact⟨u,by simpa using h1,h2⟩
variable{u:Da}
theorem Vals.set{x:V}(r:RelV x u):∀ {xs:List V} {us:List Da} (i:Nat),Vals xs us->Vals (xs.set i x) (us.set i u)
 |_,_,_,.nil=>.nil
 |_,_,0,.cons _ t=>.cons r t
 |_,_,i+1,.cons q t=>.cons q (Vals.set r i t)
theorem Vals.append:∀ {xs ys:List V} {us ws:List Da},Vals xs us->Vals ys ws->Vals (xs++ys) (us++ws)
 |_,_,_,_,.nil,s=>s
 |_,_,_,_,.cons r t,s=>.cons r (Vals.append t s)
theorem Vals.take:∀ {xs:List V} {us:List Da} (n:Nat),Vals xs us->Vals (xs.take n) (us.take n)
 |_,_,0,_=>.nil
 |_,_,_+1,.nil=>.nil
 |_,_,n+1,.cons r t=>.cons r (Vals.take n t)
theorem Vals.drop:∀ {xs:List V} {us:List Da} (n:Nat),Vals xs us->Vals (xs.drop n) (us.drop n)
 |_,_,0,r=>r
 |_,_,_+1,.nil=>.nil
 |_,_,n+1,.cons _ t=>Vals.drop n t
def RelO:Option V->Option Da->Prop
 |some v,some u=>RelV v u
 |none,none=>True
 |_,_=>False
def KV{κ:Type}:List (κ×V)->List (κ×Da)->Prop:=zq λ(p:κ×V) (q:κ×Da)=>p.1=q.1/\RelV p.2 q.2
def kV:Jd->V
 | .inl i=>.int i
 | .inr x=>.str x
def EZ:Option Jd->Da->Bool
 |none,.none=>true
 |some k,v=>Vp k v
 |_,_=>false
def Jc0(w:yd):Option Jd->Int
 |none=>0xFCA86420
 |some k=>VV w k
theorem Vd{o:Option Jd}{v:Da}(h:EZ o v=true):(o=none/\v=.none)\/∃ k,o=some k/\Vp k v=true:=by
 cases o with
 |none=>
  cases v with
  |none=>exact .inl ⟨rfl,rfl⟩
  |_=>cases h
 |some k=>exact .inr ⟨k,rfl,h⟩
theorem Hx{k:Jd}(h:Vp k .none=true):False:=by
 rcases Lc h with⟨i,t,rfl,e⟩|⟨x,t,rfl,e⟩<;>cases e
variable{prog:ic}{w:yd}{A:ye}{E:Da->ka->Prop}{s:ka}
theorem Qq{Q:Int->ka->Prop}(h:Q 0xFCA86420 {s with toks:=s.toks+1}):cb (jb prog w) A (pyHash .none) Q E s:=by
 have hT:s.TypeIs .none "NoneType":=rfl;unfold pyHash;have hv: [Value.none].any Value.onHeap=false:=rfl;refine ja ?_;rw[cRoomFor,if_neg (by rw[hv];exact xa)];refine kb ?_;refine ja (dq hT F.slot_NoneType_hash.lookup ?_);show cb _ _ (if(some (Value.builtin "NoneType.__hash__")==some Value.none)=true then _ else _) Q E s;rw[if_neg (by rw[beq_builtin_none];exact xa)];refine ja (dq hT F.slot_NoneType_hash.lookup ?_);show cb _ _ (callSpecialIfBoundUnlessNone? .none "__hash__" _ >>= _) Q E s
 refine ja (wpAny_callSpecialIfBoundUnlessNone?_slot hT F.slot_NoneType_hash
  (bu F.slot_NoneType_hash hT F.entry_NoneType_hash
   (show cb _ _ (do ret (<-mkInt 0xFCA86420)) _ _ s from wpAny_ret_mkInt ?_) (F.args_NoneType_hash_1 _)))
 show cb _ _ (if(decide (-(2:Int)^63<=0xFCA86420)&&decide ((0xFCA86420:Int)<2^63))=true then _ else _) Q E _;rw[if_pos (by decide)];exact kb h
theorem YA{Q:Bool->ka->Prop}(h:Q true s):cb (jb prog w) A (eqBool .none .none) Q E s:=by
 unfold eqBool;refine ph ?_;rw[if_pos (by decide)];exact ja (wpAny_rule (kb h))
def EW(prog:ic)(w:yd):PySem.KeyKind prog w (Option Jd) where
 is:=EZ
 hash:=Jc0 w
 inj:=λv a b ha hb=>by
  rcases Vd ha with⟨rfl,rfl⟩|⟨k,rfl,h1⟩
  .rcases Vd hb with⟨rfl,_⟩|⟨k,rfl,h2⟩
   .rfl
   .exact(Hx h2).elim
  .rcases Vd hb with⟨rfl,rfl⟩|⟨k',rfl,h2⟩
   .exact(Hx h1).elim
   .rw[(Od prog w).inj v k k' h1 h2]
 byValue:=λk v h=>by
  rcases Vd h with⟨rfl,rfl⟩|⟨k,rfl,h1⟩
  .rfl
  .exact(Od prog w).byValue k v h1
 pyHash:=λhv h=>by
  rcases Vd hv with⟨rfl,rfl⟩|⟨k,rfl,h1⟩
  .exact Qq h
  .exact(Od prog w).pyHash h1 h
 eqBool:=λhu hv h=>by
  rcases Vd hu with⟨rfl,rfl⟩|⟨k,rfl,h1⟩
  .rcases Vd hv with⟨rfl,rfl⟩|⟨k,rfl,h2⟩
   .exact YA (by simpa using h)
   .rw[decide_eq_false (by intro z;cases z)]at h
    rcases Lc h2 with⟨i,t,rfl,rfl⟩|⟨x,t,rfl,rfl⟩
    .exact SeqAt.EqAt.none_int i t _ _ _ _ h
    .exact SeqAt.EqAt.none_str x t _ _ _ _ h
  .rcases Vd hv with⟨rfl,rfl⟩|⟨k',rfl,h2⟩
   .rw[decide_eq_false (by intro z;cases z)]at h
    rcases Lc h1 with⟨i,t,rfl,rfl⟩|⟨x,t,rfl,rfl⟩
    .exact SeqAt.EqAt.int_none i t _ _ _ _ h
    .exact SeqAt.EqAt.str_none x t _ _ _ _ h
   .have e:decide ((some k:Option Jd)=some k')=decide (k=k'):=by
     by_cases z:k=k'
     .rw[z,decide_eq_true rfl,decide_eq_true rfl]
     .rw[decide_eq_false z,decide_eq_false λy=>z (jc y)]
    rw[e]at h
    exact(Od prog w).eqBool h1 h2 h
 «strs» :=λk x t v h=>by
  rcases Vd h with⟨rfl,e⟩|⟨k',rfl,h1⟩
  .cases e
  .exact(Od prog w).strs k' x t v h1
inductive HO where
  |lst (xs:List V)
  |tup (xs:List V)
  |dK (kvs:List (Jd×V))|dT (kvs:List (List Jd×V))
  |set (S:Int->Bool) (n:Nat)
  |ins (C dx:ia) (fs:List (ua×V))
  |own (x:ia)
  |xd (fs:List (ua×V))
  |met (f x:ia)
  |rng (lo hi:Int)
  |frz (o:mh) (u:HO)
  |tbl (ps:Array Da)
  |ext (φ:pd->Prop)
 |tab (pos:bh) (qual:ua)
 |dN (l:List (Option Jd×Int))
abbrev Hp:=ia->Option HO
def Lb(H:Hp)(a:ia)(o:HO):Hp:=λb=>if b=a then some o else H b
variable{o:HO}{H:Hp}{a:ia}
theorem Ta:Lb H a o a=some o:=by unfold Lb;rw[if_pos rfl]
variable{b:ia}
theorem Ea(h:b≠a):Lb H a o b=H b:=by unfold Lb;rw[if_neg h]
theorem JY{u:HO}:Lb (Lb H a o) a u=Lb H a u:=by
 funext b;unfold Lb;split<;>rfl
theorem Sa(h:H a=some o)(h':H b=none):a≠b:=by
 intro e;subst e;rw[h]at h';cases h'
section
variable (P:ic)(w:yd)
def ObjOk(H:Hp)(h:pd)(a:ia):HO->Prop
 | .lst xs=>xs.length<=sizeLine/\∃ (its:List Da) (n:Nat),Vals xs its/\h.get? a=some {cls:=.type "list",data:=.seq its.toArray n}
 | .tup xs=>xs.length<=sizeLine/\∃ its:List Da,Vals xs its/\IsTup h a its.toArray
 | .dK kvs=>kvs.length<=sizeLine/\(a==jk)=false/\∃ vs,KV kvs vs/\h.DictOf (Od P w) a vs
 | .dT kvs=>kvs.length<=sizeLine/\(a==jk)=false/\∃ xs:List (List Jd×ia×Da),
   zq (λ(p:List Jd×V) (q:List Jd×ia×Da)=>p.1=q.1/\H q.2.1=some (.tup (p.1.map kV))/\RelV p.2 q.2.2) kvs xs/\
   ∃ o es ep,h.get? a=some o/\o.ExactDict/\o.data=.dict es ep/\es.toList=xs.map (entryOfKey (tupleKind (Od P w)))/\(xs.map (·.1)).Nodup
 | .set S n=>h.SetOf (intKind P w) a S n
 | .ins C dx fs=>H dx=some (.own a)/\fs.length<=1000/\dx≠a/\h.get? a=some (tu C dx)/\
   ∃ mA,h.Ns1 dx mA/\(∀ f,RelO (fs.lookup f) (mA f))/\PySem.Within mA (fs.map (·.1))
 | .own _=>∃ o,h.get? a=some o
 | .xd fs=>∃ mA,h.Ns1 a mA/\∀ f,RelO (fs.lookup f) (mA f)
 | .rng lo hi=>∃ t u v,h.get? a=some {cls:=.type "range",data:=.fields #[.int lo t,.int hi u,.int 1 v]}
 | .frz o u=>h.get? a=some o/\ObjOk H h a u
 | .tbl ps=>h.get? a=some {cls:=.none,data:=.fields ps}
 | .met f x=>h.get? a=some (methodObj (.ref f) (.ref x))
 | .ext φ=>φ h/\(∃ o,h.get? a=some o)/\∀ h1 h2:pd,φ h1->(∀ o,h1.get? a=some o->h2.get? a=some o)->φ h2
 | .tab pos qual=>∃ ps:Array Da,h.get? a=some {cls:=.none,data:=.fields ps}/\(ps= #[]\/∃ c':ia,ps= #[rawInt pos.line,rawInt pos.col,.ref c']/\H c'=some (.own a)/\h.CodeRec (.ref c') qual)
 | .dN l=>l.length<=sizeLine/\(a==jk)=false/\∃ vs:List (Option Jd×Da),zq (λ(p:Option Jd×Int) (q:Option Jd×Da)=>p.1=q.1/\RelV (.int p.2) q.2) l vs/\h.DictOf (EW P w) a vs
def HOk(H:Hp)(h:pd):Prop:=∀ a o,H a=some o->ObjOk P w H h a o
end
variable{P:ic}{H':Hp}{h':pd}{α:Type}
section
variable {h:pd}
theorem ObjOk.lt(x:ObjOk P w H h a o):a<h.objs.size:=by
 cases o with
 |lst xs=>obtain⟨_,_,_,_,e⟩:=x;exact sd e
 |tup xs=>obtain⟨_,_,_,p⟩:=x;exact p.lt
 |dK kvs=>obtain⟨_,_,_,_,o,_,_,e,_⟩:=x;exact sd e
 |dT kvs=>obtain⟨_,_,_,_,o,_,_,e,_⟩:=x;exact sd e
 |set S n=>obtain⟨o,_,_,_,e,_⟩:=x;exact sd e
 |ins C dx fs=>obtain⟨_,_,_,e,_⟩:=x;exact sd e
 |own y=>obtain⟨_,e⟩:=x;exact sd e
 |xd fs=>obtain⟨_,⟨_,_,_,e,_⟩,_⟩:=x;exact sd e
 |rng lo hi=>obtain⟨_,_,_,e⟩:=x;exact sd e
 |frz ob u=>obtain⟨e,_⟩:=x;exact sd e
 |tbl ps=>exact sd (show h.get? a=some _ from x)
 |met f y=>exact sd (show h.get? a=some _ from x)
 |ext φ=>obtain⟨_,⟨_,e⟩,_⟩:=x;exact sd e
 |tab pos qual=>obtain⟨_,e,_⟩:=x;exact sd e
 |dN l=>obtain⟨_,_,_,_,o,_,_,e,_⟩:=x;exact sd e
theorem Paired.mapP{β:Type}{F G:α->β->Prop}:∀ {l₁:List α} {l₂:List β},zq F l₁ l₂->(∀ a b,F a b->G a b)->zq G l₁ l₂
 |_,_,.nil,_=>.nil
 |_,_,.cons r t,f=>.cons (f _ _ r) (Paired.mapP t f)
theorem ObjOk.stay(x:ObjOk P w H h a o)(k:∀ b u,(b=a\/H b=some (.own a))->h.get? b=some u->h'.get? b=some u)(ho:∀ b,H b=some (.own a)->H' b=some (.own a))(ht:∀ b xs,H b=some (.tup xs)->H' b=some (.tup xs)):ObjOk P w H' h' a o:=by
 induction o with
 |lst xs=>obtain⟨z,its,n,r,e⟩:=x;exact⟨z,its,n,r,k _ _ (.inl rfl) e⟩
 |tup xs=>obtain⟨z,its,r,ob,e,c⟩:=x;exact⟨z,its,r,ob,k _ _ (.inl rfl) e,c⟩
 |dK kvs=>obtain⟨z,y,vs,r,ob,es,ep,e,c⟩:=x;exact⟨z,y,vs,r,ob,es,ep,k _ _ (.inl rfl) e,c⟩
 |dT kvs=>
  obtain⟨z,y,xs,r,ob,es,ep,e,c⟩:=x;exact⟨z,y,xs,Paired.mapP r λp q z=>⟨z.1,ht _ _ z.2.1,z.2.2⟩,ob,es,ep,k _ _ (.inl rfl) e,c⟩
 |set S n=>obtain⟨ob,es,ep,t,e,c⟩:=x;exact⟨ob,es,ep,t,k _ _ (.inl rfl) e,c⟩
 |ins C dx fs=>
  obtain⟨d,z,ne,e,mA,⟨od,es,ep,e2,c⟩,r⟩:=x;exact⟨ho _ d,z,ne,k _ _ (.inl rfl) e,mA,⟨od,es,ep,k _ _ (.inr d) e2,c⟩,r⟩
 |own y=>obtain⟨ob,e⟩:=x;exact⟨ob,k _ _ (.inl rfl) e⟩
 |xd fs=>obtain⟨mA,⟨od,es,ep,e,c⟩,r⟩:=x;exact⟨mA,⟨od,es,ep,k _ _ (.inl rfl) e,c⟩,r⟩
 |rng lo hi=>obtain⟨t,u,v,e⟩:=x;exact⟨t,u,v,k _ _ (.inl rfl) e⟩
 |frz ob u ih=>obtain⟨e,q⟩:=x;exact⟨k _ _ (.inl rfl) e,ih q⟩
 |tbl ps=>
  have e:h.get? a=some {cls:=.none,data:=.fields ps}:=x;show h'.get? a=some {cls:=.none,data:=.fields ps};exact k a _ (.inl rfl) e
 |met f y=>
  have e:h.get? a=some (methodObj (.ref f) (.ref y)):=x;show h'.get? a=some (methodObj (.ref f) (.ref y));exact k a _ (.inl rfl) e
 |ext φ=>obtain⟨p,⟨o,e⟩,st⟩:=x;exact⟨st _ _ p λo q=>k _ _ (.inl rfl) q,⟨o,k _ _ (.inl rfl) e⟩,st⟩
 |tab pos qual=>
  obtain⟨ps,e,r⟩:=x;refine⟨ps,k _ _ (.inl rfl) e,r.imp id λz=>?_⟩;obtain⟨c',e1,e2,c,oc,vs,tq,z1,z2,z3⟩:=z;refine⟨c',e1,ho _ e2,c,oc,vs,tq,z1,k _ _ (.inr ?_) z2,z3⟩;cases z1;exact e2
 |dN l=>obtain⟨z,y,vs,r,ob,es,ep,e,c⟩:=x;exact⟨z,y,vs,r,ob,es,ep,k _ _ (.inl rfl) e,c⟩
theorem HOk.lt(x:HOk P w H h)(e:H a=some o):a<h.objs.size:=(x a o e).lt
theorem HOk.fresh(x:HOk P w H h)(e:h.objs.size<=a):H a=none:=by
 cases q:H a with
 |none=>rfl
 |some u=>exact absurd (bd (x.lt q) e) (xh _)
theorem HOk.kept(x:HOk P w H h)(k:∀ b u,h.get? b=some u->h'.get? b=some u):HOk P w H h':=λa o e=>
 (x a o e).stay (λb u _ q=>k b u q) (λ_ q=>q) λ_ _ q=>q
theorem HOk.laid(x:HOk P w H h)(k:∀ b u,h.get? b=some u->h'.get? b=some u)(hp:h.objs.size<=a)(new:ObjOk P w (Lb H a o) h' a o):HOk P w (Lb H a o) h':=λb u e=>by
 have hn:=x.fresh hp;by_cases hb:b=a
 .subst hb;rw[Ta]at e;cases e;exact new
 .rw[Ea hb]at e
  exact(x b u e).stay (λc v _ q=>k c v q) (λc q=>by rw[Ea (Sa q hn)];exact q) λc xs q=>by rw[Ea (Sa q hn)];exact q
end
def Rd(H:Hp)(a:ia)(u:HO):Prop:=H a=some u\/∃ o,H a=some (.frz o u)
theorem Rd.ok{h:pd}{u:HO}(r:Rd H a u)(x:HOk P w H h):ObjOk P w H h a u:=by
 rcases r with r|⟨o,r⟩
 .exact x a u r
 .obtain⟨_,q⟩:=x a _ r;exact q
def Mut:Option HO->Prop
 |some (.lst _)=>True
 |some (.dK _)=>True
 |some (.dT _)=>True
 |some (.set _ _)=>True
 |some (.ins _ _ _)=>True
 |some (.ext _)=>True
 |some (.dN _)=>True
 |_=>False
variable{x e:ia}
section
variable {h:pd}{o':HO}
theorem HOk.write(ok:HOk P w H h)(mu:Mut (H x))(he:e=x\/H e=some (.own x))(k:∀ b u,b≠e->h.get? b=some u->h'.get? b=some u)(heo:∃ u,h'.get? e=some u)(new:ObjOk P w (Lb H x o') h' x o'):HOk P w (Lb H x o') h':=λb u q=>by
 have nown:∀ c y,H c=some (.own y)->c≠x:=λc y r z=>by subst z;rw[r]at mu;exact mu
 have ntup:∀ c xs,H c=some (.tup xs)->c≠x:=λc xs r z=>by subst z;rw[r]at mu;exact mu
 by_cases hb:b=x
 .subst hb;rw[Ta]at q;cases q;exact new
 .rw[Ea hb]at q
  by_cases hbe:b=e
  .have q':H b=some (.own x):=by
    rcases he with z|z
    .exact absurd (hbe.trans z) hb
    .rw[hbe];exact z
   rw[q]at q';cases q'
   obtain⟨v,hv⟩:=heo;exact⟨v,by rw[hbe];exact hv⟩
  .refine(ok b u q).stay (λc v hc r=>k c v ?_ r) (λc r=>by rw[Ea (nown c b r)];exact r) λc xs r=>by rw[Ea (ntup c xs r)];exact r
   rcases hc with rfl|hc
   .exact hbe
   .rintro rfl;rcases he with z|z
    .exact nown c b hc z
    .rw[hc]at z;cases z;exact hb rfl
end
structure Un(fs ex:List ia)(H H':Hp)(h h':pd):Prop where
 keep:∀ b o,h.get? b=some o->H b=none->b∉fs->b∉ex->h'.get? b=some o
 slot:∀ b o,h.get? b=some o->H b=none->b∈fs->b∉ex->∃ sl,h'.get? b=some {o with slots:=sl}
 free:∀ b o,h.get? b=some o->H b=none->b∉ex->H' b=none
 there:∀ b o,h.get? b=some o->b∉ex->∃ o',h'.get? b=some o'
 tups:∀ b xs,H b=some (.tup xs)->H' b=some (.tup xs)
 frzs:∀ b o u,H b=some (.frz o u)->H' b=some (.frz o u)
 tbls:∀ b ps,H b=some (.tbl ps)->∃ more,H' b=some (.tbl (ps++more))
section
variable {fs fs' ex ex':List ia}{H1 H2:Hp}{h h1 h2:pd}
theorem Un.any(u:Un fs ex H H1 h h1){ob:mh}(q:h.get? b=some ob)(n:H b=none)(hx:b∉ex):∃ sl,h1.get? b=some {ob with slots:=sl}:=by
 by_cases hb:b∈fs
 .exact u.slot b ob q n hb hx
 .exact⟨ob.slots,u.keep b ob q n hb hx⟩
theorem Un.kept(k:∀ b u,h.get? b=some u->h'.get? b=some u):Un fs ex H H h h':=
 ⟨λb ob q _ _ _=>k b ob q,λb ob q _ _ _=>⟨ob.slots,k b ob q⟩,λ_ _ _ n _=>n,λb ob q _=>⟨ob,k b ob q⟩,λ_ _ q=>q,λ_ _ _ q=>q,λ_ ps q=>⟨#[],by rw[q];simp⟩⟩
theorem Un.refl:Un fs ex H H h h:=Un.kept λ_ _ q=>q
theorem Un.laid(k:∀ b u,h.get? b=some u->h'.get? b=some u)(hp:h.objs.size<=a)(hn:H a=none):Un fs ex H (Lb H a o) h h' where
 keep:=λb u q _ _ _=>k b u q
 slot:=λb u q _ _ _=>⟨u.slots,k b u q⟩
 free:=λb u q n _=>by rw[Ea (ag (bd (sd q) hp))];exact n
 there:=λb u q _=>⟨u,k b u q⟩
 tups:=λb xs q=>by rw[Ea (Sa q hn)];exact q
 frzs:=λb u xs q=>by rw[Ea (Sa q hn)];exact q
 tbls:=λb ps q=>⟨#[],by rw[Ea (Sa q hn),q];simp⟩
theorem Un.write(mu:Mut (H x))(he:e=x\/H e=some (.own x))(k:∀ b u,b≠e->h.get? b=some u->h'.get? b=some u)(heo:∃ u,h'.get? e=some u):Un fs ex H (Lb H x o) h h':=by
 have hx:∀ b,H b=none->b≠x:=λb n z=>by subst z;rw[n]at mu;exact mu
 have hb:∀ b,H b=none->b≠e:=λb n z=>by
  subst z;rcases he with r|r
  .exact hx b n r
  .rw[n]at r;cases r
 have hm:∀ b u,H b=some u->¬ Mut (some u)->b≠x:=λb u q nm z=>by subst z;rw[q]at mu;exact nm mu
 refine⟨λb u q n _ _=>k b u (hb b n) q,λb u q n _ _=>⟨u.slots,k b u (hb b n) q⟩,λb u q n _=>by rw[Ea (hx b n)];exact n,λb u q _=>?_,
  λb xs q=>by rw[Ea (hm b _ q λz=>z)];exact q,λb u xs q=>by rw[Ea (hm b _ q λz=>z)];exact q,λb ps q=>⟨#[],by rw[Ea (hm b _ q λz=>z),q];simp⟩⟩
 by_cases hbe:b=e
 .subst hbe;exact heo
 .exact⟨u,k b u hbe q⟩
end
def trk(h:pd)(H:Hp):List ia:=(wo h.objs.size).filter λa=>(H a).isSome
def Yy(h:pd)(H:Hp):pd:=qi h (trk h H)
theorem AK(h:pd)(H:Hp):(Yy h H).objs.size=h.objs.size:=PySem.W.hideAll_size _ _
variable{o:mh}
theorem MO{h:pd}(e:h.get? b=some o)(n:H b=none):(Yy h H).get? b=some o:=
 hideAll_get _ e λhm=>by
  have q:(H b).isSome=true:=(List.mem_filter.mp hm).2;rw[n]at q;simp at q
theorem HW{h:pd}(e:(Yy h H).get? b=some o):h.get? b=some o/\H b=none:=by
 have e':h.get? b=some o:=of_hideAll (trk h H) e;refine⟨e',?_⟩;cases q:H b with
 |none=>rfl
 |some x=>
  have hm:b∈trk h H:=List.mem_filter.mpr ⟨List.mem_range.mpr (sd e'),by simp[q]⟩;have z:(Yy h H).get? b=none:=jp (trk h H) hm;rw[z]at e;cases e
def AU(g h:pd)(L:ia):List (ia×mh):=(wo h.objs.size).filterMap λa=>if a=L\/(g.get? a).isSome=true then none else(h.get? a).map λo=>(a,o)
def rest(g h:pd)(L d:ia):List (ia×mh):=(AU g h L).filter λp=>decide (p.1≠d)
structure Mod(K:td)(mg:ua->Option Da)(base:pd):Prop where
 kin:K.In base
 glob:base.Ns aa mg
 blt:∃ mb,base.Ns builtinsNs mb/\∀ x:ua,x≠"__name__"->mb x=ug x
 nolimit:base.NoLimit
structure Cx where
 prog:ic
 w:yd
 K:td
 mg:ua->Option Da
 base:pd
 A:ye
 N:List ua
 s₀:ka
 H₀:Hp
 env:cq
 outer:List cq
 stack:List cq
 ex:List ia
 fn:ua->Bool
 calm:Bool
 pn:List (ia×mh)
 xe:Da->ka->Prop
def Ff(l:List cq):List ia:=l.filterMap (·.frame)
abbrev Cx.fs(X:Cx):List ia:=Ff X.outer
def Jw(sc:io)(x:ua):Prop:=sc.names.lookup x=some .local\/sc.names.lookup x=some .cell\/sc.names.lookup x=some .free
def Loc(sc:io)(x:ua):Prop:=sc.names.lookup x=some .local\/sc.names.lookup x=some .cell
def Look(env:cq)(h:pd)(m:ua->Option Da)(x:ua)(u:Da):Prop:=
 (env.kindOf x=some .local/\m x=some u)\/((env.kindOf x=some .cell\/env.kindOf x=some .free)/\∃ c,env.cells.lookup x=some c/\h.IsCell c (some u))
structure Cx.Ok(X:Cx):Prop where
 mod:Mod X.K X.mg X.base
 kind:X.env.scope.kind=.function
 glob:X.env.globals=aa
 blt:X.env.builtins=builtinsNs
 above:X.s₀.heap.objs.size<=X.env.locals
 inj:∀ x y c,X.env.cells.lookup x=some c->X.env.cells.lookup y=some c->x=y
 has:∀ x,(X.env.kindOf x=some .cell\/X.env.kindOf x=some .free)->∃ c,X.env.cells.lookup x=some c
 cab:∀ x c,X.fn x=true->X.env.cells.lookup x=some c->X.s₀.heap.objs.size<=c
 hd:X.calm=true->X.A.handled=none
 frames:X.A.frames=some X.stack
 stk:X.stack=X.outer\/(X.stack=X.env::X.outer/\X.env.frame=some X.env.locals)
 exf:∀ b∈X.ex,b≠X.env.locals/\∀ x c,X.env.cells.lookup x=some c->c≠b
 bs:∀ b o,X.base.get? b=some o->X.s₀.heap.get? b=some o/\X.H₀ b=none
 bsz:X.base.objs.size<=X.s₀.heap.objs.size
 noex:∀ b o,X.base.get? b=some o->b∉X.ex
 exfs:∀ b∈X.ex,b∉X.fs
 funs:X.s₀.heap.FunFrames X.base X.outer
 frf:∀ b∈X.fs,X.H₀ b=none
structure Inv(X:Cx)(pins:List (ia×mh))(σ:List (Option V))(H:Hp)(s:ka):Prop where
 ok:X.Ok
 os:s.os=X.s₀.os
 bare:gj s.gens
 base:Un X.fs X.ex X.H₀ H X.s₀.heap s.heap
 loc:∃ m,s.heap.Ns X.env.locals m/\∀ (i:Nat) (x:ua) (v:V),X.N[i]? =some x->σ[i]? =some (some v)->Jw X.env.scope x->∃ u,RelV v u/\Look X.env s.heap m x u
 cell:∀ x c,X.env.cells.lookup x=some c->∃ v,s.heap.IsCell c v
 free:H X.env.locals=none
 freeC:∀ x c,X.env.cells.lookup x=some c->H c=none
 pin:∀ p∈X.pn++pins,s.heap.get? p.1=some p.2/\H p.1=none/\p.1≠X.env.locals/\p.1∉X.fs/\∀ v,p.2.data≠ .cell v
 hok:HOk X.prog X.w H s.heap
 len:σ.length=X.N.length
variable{x:ua}{v:V}{Q:Unit->ka->Prop}{X:Cx}{pins:List (ia×mh)}{g':Array rk}{t' i j:Nat}{d':Drawn}{ch:List ia}{it:ia}{N:List ua}{M:Model}{s':ka}
section
variable {σ:List (Option V)}
theorem Cx.Ok.nofr(ok:X.Ok)(e:X.base.get? b=some o):b∉X.fs:=λhb=>by
 have:=(ok.funs.mem hb).1;rw[e]at this;cases this
theorem Inv.bs(I:Inv X pins σ H s):∀ b o,X.base.get? b=some o->s.heap.get? b=some o/\H b=none:=λb o e=>
 ⟨I.base.keep b o (I.ok.bs b o e).1 (I.ok.bs b o e).2 (I.ok.nofr e) (I.ok.noex b o e),I.base.free b o (I.ok.bs b o e).1 (I.ok.bs b o e).2 (I.ok.noex b o e)⟩
theorem Inv.bk(I:Inv X pins σ H s):∀ b o,X.base.get? b=some o->s.heap.get? b=some o:=λb o e=>(I.bs b o e).1
theorem Inv.mod(I:Inv X pins σ H s):Mod X.K X.mg X.base:=I.ok.mod
theorem Inv.kIn(I:Inv X pins σ H s):X.K.In s.heap:=I.ok.mod.kin.keeps I.bk
theorem Inv.lt(I:Inv X pins σ H s):X.env.locals<s.heap.objs.size:=let ⟨_,hn,_⟩:=I.loc;hn.lt
theorem Inv.sz(I:Inv X pins σ H s):X.s₀.heap.objs.size<=s.heap.objs.size:=bf I.ok.above (rq I.lt)
theorem Inv.nofs(I:Inv X pins σ H s)(h:s.heap.objs.size<=a):a∉X.fs:=λhb=>by
 obtain⟨_,o,ho,_⟩:=I.ok.funs.mem hb;exact absurd (bd (sd ho) (bf I.sz h)) (xh _)
theorem Inv.cne(I:Inv X pins σ H s):∀ x c,X.env.cells.lookup x=some c->c≠X.env.locals:=λx c e z=>by
 obtain⟨v,o,ho,hd⟩:=I.cell x c e;obtain⟨m,⟨o',es,ep,ho',hd',_⟩,_⟩:=I.loc;rw[z,ho']at ho;cases ho;rw[hd']at hd;cases hd
theorem Inv.funs(I:Inv X pins σ H s):s.heap.FunFrames X.base X.outer:=by
 have all:∀ (l:List cq),(∀ b∈Ff l,b∈X.fs)->X.s₀.heap.FunFrames X.base l->s.heap.FunFrames X.base l:=by
  intro l
  induction l with
  |nil=>intro _ _;trivial
  |cons env r ih=>
   intro hs hl;obtain⟨hk,⟨L,o,hf,hn,ho,hd⟩,hr⟩:=hl;have hL:L∈X.fs:=hs L (by unfold Ff;rw[xm,hf];exact kc);obtain⟨sl,e⟩:=I.base.slot L o ho (I.ok.frf L hL) hL λz=>I.ok.exfs L z hL;exact⟨hk,⟨L,_,hf,hn,e,hd⟩,ih (λb hb=>hs b (by unfold Ff;rw[xm,hf];exact ib _ hb)) hr⟩
 exact all X.outer (λ_ hb=>hb) I.ok.funs
theorem Inv.stack(I:Inv X pins σ H s):s.heap.FunFrames X.base X.stack:=by
 rcases I.ok.stk with e|⟨e,hf⟩
 .rw[e];exact I.funs
 .rw[e];obtain⟨m,hn,_⟩:=I.loc;refine .cons (by rw[I.ok.kind];decide) hf hn ?_ I.funs;exact pp (bf I.ok.bsz I.ok.above)
theorem Inv.stkSub(I:Inv X pins σ H s):∀ b∈Ff X.stack,b∈X.env.locals::X.fs:=λb hb=>by
 rcases I.ok.stk with e|⟨e,hf⟩
 .rw[e]at hb;exact ib _ hb
 .rw[e]at hb
  unfold Ff at hb;rw[xm,hf]at hb
  exact hb
theorem Inv.stkFree(I:Inv X pins σ H s):∀ b∈Ff X.stack,H b=none:=λb hb=>by
 rcases xc.mp (I.stkSub b hb) with e|hb
 .rw[e];exact I.free
 .obtain⟨_,o,ho,_⟩:=I.ok.funs.mem hb;exact I.base.free b o ho (I.ok.frf b hb) λz=>I.ok.exfs b z hb
theorem Inv.step(I:Inv X pins σ H s)(hch:∀ b∈ch,(b∈X.ex\/X.s₀.heap.objs.size<=b)/\b≠X.env.locals/\(∀ x c,X.env.cells.lookup x=some c->c≠b)/\∀ p∈X.pn++pins,p.1≠b)(keep:∀ b o,b≠X.env.locals->b∉X.fs->b∉ch->s.heap.get? b=some o->H b=none->h'.get? b=some o)(slot:∀ b o,b≠X.env.locals->b∈X.fs->b∉ch->s.heap.get? b=some o->H b=none->∃ sl,h'.get? b=some {o with slots:=sl})(free:∀ b o,b∉ch->s.heap.get? b=some o->H b=none->H' b=none)(there:∀ b o,b∉ch->s.heap.get? b=some o->∃ o',h'.get? b=some o')(tups:∀ b xs,H b=some (.tup xs)->H' b=some (.tup xs))(frzs:∀ b o u,H b=some (.frz o u)->H' b=some (.frz o u))(tbls:∀ b ps,H b=some (.tbl ps)->∃ more,H' b=some (.tbl (ps++more)))(ns:∀ m,s.heap.Ns X.env.locals m->h'.Ns X.env.locals m)(hok:HOk X.prog X.w H' h')(hg:gj g'):
  Inv X pins σ H' {s with heap:=h',gens:=g',drawn:=d',toks:=t'}:=by
 have neL:∀ b o,X.s₀.heap.get? b=some o->b≠X.env.locals:=λb o e=>ag (bd (sd e) I.ok.above)
 have neC:∀ b o,X.s₀.heap.get? b=some o->b∉X.ex->b∉ch:=λb o e hx hb=>by
  rcases(hch b hb).1 with z|z
  .exact hx z
  .exact absurd (bd (sd e) z) (xh _)
 have cellK:∀ x c,X.env.cells.lookup x=some c->∀ v,s.heap.IsCell c v->h'.IsCell c v:=λx c e v ⟨o,ho,hd⟩=>by
  have nch:c∉ch:=λz=>(hch c z).2.2.1 x c e rfl;by_cases hc:c∈X.fs
  .obtain⟨sl,q⟩:=slot c o (I.cne x c e) hc nch ho (I.freeC x c e);exact⟨_,q,hd⟩
  .exact⟨o,keep c o (I.cne x c e) hc nch ho (I.freeC x c e),hd⟩
 refine⟨I.ok,I.os,hg,⟨λb o e n hb hx=>?_,λb o e n hb hx=>?_,λb o e n hx=>?_,λb o e hx=>?_,λb xs e=>tups b xs (I.base.tups b xs e),λb o xs e=>frzs b o xs (I.base.frzs b o xs e),λb ps e=>?_⟩,?_,λx c e=>?_,?_,λx c e=>?_,λp hp=>?_,hok,I.len⟩
 .exact keep b o (neL b o e) hb (neC b o e hx) (I.base.keep b o e n hb hx) (I.base.free b o e n hx)
 .obtain⟨sl,e1⟩:=I.base.slot b o e n hb hx;obtain⟨sl',e2⟩:=slot b _ (neL b o e) hb (neC b o e hx) e1 (I.base.free b o e n hx);exact⟨sl',e2⟩
 .obtain⟨o',e1⟩:=I.base.there b o e hx;exact free b o' (neC b o e hx) e1 (I.base.free b o e n hx)
 .obtain⟨o',e1⟩:=I.base.there b o e hx;exact there b o' (neC b o e hx) e1
 .obtain⟨m1,e1⟩:=I.base.tbls b ps e;obtain⟨m2,e2⟩:=tbls b _ e1;exact⟨m1++m2,by rw[e2,Array.append_assoc]⟩
 .obtain⟨m,hn,hl⟩:=I.loc;refine⟨m,ns m hn,λi x v e1 e2 e3=>?_⟩;obtain⟨u,r,l⟩:=hl i x v e1 e2 e3;refine⟨u,r,?_⟩;rcases l with l|⟨k,c,e,z⟩
  .exact .inl l
  .exact .inr ⟨k,c,e,cellK x c e _ z⟩
 .obtain⟨v,z⟩:=I.cell x c e;exact⟨v,cellK x c e v z⟩
 .obtain⟨m,⟨o,_,_,ho,_⟩,_⟩:=I.loc;exact free _ o (λz=>(hch _ z).2.1 rfl) ho I.free
 .obtain⟨v,o,ho,hd⟩:=I.cell x c e;exact free c o (λz=>(hch c z).2.2.1 x c e rfl) ho (I.freeC x c e)
 .obtain⟨e,n,ne,nf,d⟩:=I.pin p hp;have nch:p.1∉ch:=λz=>(hch p.1 z).2.2.2 p hp rfl;exact⟨keep p.1 p.2 ne nf nch e n,free p.1 p.2 nch e n,ne,nf,d⟩
theorem Inv.un(I:Inv X pins σ H s)(u:Un X.fs [] H H' s.heap h')(hok:HOk X.prog X.w H' h'):Inv X pins σ H' {s with heap:=h',toks:=t'}:=by
 obtain⟨m,⟨o,es,ep,ho,r⟩,_⟩:=id I.loc;obtain⟨sl,hL⟩:=u.any ho I.free (by simp)
 exact I.step (g':=s.gens) (d':=s.drawn) (ch:= []) (λ_ z=>nomatch z) (λb o _ hb _ e n=>u.keep b o e n hb (by simp)) (λb o _ hb _ e n=>u.slot b o e n hb (by simp)) (λb o _ e n=>u.free b o e n (by simp)) (λb o _ e=>u.there b o e (by simp)) u.tups u.frzs u.tbls (λm' hm=>by
  obtain⟨o',es',ep',ho',r'⟩:=hm;rw[ho]at ho';cases ho'
  exact⟨_,es',ep',hL,r'⟩) hok I.bare
theorem Inv.call(I:Inv X pins σ H s)(u:Un (Ff X.stack) ch H H' s.heap h')(hok:HOk X.prog X.w H' h')(hg:gj g')(hch:∀ b∈ch,(b∈X.ex\/X.s₀.heap.objs.size<=b)/\b≠X.env.locals/\(∀ x c,X.env.cells.lookup x=some c->c≠b)/\∀ p∈X.pn++pins,p.1≠b):
  Inv X pins σ H' {s with heap:=h',gens:=g',drawn:=d',toks:=t'}:=by
 obtain⟨m,⟨o,es,ep,ho,r⟩,_⟩:=id I.loc;obtain⟨sl,hL⟩:=u.any ho I.free λz=>(hch _ z).2.1 rfl
 exact I.step (ch:=ch) hch (λb o hL hb hc e n=>u.keep b o e n (λz=>(xc.mp (I.stkSub b z)).elim hL hb) hc) (λb o _ _ hc e n=>u.any e n hc) (λb o hc e n=>u.free b o e n hc) (λb o hc e=>u.there b o e hc) u.tups u.frzs u.tbls (λm' hm=>by
  obtain⟨o',es',ep',ho',r'⟩:=hm;rw[ho]at ho';cases ho'
  exact⟨_,es',ep',hL,r'⟩) hok hg
theorem Inv.turned(I:Inv X pins σ H s)(k:∀ b o,b≠it->s.heap.get? b=some o->h'.get? b=some o)(hn:H it=none)(hL:it≠X.env.locals)(h1:it∈X.ex\/X.s₀.heap.objs.size<=it)(h2:∀ x c,X.env.cells.lookup x=some c->c≠it)(h3:∀ p∈X.pn++pins,p.1≠it):Inv X pins σ H {s with heap:=h',toks:=t'}:=by
 have nit:∀ b u,H b=some u->b≠it:=λb u e z=>by rw[z,hn]at e;cases e
 refine I.step (g':=s.gens) (d':=s.drawn) (ch:= [it]) (λb hb=>?_) (λb o _ _ hc e _=>k b o (λz=>hc (by simp[z])) e) (λb o _ _ hc e _=>⟨o.slots,k b o (λz=>hc (by simp[z])) e⟩) (λ_ _ _ _ n=>n)
  (λb o hc e=>⟨o,k b o (λz=>hc (by simp[z])) e⟩) (λ_ _ e=>e) (λ_ _ _ e=>e) (λb ps e=>⟨#[],by rw[e];simp⟩) (λm hm=>?_) (λb u e=>?_) I.bare
 .have e:b=it:=by simpa using hb
  subst e;exact⟨h1,hL,h2,h3⟩
 .obtain⟨o,es,ep,ho,r⟩:=hm;exact⟨o,es,ep,k _ o (jg hL) ho,r⟩
 .refine(I.hok b u e).stay (λc v hc q=>k c v ?_ q) (λ_ q=>q) λ_ _ q=>q;rcases hc with z|z
  .rw[z];exact nit b u e
  .exact nit c _ z
theorem Inv.tok(I:Inv X pins σ H s)(t:Nat):Inv X pins σ H {s with toks:=t}:=I.un (h':=s.heap) (t':=t) Un.refl I.hok
theorem Inv.kept(I:Inv X pins σ H s)(k:∀ b u,s.heap.get? b=some u->h'.get? b=some u):Inv X pins σ H {s with heap:=h',toks:=t'}:=I.un (Un.kept k) (I.hok.kept k)
theorem Inv.laid{o:HO}(I:Inv X pins σ H s)(k:∀ b u,s.heap.get? b=some u->h'.get? b=some u)(hp:s.heap.objs.size<=a)(new:ObjOk X.prog X.w (Lb H a o) h' a o):
  Inv X pins σ (Lb H a o) {s with heap:=h',toks:=t'}:=I.un (Un.laid k hp (I.hok.fresh hp)) (I.hok.laid k hp new)
theorem Inv.write{x:ia}{o:HO}(I:Inv X pins σ H s)(mu:Mut (H x))(he:e=x\/H e=some (.own x))(k:∀ b u,b≠e->s.heap.get? b=some u->h'.get? b=some u)(heo:∃ u,h'.get? e=some u)(new:ObjOk X.prog X.w (Lb H x o) h' x o):Inv X pins σ (Lb H x o) {s with heap:=h',toks:=t'}:=I.un (Un.write mu he k heo) (I.hok.write mu he k heo new)
theorem Inv.pins_of{pins':List (ia×mh)}(I:Inv X pins σ H s)(h:∀ p∈pins',s.heap.get? p.1=some p.2/\H p.1=none/\p.1≠X.env.locals/\p.1∉X.fs/\∀ v,p.2.data≠ .cell v):Inv X pins' σ H s:=
 ⟨I.ok,I.os,I.bare,I.base,I.loc,I.cell,I.free,I.freeC,λp hp=>(wj.mp hp).elim (λz=>I.pin p (qp _ z)) (h p),I.hok,I.len⟩
theorem Qu(hN:N.Nodup)(a:N[i]? =some x)(b:N[j]? =some x):i=j:=by
 obtain⟨h1,e1⟩:=pb.mp a;obtain⟨h2,e2⟩:=pb.mp b;exact(List.getElem_inj hN).mp (e1.trans e2.symm)
theorem QL(I:Inv X pins σ H s)(hN:X.N.Nodup)(hi:X.N[i]? =some x)(hx:Loc X.env.scope x)(r:RelV v u)(h:∀ s',Inv X pins (σ.set i (some v)) H s'->(∃ a,tm a s.heap s'.heap/\(a=X.env.locals\/X.env.cells.lookup x=some a))->Q () s')(hf:X.fn x=true\/X.env.scope.names.lookup x=some .local:=by first|exact .inl rfl|exact .inr rfl|assumption):cb M A (storeName X.env x u) Q E s:=by
 obtain⟨m,hn,hl⟩:=id I.loc;have hcls:(X.env.scope.kind== .class||(X.env.scope.kind== .module&&X.env.locals != X.env.globals))=false:=by rw[I.ok.kind];rfl
 have hiσ:i<σ.length:=by rw[I.len];exact(pb.mp hi).1
 have cne:=I.cne
 have tracked:∀ {a:ia} {h':pd},(∃ o,s.heap.get? a=some o/\H a=none)->tm a s.heap h'->HOk X.prog X.w H h':=λ{a h'} ha hs b ob e=>by
  obtain⟨_,_,hfree⟩:=ha;refine(I.hok b ob e).stay (λc w' hc q=>(hs.2 c ?_).trans q) (λ_ q=>q) λ_ _ q=>q;rintro rfl;rcases hc with rfl|hc
  .rw[hfree]at e;cases e
  .rw[hfree]at hc;cases hc
 rcases hx with hk|hk
 .refine wpAny_storeName_local hk hn (λh' hn' hs=>?_) hcls;obtain⟨oL,_,_,hoL,_⟩:=id hn;refine h _ ⟨I.ok,I.os,I.bare,⟨λb o e n hb hx=>?_,λb o e n hb hx=>?_,I.base.free,λb o e hx=>?_,I.base.tups,I.base.frzs,I.base.tbls⟩,⟨_,hn',λj y v' e1 e2 e3=>?_⟩,λy c e=>?_,I.free,I.freeC,λp hp=>?_,tracked ⟨oL,hoL,I.free⟩ hs,by simpa using I.len⟩ ⟨_,hs,.inl rfl⟩
  .exact(hs.2 b (ag (bd (sd e) I.ok.above))).trans (I.base.keep b o e n hb hx)
  .obtain⟨sl,e1⟩:=I.base.slot b o e n hb hx;exact⟨sl,(hs.2 b (ag (bd (sd e) I.ok.above))).trans e1⟩
  .obtain⟨o',e1⟩:=I.base.there b o e hx;exact⟨o',(hs.2 b (ag (bd (sd e) I.ok.above))).trans e1⟩
  .by_cases hj:j=i
   .subst hj;rw[hi]at e1;cases e1
    rw[ze hiσ]at e2
    cases e2;exact⟨u,r,.inl ⟨hk,by simp⟩⟩
   .rw[zc (jg hj)]at e2
    obtain⟨u',r',q⟩:=hl j y v' e1 e2 e3;refine⟨u',r',?_⟩;rcases q with⟨k,e⟩|⟨k,c,e,z⟩
    .refine .inl ⟨k,?_⟩;have:y≠x:=λe=>hj (Qu hN e1 (e▸hi));simp[this,e]
    .exact .inr ⟨k,c,e,z.sameBut hs (cne y c e)⟩
  .obtain⟨w',z⟩:=I.cell y c e;exact⟨w',z.sameBut hs (cne y c e)⟩
  .obtain⟨e,n,ne,nf,d⟩:=I.pin p hp;exact⟨(hs.2 p.1 ne).trans e,n,ne,nf,d⟩
 .have hfn:X.fn x=true:=by
   rcases hf with z|z
   .exact z
   .rw[z]at hk;cases hk
  obtain⟨c,hc⟩:=I.ok.has x (.inl hk);obtain⟨w',z⟩:=I.cell x c hc;refine wpAny_storeName_cell I.ok.kind hk hc z (λh' hc' hs=>?_);obtain⟨oc,hoc,hocd⟩:=id z;refine h {s with heap:=h'} ⟨I.ok,I.os,I.bare,⟨λb o e n hb hx=>?_,λb o e n hb hx=>?_,I.base.free,λb o e hx=>?_,I.base.tups,I.base.frzs,I.base.tbls⟩,⟨m,hn.sameBut hs (jg (cne x c hc)),λj y v' e1 e2 e3=>?_⟩,λy c' e=>?_,I.free,I.freeC,λp hp=>?_,tracked ⟨oc,hoc,I.freeC x c hc⟩ hs,by simpa using I.len⟩ ⟨c,hs,.inr hc⟩
  .exact(hs.2 b (ag (bd (sd e) (I.ok.cab x c hfn hc)))).trans (I.base.keep b o e n hb hx)
  .obtain⟨sl,e1⟩:=I.base.slot b o e n hb hx;exact⟨sl,(hs.2 b (ag (bd (sd e) (I.ok.cab x c hfn hc)))).trans e1⟩
  .obtain⟨o',e1⟩:=I.base.there b o e hx;exact⟨o',(hs.2 b (ag (bd (sd e) (I.ok.cab x c hfn hc)))).trans e1⟩
  .by_cases hj:j=i
   .subst hj;rw[hi]at e1;cases e1
    rw[ze hiσ]at e2
    cases e2;exact⟨u,r,.inr ⟨.inl hk,c,hc,hc'⟩⟩
   .rw[zc (jg hj)]at e2
    obtain⟨u',r',q⟩:=hl j y v' e1 e2 e3;refine⟨u',r',?_⟩;rcases q with q|⟨k,c',e,z'⟩
    .exact .inl q
    .refine .inr ⟨k,c',e,z'.sameBut hs ?_⟩;rintro rfl;exact hj (Qu hN e1 (I.ok.inj _ _ _ e hc▸hi))
  .by_cases hcc:c'=c
   .subst hcc;exact⟨_,hc'⟩
   .obtain⟨w2,z2⟩:=I.cell y c' e;exact⟨w2,z2.sameBut hs hcc⟩
  .obtain⟨e,n,ne,nf,d⟩:=I.pin p hp;refine⟨(hs.2 p.1 ?_).trans e,n,ne,nf,d⟩;intro q;rw[q,hoc]at e
   have q':oc=p.2:=jc e;exact d w' (by rw[<-q'];exact hocd)
theorem Mv(I:Inv X pins σ H s)(hN:X.N.Nodup)(hi:X.N[i]? =some x)(hx:Loc X.env.scope x)(r:RelV v u)(h:∀ s',Inv X pins (σ.set i (some v)) H s'->Q () s')(hf:X.fn x=true\/X.env.scope.names.lookup x=some .local:=by first|exact .inl rfl|exact .inr rfl|assumption):cb M A (storeName X.env x u) Q E s:=
 QL I hN hi hx r (λs' I' _=>h s' I') hf
theorem Inv.call'(I:Inv X pins σ H s)(ho:s'.os=s.os)(u:Un (Ff X.stack) ch H H' s.heap s'.heap)(hok:HOk X.prog X.w H' s'.heap)(hg:gj s'.gens)(hch:∀ b∈ch,(b∈X.ex\/X.s₀.heap.objs.size<=b)/\b≠X.env.locals/\(∀ x c,X.env.cells.lookup x=some c->c≠b)/\∀ p∈X.pn++pins,p.1≠b):Inv X pins σ H' s':=by
 obtain⟨h',g',d',t',o'⟩:=s';have e:o'=s.os:=ho;subst e;exact I.call (g':=g') (t':=t') (d':=d') u hok hg hch
end
abbrev XK:=Da->Option ia×Bool->Hp->Prop
abbrev St:=List (Option V)
abbrev VK:=V->Hp->Prop
abbrev TE:=St->Hp->VK->Prop
abbrev TT:=St->Hp->(Bool->Hp->Prop)->Prop
abbrev TA:=St->Hp->(List V->Hp->Prop)->Prop
structure Ends where
 nx:St->Hp->Prop
 rt:VK
 bk:St->Hp->Prop:=λ_ _=>False
 ct:St->Hp->Prop:=λ_ _=>False
abbrev TS:=Ends->St->Hp->Prop
def EP(X:Cx)(pins:List (ia×mh))(σ:St)(Q:VK)(u:Da)(s':ka):Prop:=∃ v H',Inv X pins σ H' s'/\RelV v u/\Q v H'
def TP(X:Cx)(pins:List (ia×mh))(σ:St)(Q:Bool->Hp->Prop)(b:Bool)(s':ka):Prop:=∃ H',Inv X pins σ H' s'/\Q b H'
def AP(X:Cx)(pins:List (ia×mh))(σ:St)(Q:List V->Hp->Prop)(us:List Da)(s':ka):Prop:=∃ vs H',Inv X pins σ H' s'/\Vals vs us/\Q vs H'
def SP(X:Cx)(pins:List (ia×mh))(D:Ends)(f:Flow)(s':ka):Prop:=
 match f with
 | .next=>∃ σ' H',Inv X pins σ' H' s'/\D.nx σ' H'
 | .brk=>∃ σ' H',Inv X pins σ' H' s'/\D.bk σ' H'
 | .cont=>∃ σ' H',Inv X pins σ' H' s'/\D.ct σ' H'
 | .ret u=>∃ v σ' H',Inv X pins σ' H' s'/\RelV v u/\D.rt v H'
def PE(X:Cx)(e:nc)(t:TE):Prop:=
 ∀ (pins:List (ia×mh)) (s:ka) (σ:St) (H:Hp) (Q:VK),Inv X pins σ H s->t σ H Q->cb (jb X.prog X.w) X.A (eval e X.env) (EP X pins σ Q) X.xe s
def PT(X:Cx)(e:nc)(t:TT):Prop:=
 ∀ (pins:List (ia×mh)) (s:ka) (σ:St) (H:Hp) (Q:Bool->Hp->Prop),Inv X pins σ H s->t σ H Q->cb (jb X.prog X.w) X.A (isTrue e X.env (eval e X.env)) (TP X pins σ Q) X.xe s
def PW(X:Cx)(e:nc)(t:TT):Prop:=
 ∀ (whole:Sem Da) (pins:List (ia×mh)) (s:ka) (σ:St) (H:Hp) (Q:Bool->Hp->Prop),Inv X pins σ H s->t σ H Q->cb (jb X.prog X.w) X.A (isTrue e X.env whole) (TP X pins σ Q) X.xe s
variable{e:nc}
theorem PW.pt{t:TT}(h:PW X e t):PT X e t:=h _
def PA(X:Cx)(es:List nc)(t:TA):Prop:=
 ∀ (pos:bh) (pins:List (ia×mh)) (s:ka) (σ:St) (H:Hp) (Q:List V->Hp->Prop),Inv X pins σ H s->t σ H Q->cb (jb X.prog X.w) X.A (spliced (yc pos (Fa es X.env))) (AP X pins σ Q) X.xe s
def PS(X:Cx)(st:yf)(t:TS):Prop:=
 ∀ (pins:List (ia×mh)) (s:ka) (σ:St) (H:Hp) (D:Ends),Inv X pins σ H s->t D σ H->cb (jb X.prog X.w) X.A (exec st X.env) (SP X pins D) X.xe s
def PSs(X:Cx)(st:List yf)(t:TS):Prop:=
 ∀ (pins:List (ia×mh)) (s:ka) (σ:St) (H:Hp) (D:Ends),Inv X pins σ H s->t D σ H->cb (jb X.prog X.w) X.A (execs st X.env) (SP X pins D) X.xe s
theorem thn{t:Sem α}{Q Q':α->ka->Prop}(h:cb M A t Q E s)(hQ:∀ a s,Q a s->Q' a s):cb M A t Q' E s:=se h hQ λ_ _ x=>x
variable{Q:Da->ka->Prop}{a c:nc}{σ:St}{ta tb:TE}{pos:bh}{op:CmpOp}
section
def La0(i:Nat):TE:=λσ H Q=>∃ v,σ[i]? =some (some v)/\Q v H
def tC(v:V):TE:=λ_ H Q=>Q v H
theorem Ph{pos:bh}(hN:X.N[i]? =some x)(hv:Jw X.env.scope x)(hd:(x==("__debug__":ua))=false:=by decide)(hcd:(x==("__classdict__":ua))=false:=by decide):PE X (.Name x pos) (La0 i):=by
 intro pins s σ H Q I h;obtain⟨v,e,h⟩:=h;obtain⟨m,hn,hl⟩:=I.loc;obtain⟨u,r,l⟩:=hl i x v hN e hv;have fin:EP X pins σ Q u s:=⟨v,H,I,r,h⟩
 rcases l with⟨hk,hm⟩|⟨hk,c,hc,hcell⟩
 .exact wpAny_Name (wpAny_loadName_local I.ok.kind hk hn hm fin) hd
 .rcases hk with hk|hk
  .exact wpAny_Name (wpAny_loadName_cell I.ok.kind hk hc hcell fin) hd
  .exact wpAny_Name (wpAny_loadName_free I.ok.kind hk hc hcell fin hcd) hd
theorem SQ{i j pos}:PE X (.Constant (.int i) j pos) (tC (.int i)):=λ_ _ _ H _ I h=>wpAny_Constant_int ⟨.int i,H,I.tok _,⟨_,rfl⟩,h⟩
theorem F9{b j pos}:PE X (.Constant (.bool b) j pos) (tC (.bl b)):=λ_ _ _ H _ I h=>Constant_bool ⟨.bl b,H,I,rfl,h⟩
theorem V4{j pos}:PE X (.Constant .none j pos) (tC .non):=λ_ _ _ H _ I h=>Constant_none ⟨.non,H,I,rfl,h⟩
theorem UQ{x j pos}:PE X (.Constant (.str x) j pos) (tC (.str x)):=λ_ _ _ H _ I h=>Calls.Constant_str ⟨.str x,H,I.tok _,⟨_,rfl⟩,h⟩
def Gl(X:Cx)(x:ua):Prop:=X.env.kindOf x=some .globalImplicit
theorem Bk{pos:bh}(I:Inv X pins σ H s)(hg:Gl X x)(hm:X.mg x=some u)(h:Q u s)(hd:(x==("__debug__":ua))=false:=by decide):cb (jb X.prog X.w) X.A (eval (.Name x pos) X.env) Q E s:=
 br I.ok.kind hg (Calls.loadGlobal_global (by rw[I.ok.glob];exact I.mod.glob.keeps I.bk) hm h) hd
theorem Yo{pos:bh}(I:Inv X pins σ H s)(hg:Gl X x)(hm:X.mg x=none)(hv:ug x=some u)(h:Q u s)(hn:x≠"__name__":=by decide)(hd:(x==("__debug__":ua))=false:=by decide):cb (jb X.prog X.w) X.A (eval (.Name x pos) X.env) Q E s:=by
 obtain⟨mb,h1,h2⟩:=I.mod.blt;exact br I.ok.kind hg (Calls.loadGlobal_builtin (by rw[I.ok.glob];exact I.mod.glob.keeps I.bk) hm (by rw[I.ok.blt];exact h1.keeps I.bk) ((h2 x hn).trans hv) h) hd
theorem Mt{pos:bh}(hg:Gl X x)(hm:X.mg x=some u)(r:RelV v u)(hd:(x==("__debug__":ua))=false:=by decide):PE X (.Name x pos) (tC v):=
 λ_ _ _ H _ I h=>Bk I hg hm ⟨v,H,I,r,h⟩ hd
theorem WH{pos:bh}(hg:Gl X x)(hm:X.mg x=none)(hv:ug x=some u)(r:RelV v u)(hn:x≠"__name__":=by decide)(hd:(x==("__debug__":ua))=false:=by decide):PE X (.Name x pos) (tC v):=
 λ_ _ _ H _ I h=>Yo I hg hm hv ⟨v,H,I,r,h⟩ hn hd
variable {b:nc}
def PC(X:Cx)(op:CmpOp)(a b:nc)(t:TE):Prop:=
 ∀ (pins:List (ia×mh)) (s:ka) (σ:St) (H:Hp) (Q:VK),Inv X pins σ H s->t σ H Q->
  cb (jb X.prog X.w) X.A (eval a X.env) (λv s₁=>cb (jb X.prog X.w) X.A (eval b X.env) (λu s₂=>cb (jb X.prog X.w) X.A (yh op v u) (EP X pins σ Q) X.xe s₂) X.xe s₁) X.xe s
theorem ZP(b:nc)(h:op≠ .In)(h2:op≠ .NotIn):gi op b=false:=by
 have e1:(op==CmpOp.In)=false:=by cases op<;>first|rfl|exact absurd rfl h
 have e2:(op==CmpOp.NotIn)=false:=by cases op<;>first|rfl|exact absurd rfl h2
 cases b<;>simp[gi,e1,e2]
def Jd0(ta:TE):TE:=λσ H Q=>ta σ H λx H1=>Q (.bl (decide (x=.non))) H1
def Ha0(ta:TE):TE:=λσ H Q=>ta σ H λx H1=>Q (.bl (!decide (x=.non))) H1
theorem RelV.none_iff{x:V}{v:Da}(r:RelV x v):(v==Value.none)=decide (x=.non):=by
 cases x with
 |non=>cases r;rfl
 |bl _=>cases r;rfl
 |int _=>obtain⟨t,rfl⟩:=r;rfl
 |str _=>obtain⟨t,rfl⟩:=r;rfl
 |byt _=>obtain⟨t,rfl⟩:=r;rfl
 |flt _=>obtain⟨t,rfl⟩:=r;rfl
 |ref _=>cases r;rfl
 |ty _=>cases r;rfl
theorem Q4{j pos'}(ha:PE X a ta):PC X .Is a (.Constant .none j pos') (Jd0 ta):=by
 intro pins s σ H Q I h;refine thn (ha pins s σ H _ I h) λv s1 ⟨x,H1,I1,r1,q1⟩=>?_;exact Constant_none (is_none_gen ⟨.bl _,H1,I1,by rw[r1.none_iff];rfl,q1⟩)
theorem BX{j pos'}(ha:PE X a ta):PC X .IsNot a (.Constant .none j pos') (Ha0 ta):=by
 intro pins s σ H Q I h;refine thn (ha pins s σ H _ I h) λv s1 ⟨x,H1,I1,r1,q1⟩=>?_;exact Constant_none (isnot_none_gen ⟨.bl _,H1,I1,by rw[r1.none_iff];rfl,q1⟩)
def tB(t:TE):TT:=λσ H Q=>t σ H λx H1=>∃ c,x=.bl c/\Q c H1
theorem ER{t:TE}(h:PC X op a b t)(h1:gi op b=false:=by first|exact ZP _ (by decide) (by decide)|rfl):PT X (.Compare a [op] [b] pos) (tB t):=by
 intro pins s σ H Q I hw;refine wpAny_isTrue_Compare1 (thn (h pins s σ H _ I hw) λv s1 h1=>thn h1 λu s2 h2=>thn h2 λc s3 ⟨x,H1,I1,r1,q1⟩=>?_) h1;obtain⟨d,rfl,q⟩:=q1;cases r1;exact cg ⟨H1,I1,q⟩
theorem L5{t:TE}(h:PE X e t)(he:∀ whole,isTrue e X.env whole=(do let v <-whole;uu e.pos;mn [v] (truthy v)):=by intro _;rfl):PT X e (tB t):=by
 intro pins s σ H Q I hw;refine isTrue_plain (thn (h pins s σ H _ I hw) λv s1 ⟨x,H1,I1,r1,q1⟩=>?_) (he _);obtain⟨d,rfl,q⟩:=q1;cases r1;exact cg ⟨H1,I1,q⟩
variable {tA tB':TT}{rest:List nc}
def Zc0(t u:TT):TT:=λσ H Q=>t σ H λc H1=>if c=true then u σ H1 Q else Q false H1
def tOr(t u:TT):TT:=λσ H Q=>t σ H λc H1=>if c=true then Q true H1 else u σ H1 Q
def Kd0(t:TT):TT:=λσ H Q=>t σ H λc H1=>Q (!c) H1
theorem MX(ha:PT X a tA):PW X (.BoolOp .And [a] pos) tA:=by
 intro wh pins s σ H Q I h;refine isTrue_and (thn (ha pins s σ H Q I h) λc s1 e=>?_);cases c with
 |true=>exact isTrue_and_nil e
 |false=>exact e
theorem N5(ha:PT X a tA):PW X (.BoolOp .Or [a] pos) tA:=by
 intro wh pins s σ H Q I h;refine isTrue_or (thn (ha pins s σ H Q I h) λc s1 e=>?_);cases c with
 |false=>exact isTrue_or_nil e
 |true=>exact e
theorem M5(ha:PT X a tA)(hb:PW X (.BoolOp .And (b::rest) pos) tB'):PW X (.BoolOp .And (a::b::rest) pos) (Zc0 tA tB'):=by
 intro wh pins s σ H Q I h;refine isTrue_and (thn (ha pins s σ H _ I h) λc s1 ⟨H1,I1,q1⟩=>?_);cases c with
 |true=>exact hb wh pins s1 σ H1 Q I1 q1
 |false=>exact⟨H1,I1,q1⟩
theorem L9(ha:PT X a tA)(hb:PW X (.BoolOp .Or (b::rest) pos) tB'):PW X (.BoolOp .Or (a::b::rest) pos) (tOr tA tB'):=by
 intro wh pins s σ H Q I h;refine isTrue_or (thn (ha pins s σ H _ I h) λc s1 ⟨H1,I1,q1⟩=>?_);cases c with
 |true=>exact⟨H1,I1,q1⟩
 |false=>exact hb wh pins s1 σ H1 Q I1 q1
theorem K5(ha:PT X a tA):PT X (.UnaryOp .Not a pos) (Kd0 tA):=by
 intro pins s σ H Q I h;exact isTrue_not (ha pins s σ H (λc H1=>Q (!c) H1) I h)
def Y9(ta tb:TE):TE:=λσ H Q=>ta σ H λx H1=>∃ c,x=.bl c/\if c=true then tb σ H1 Q else Q (.bl false) H1
def Ld0(ta tb:TE):TE:=λσ H Q=>ta σ H λx H1=>∃ c,x=.bl c/\if c=true then Q (.bl true) H1 else tb σ H1 Q
def Ia0(ta:TE):TE:=λσ H Q=>ta σ H λx H1=>∃ c,x=.bl c/\Q (.bl (!c)) H1
theorem X4{op}{t:TE}(h:PE X a t):PE X (.BoolOp op [a] pos) t:=λpins s σ H Q I hw=>BoolOp_one (h pins s σ H Q I hw)
theorem R4(ha:PE X a ta)(hb:PE X (.BoolOp .And (b::rest) pos) tb):PE X (.BoolOp .And (a::b::rest) pos) (Y9 ta tb):=by
 intro pins s σ H Q I h;refine BoolOp_and (thn (ha pins s σ H _ I h) λv s1 ⟨x,H1,I1,r1,q1⟩=>?_);obtain⟨c,rfl,q1⟩:=q1;cases r1;refine cg ?_;cases c with
 |true=>exact hb pins s1 σ H1 Q I1 q1
 |false=>exact⟨.bl false,H1,I1,rfl,q1⟩
theorem J9(ha:PE X a ta)(hb:PE X (.BoolOp .Or (b::rest) pos) tb):PE X (.BoolOp .Or (a::b::rest) pos) (Ld0 ta tb):=by
 intro pins s σ H Q I h;refine BoolOp_or (thn (ha pins s σ H _ I h) λv s1 ⟨x,H1,I1,r1,q1⟩=>?_);obtain⟨c,rfl,q1⟩:=q1;cases r1;refine cg ?_;cases c with
 |false=>exact hb pins s1 σ H1 Q I1 q1
 |true=>exact⟨.bl true,H1,I1,rfl,q1⟩
theorem W4(ha:PE X a ta):PE X (.UnaryOp .Not a pos) (Ia0 ta):=by
 intro pins s σ H Q I h;refine UnaryOp_ (thn (ha pins s σ H _ I h) λv s1 ⟨x,H1,I1,r1,q1⟩=>?_);obtain⟨c,rfl,q1⟩:=q1;cases r1;exact not_of (cg ⟨.bl (!c),H1,I1,rfl,q1⟩)
def tIf(t:TT)(ta tb:TE):TE:=λσ H Q=>t σ H λc H1=>if c=true then ta σ H1 Q else tb σ H1 Q
theorem PQ(hc:PT X c tA)(ha:PE X a ta)(hb:PE X b tb):PE X (.IfExp c a b pos) (tIf tA ta tb):=by
 intro pins s σ H Q I h;refine wpAny_IfExp (thn (hc pins s σ H _ I h) λd s1 ⟨H1,I1,q1⟩=>?_);cases d with
 |true=>exact ha pins s1 σ H1 Q I1 q1
 |false=>exact hb pins s1 σ H1 Q I1 q1
end
def SqL(K:td)(H:Hp)(a:ia)(xs:List V):Prop:=
 Rd H a (.lst xs)\/
  ∃ (o:mh) (its:Array Da) (n:Nat),K.lookup a=some o/\o.cls=.type "list"/\o.dict=none/\o.data=.seq its n/\its.size<=sizeLine/\Vals xs its.toList
def SqT(K:td)(H:Hp)(a:ia)(xs:List V):Prop:=
 Rd H a (.tup xs)\/
  ∃ (o:mh) (its:Array Da) (n:Nat),K.lookup a=some o/\o.cls=.type "tuple"/\o.data=.seq its n/\its.size<=sizeLine/\Vals xs its.toList
def Sb0:Da->Option V
 | .none=>some .non
 | .bool b=>some (.bl b)
 | .int i _=>some (.int i)
 | .str x _=>some (.str x)
 | .bytes b _=>some (.byt b)
 | .float b _=>some (.flt b)
 | .ref a=>some (.ref a)
 | .type n=>some (.ty n)
 |_=>none
theorem RelV.abs{x:V}(r:RelV x u):Sb0 u=some x:=by
 cases x with
 |non=>cases r;rfl
 |bl _=>cases r;rfl
 |int _=>obtain⟨t,rfl⟩:=r;rfl
 |str _=>obtain⟨t,rfl⟩:=r;rfl
 |byt _=>obtain⟨t,rfl⟩:=r;rfl
 |flt _=>obtain⟨t,rfl⟩:=r;rfl
 |ref _=>cases r;rfl
 |ty _=>cases r;rfl
variable{y:V}
theorem RelV.inj{x:V}(r:RelV x u)(q:RelV y u):x=y:=jc (r.abs.symm.trans q.abs)
theorem Vals.inj:∀ {xs ys:List V} {us:List Da},Vals xs us->Vals ys us->xs=ys
 |_,_,_,.nil,.nil=>rfl
 |_,_,_,.cons r t,.cons r' t'=>by rw[r.inj r',Vals.inj t t']
variable{K:td}
section
variable {a:ia}{ys:List V}
theorem SqL.of(h:H a=some (.lst xs)):SqL K H a xs:=.inl (.inl h)
theorem SqT.of(h:H a=some (.tup xs)):SqT K H a xs:=.inl (.inl h)
theorem Inv.list(I:Inv X pins σ H s)(h:SqL X.K H a xs):∃ its:List Da,Vals xs its/\PlainL s.heap a its.toArray/\xs.length<=sizeLine:=by
 rcases h with h|⟨o,its,n,hk,hc,hd,hs,hz,r⟩
 .obtain⟨z,its,n,r,e⟩:=h.ok I.hok;exact⟨its,r,⟨_,n,e,rfl,rfl,rfl⟩,z⟩
 .refine⟨its.toList,r,⟨o,n,I.kIn a o hk,hc,hd,by simpa using hs⟩,?_⟩;have e:=r.length;simp only[qg]at e;omega
theorem Inv.tuple(I:Inv X pins σ H s)(h:SqT X.K H a xs):∃ its:List Da,Vals xs its/\IsTup s.heap a its.toArray/\xs.length<=sizeLine:=by
 rcases h with h|⟨o,its,n,hk,hc,hs,hz,r⟩
 .obtain⟨z,its,r,p⟩:=h.ok I.hok;exact⟨its,r,p,z⟩
 .refine⟨its.toList,r,⟨o,I.kIn a o hk,hc,n,by simpa using hs⟩,?_⟩;have e:=r.length;simp only[qg]at e;omega
theorem Inv.list_inj(I:Inv X pins σ H s)(h:SqL X.K H a xs)(h':SqL X.K H a ys):xs=ys:=by
 obtain⟨its,r,⟨o,n,e,_,_,d⟩,_⟩:=I.list h;obtain⟨its',r',⟨o',n',e',_,_,d'⟩,_⟩:=I.list h';rw[e]at e';cases e'
 rw[d]at d'
 injection d' with d1 _
 have:its=its':=by simpa using congrArg Array.toList d1
 subst this;exact r.inj r'
theorem Inv.tuple_inj(I:Inv X pins σ H s)(h:SqT X.K H a xs)(h':SqT X.K H a ys):xs=ys:=by
 obtain⟨its,r,⟨o,e,_,n,d⟩,_⟩:=I.tuple h;obtain⟨its',r',⟨o',e',_,n',d'⟩,_⟩:=I.tuple h';rw[e]at e';cases e'
 rw[d]at d'
 injection d' with d1 _
 have:its=its':=by simpa using congrArg Array.toList d1
 subst this;exact r.inj r'
end
abbrev Cx.wish(X:Cx)(E:Da->ka->Prop):Cx:= {X with xe:=E}
abbrev Cx.nox(X:Cx):Cx:=X.wish λ_ _=>False
theorem Cx.Ok.wish(ok:X.Ok)(E:Da->ka->Prop):(X.wish E).Ok:=
 ⟨ok.mod,ok.kind,ok.glob,ok.blt,ok.above,ok.inj,ok.has,ok.cab,ok.hd,ok.frames,ok.stk,ok.exf,ok.bs,ok.bsz,ok.noex,ok.exfs,ok.funs,ok.frf⟩
theorem Cx.Ok.unwish(ok:(X.wish E).Ok):X.Ok:=
 ⟨ok.mod,ok.kind,ok.glob,ok.blt,ok.above,ok.inj,ok.has,ok.cab,ok.hd,ok.frames,ok.stk,ok.exf,ok.bs,ok.bsz,ok.noex,ok.exfs,ok.funs,ok.frf⟩
theorem Inv.wish(I:Inv X pins σ H s)(E:Da->ka->Prop):Inv (X.wish E) pins σ H s:=⟨I.ok.wish E,I.os,I.bare,I.base,I.loc,I.cell,I.free,I.freeC,I.pin,I.hok,I.len⟩
theorem Inv.unwish(I:Inv (X.wish E) pins σ H s):Inv X pins σ H s:=⟨I.ok.unwish,I.os,I.bare,I.base,I.loc,I.cell,I.free,I.freeC,I.pin,I.hok,I.len⟩
theorem SP.unwish{D:Ends}{f:Flow}(h:SP (X.wish E) pins D f s'):SP X pins D f s':=by
 cases f with
 |next=>obtain⟨σ',H',I,q⟩:=h;exact⟨σ',H',I.unwish,q⟩
 |brk=>obtain⟨σ',H',I,q⟩:=h;exact⟨σ',H',I.unwish,q⟩
 |cont=>obtain⟨σ',H',I,q⟩:=h;exact⟨σ',H',I.unwish,q⟩
 |ret u=>obtain⟨v,σ',H',I,r,q⟩:=h;exact⟨v,σ',H',I.unwish,r,q⟩
theorem PT.nox{t:TT}(h:PT X.nox e t):PT X e t:=λpins s σ H Q I hw=>
 se (h pins s σ H Q (I.wish _) hw) (λ_ _ ⟨H',I',q⟩=>⟨H',I'.unwish,q⟩) λ_ _ z=>ud z
theorem PSs.nox{st:List yf}{t:TS}(h:PSs X.nox st t):PSs X st t:=λpins s σ H D I hw=>
 se (h pins s σ H D (I.wish _) hw) (λ_ _ q=>q.unwish) λ_ _ z=>ud z
variable{te:TE}
section
variable {st:yf}{rest:List yf}{t u:TS}
def Ga0:TS:=λD σ H=>D.nx σ H
def Nd0(t u:TS):TS:=λD σ H=>t {D with nx:=u D} σ H
theorem BI:PSs X [] Ga0:=λ_ _ σ H _ I h=>kv ⟨σ,H,I,h⟩
theorem Av(h1:PS X st t)(h2:PSs X rest u):PSs X (st::rest) (Nd0 t u):=by
 intro pins s σ H D I h;refine cu (thn (h1 pins s σ H {D with nx:=u D} I h) λf s1 q=>?_);cases f with
 |next=>
  obtain⟨σ',H',I',q⟩:=q;exact h2 pins s1 σ' H' D I' q
 |ret v=>exact q
 |brk=>exact q
 |cont=>exact q
theorem Lz(h1:PS X st t):PSs X [st] t:=by
 intro pins s σ H D I h;refine cu (thn (h1 pins s σ H D I h) λf s1 q=>?_);cases f with
 |next=>exact kv q
 |ret v=>exact q
 |brk=>exact q
 |cont=>exact q
theorem Inv.quiet(I:Inv X pins σ H s):interactive X.env=false:=by simp[interactive,I.ok.kind]
def Ca0(te:TE):TS:=λD σ H=>te σ H λ_ H1=>D.nx σ H1
theorem Dq(he:PE X e te)(hs:ki e none pos.line X.env=pure false:=by rfl):PS X (.Expr e pos) (Ca0 te):=by
 intro pins s σ H D I h;exact wpAny_Expr_any (thn (he pins s σ H _ I h) λv s1 ⟨x,H1,I1,r1,q1⟩=>⟨σ,H1,I1,q1⟩) I.quiet hs
def Md0(te:TE):TS:=λD σ H=>te σ H D.rt
theorem GF(he:PE X e te):PS X (.Return (some e) pos) (Md0 te):=by
 intro pins s σ H D I h;exact wpAny_Return_some (thn (he pins s σ H _ I h) λv s1 ⟨x,H1,I1,r1,q1⟩=>⟨x,σ,H1,I1,r1,q1⟩)
def Id0(c:TT)(t u:TS):TS:=λD σ H=>c σ H λb H1=>if b=true then t D σ H1 else u D σ H1
theorem K9{a b:List yf}{tc:TT}(hc:PT X c tc)(ha:PSs X a t)(hb:PSs X b u):PS X (.If c a b pos) (Id0 tc t u):=by
 intro pins s σ H D I h;refine wpAny_If (thn (hc pins s σ H _ I h) λd s1 ⟨H1,I1,q1⟩=>?_);cases d with
 |true=>exact ha pins s1 σ H1 D I1 q1
 |false=>exact hb pins s1 σ H1 D I1 q1
end
abbrev TG:=V->St->Hp->(St->Hp->Prop)->Prop
abbrev VT:=List V->St->Hp->(St->Hp->Prop)->Prop
def PG(X:Cx)(target:nc)(t:TG):Prop:=
 ∀ (pins:List (ia×mh)) (s:ka) (σ:St) (H:Hp) (v:V) (u:Da) (Q:St->Hp->Prop),Inv X pins σ H s->RelV v u->t v σ H Q->
  cb (jb X.prog X.w) X.A (wu target X.env u) (λ_ s'=>∃ σ' H',Inv X pins σ' H' s'/\Q σ' H') X.xe s
def PGs(X:Cx)(ts:List nc)(t:VT):Prop:=
 ∀ (pins:List (ia×mh)) (s:ka) (σ:St) (H:Hp) (vs:List V) (us:List Da) (Q:St->Hp->Prop),Inv X pins σ H s->Vals vs us->t vs σ H Q->
  cb (jb X.prog X.w) X.A (assignInOrder ((gh ts X.env).map (·.2)) us) (λ_ s'=>∃ σ' H',Inv X pins σ' H' s'/\Q σ' H') X.xe s
abbrev RZ:=V->V->V->Hp->(Hp->Prop)->Prop
def O7(X:Cx)(t:RZ):Prop:=
 ∀ (pins:List (ia×mh)) (s:ka) (σ:St) (H:Hp) (o i v:V) (ov iv u:Da) (Q:Hp->Prop),Inv X pins σ H s->RelV o ov->RelV i iv->RelV v u->t o i v H Q->
  cb (jb X.prog X.w) X.A (setItem ov iv u) (λ_ s'=>∃ H',Inv X pins σ H' s'/\Q H') X.xe s
variable{k n:Nat}{es:List nc}{tg:nc}{g:TG}{pos':bh}
def JO(i:Nat):TG:=λv σ H Q=>Q (σ.set i (some v)) H
theorem GX(hN:X.N.Nodup)(hi:X.N[i]? =some x)(hx:Loc X.env.scope x)(hf:X.fn x=true\/X.env.scope.names.lookup x=some .local:=by first|exact .inl rfl|exact .inr rfl|assumption):PG X (.Name x pos) (JO i):=by
 intro pins s σ H v u Q I r h;exact wpAny_assign_Name (Mv I hN hi hx r (λs' I'=>⟨_,H,I',h⟩) hf)
def Zb0:VT:=λvs σ H Q=>vs= []/\Q σ H
def Q8(t:TG)(u:VT):VT:=λvs σ H Q=>∃ v r,vs=v::r/\t v σ H λσ' H'=>u r σ' H' Q
theorem HX:PGs X [] Zb0:=by
 intro pins s σ H vs us Q I r h;obtain⟨e,h⟩:=h;subst e;cases r;exact assignInOrder_nil ⟨σ,H,I,h⟩
theorem WQ{t:TG}{u:VT}(h1:PG X e t)(h2:PGs X es u)(hs:(gh (e::es) X.env).map (·.2)=wu e X.env::(gh es X.env).map (·.2):=by rfl):PGs X (e::es) (Q8 t u):=by
 intro pins s σ H vs us Q I r h;obtain⟨v,vr,e1,h⟩:=h;subst e1;cases r with
 |cons r rr=>
  rw[hs];refine assignInOrder_cons (thn (h1 pins s σ H _ _ _ I r h) λ_ s1 ⟨σ1,H1,I1,q1⟩=>?_);exact h2 pins s1 σ1 H1 _ _ Q I1 rr q1
def Bc0(K:td)(n:Nat)(t:VT):TG:=λv σ H Q=>∃ a xs,v=.ref a/\SqT K H a xs/\xs.length=n/\t xs σ H Q
theorem A5{t:VT}(hc:X.calm=true)(h:PGs X es t)(hn:(gh es X.env).length=n:=by rfl)(hst:(gh es X.env).findIdx? (·.1)=none:=by rfl):PG X (.Tuple es k pos) (Bc0 X.K n t):=by
 intro pins s σ H v u Q I r hw;obtain⟨a,xs,e1,hq,hl,hw⟩:=hw;subst e1;cases r;obtain⟨its,rv,ht,hz⟩:=I.tuple hq;refine assign_Tuple_tuple (I.ok.hd hc) ht (by simp[hn,<-hl,rv.length]) hst λh' hx=>?_;have I1:Inv X pins σ H {s with heap:=h'}:=I.kept (t':=s.toks) λb o e=>hx b o (ag (sd e)) e;exact h pins _ σ H xs _ Q I1 (by simpa using rv) hw
def Ac0(to ti:TE)(t:RZ):TG:=λv σ H Q=>to σ H λo H1=>ti σ H1 λi H2=>t o i v H2 λH3=>Q σ H3
theorem Z4{o i:nc}{to ti:TE}{t:RZ}(ho:PE X o to)(hi:PE X i ti)(hs:O7 X t)(ha:∀ v,wu (.Subscript o i pos) X.env v=(do
   let ov <-mn [v] (eval o X.env);let iv <-mn [v,ov] (eval i X.env)
   uu pos
   mn [v,ov,iv] (setItem ov iv v)
   release [v,ov,iv] []):=by intro _;rfl):PG X (.Subscript o i pos) (Ac0 to ti t):=by
 intro pins s σ H v u Q I r h;rw[ha];refine ja (ph (thn (ho pins s σ H _ I h) λov s1 ⟨x,H1,I1,r1,q1⟩=>?_));refine ja (ph (thn (hi pins s1 σ H1 _ I1 q1) λiv s2 ⟨y,H2,I2,r2,q2⟩=>?_));refine ja (xi (ja (ph (thn (hs pins s2 σ H2 x y v ov iv u _ I2 r1 r2 r q2) λ_ s3 ⟨H3,I3,q3⟩=>?_))));exact wpAny_release ⟨σ,H3,I3,q3⟩
def Z9(te:TE)(g:TG):TS:=λD σ H=>te σ H λx H1=>g x σ H1 D.nx
theorem BR(he:PE X e te)(hg:PG X tg g)(hs:swapsWithSole [tg] e pos.line X.env=pure false:=by rfl)(hw:swappedStores [tg] e X.env=pure none:=by rfl)(h1:(gh [tg] X.env).map (·.2)= [wu tg X.env]:=by rfl):PS X (.Assign [tg] e pos) (Z9 te g):=by
 intro pins s σ H D I h;refine wpAny_Assign_stores (thn (he pins s σ H _ I h) λv s1 ⟨x,H1,I1,r1,q1⟩=>?_) hs hw;rw[h1];exact thn (hg pins s1 σ H1 x v _ I1 r1 q1) λ_ s2 q=>q
theorem HF(hN:X.N.Nodup)(hi:X.N[i]? =some x)(hx:Loc X.env.scope x)(he:PE X e te)(hs:ki e (some (.Name x pos')) pos.line X.env=pure false:=by rfl)(hf:X.fn x=true\/X.env.scope.names.lookup x=some .local:=by first|exact .inl rfl|exact .inr rfl|assumption):
  PS X (.Assign [.Name x pos'] e pos) (Z9 te (JO i)):=by
 intro pins s σ H D I h;refine wpAny_Assign_Name (thn (he pins s σ H _ I h) λv s1 ⟨y,H1,I1,r1,q1⟩=>?_) hs;exact Mv I1 hN hi hx r1 (λs2 I2=>⟨_,H1,I2,q1⟩) hf
structure It where
 go:Nat->Hp->Prop
 yld:Nat->Hp->V->Hp->Prop
 stop:Nat->Hp->Prop
def Qo(X:Cx)(pins:List (ia×mh))(H:Hp)(b:ia):Prop:=
 H b=none/\b≠X.env.locals/\b∉X.fs/\(b∈X.ex\/X.s₀.heap.objs.size<=b)/\(∀ x c,X.env.cells.lookup x=some c->c≠b)/\∀ p∈X.pn++pins,p.1≠b
theorem Inv.fpOk(I:Inv X pins σ H s)(hb:s.heap.objs.size<=b)(hn:H' b=none):Qo X pins H' b:=by
 refine⟨hn,du (bd I.lt hb),I.nofs hb,.inr (bf I.sz hb),λx c e z=>?_,λp hp z=>?_⟩
 .obtain⟨v,q⟩:=I.cell x c e;exact absurd (bd q.lt (by rw[z];exact hb)) (xh _)
 .exact absurd (bd (sd (I.pin p hp).1) (by rw[z];exact hb)) (xh _)
structure Turn(P:ic)(w:yd)(K:td)(tg:nc)(J:It)(fp:List ia)(it:ia)(tn:Nat->pd->Prop):Prop where
 mem:it∈fp
 obj:∀ i h,tn i h->∀ b∈fp,∃ o,h.get? b=some o/\∀ v,o.data≠ .cell v
 keep:∀ i h h',tn i h->(∀ b∈fp,∀ o,h.get? b=some o->h'.get? b=some o)->tn i h'
 item:∀ (X:Cx),X.prog=P->X.w=w->X.K=K->X.calm=true->∀ (i:Nat) (pins:List (ia×mh)) (s:ka) (σ:St) (H:Hp) (E:Da->ka->Prop),Inv X pins σ H s->(∀ b∈fp,Qo X pins H b)->tn i s.heap->J.go i H->
  cb (jb P w) X.A (pyNext (.ref it)) (λr s1=>∃ u,r=some u/\
   cb (jb P w) X.A (gq tg (.ref it) u) (λ_ s2=>∃ x H',Inv X pins σ H' s2/\RelV x u/\J.yld i H x H'/\tn (i+1) s2.heap/\∀ b∈fp,H' b=none) E s1) E s
 done:∀ (X:Cx),X.prog=P->X.w=w->X.K=K->X.calm=true->∀ (i:Nat) (pins:List (ia×mh)) (s:ka) (σ:St) (H:Hp) (E:Da->ka->Prop),Inv X pins σ H s->(∀ b∈fp,Qo X pins H b)->tn i s.heap->J.stop i H->
  cb (jb P w) X.A (pyNext (.ref it)) (λr s1=>r=none/\Inv X pins σ H s1) E s
 self:∀ (A:ye) (i:Nat) (s:ka) (Q:Da->ka->Prop) (E:Da->ka->Prop),tn i s.heap->Q (.ref it) s->cb (jb P w) A (pyIter (.ref it)) Q E s
abbrev TI:=St->Hp->(It->Hp->Prop)->Prop
def PIE(X:Cx)(pins:List (ia×mh))(σ:St)(tg:nc)(R:It->Hp->Prop)(itv:Da)(s2:ka):Prop:=
 ∃ (it:ia) (fp:List ia) (tn:Nat->pd->Prop) (J:It) (H':Hp),itv=.ref it/\Inv X pins σ H' s2/\Turn X.prog X.w X.K tg J fp it tn/\tn 0 s2.heap/\(∀ b∈fp,Qo X pins H' b)/\R J H'
def PI(X:Cx)(tg iter:nc)(wi:TI):Prop:=
 ∀ (pins:List (ia×mh)) (s:ka) (σ:St) (H:Hp) (R:It->Hp->Prop),Inv X pins σ H s->wi σ H R->
  cb (jb X.prog X.w) X.A (eval iter X.env) (λv s1=>cb (jb X.prog X.w) X.A (pyIter v) (PIE X pins σ tg R) X.xe s1) X.xe s
theorem JB{E : Da -> ka -> Prop}{n : String}{vs : Array Da}{Q : Unit -> ka -> Prop}(ho : s.heap.get? it = some o)(hc : o.cls = .type n)(hd : o.data = .fields vs)(hn : ["enumerate", "zip", "dict_itemiterator", "dict_reverseitemiterator", "odict_iterator", "itertools.zip_longest", "itertools.pairwise"].contains n = false)(hQ : Q () s) : cb M A (gq tg (.ref it) u) Q E s := by
  unfold gq
  cases tg <;> first
    | exact kb hQ
    | (cases u <;> first
        | exact kb hQ
        | (refine ja (wpAny_load ho ?_)
           rw[hc, hd];show cb M A (if(["enumerate", "zip", "dict_itemiterator", "dict_reverseitemiterator", "odict_iterator", "itertools.zip_longest", "itertools.pairwise"].contains n && vs[0]? == some (rawInt _)) = true then _ else _) Q E s;rw[if_neg (by intro h; rw[hn, ql]at h; cases h)]
           exact kb hQ))
def Itl(K:td)(a:ia):It:=
 ⟨λi H=>∃ xs x,SqL K H a xs/\xs[i]? =some x,λi H x H'=>H'=H/\∀ xs,SqL K H a xs->xs[i]? =some x,λi H=>∃ xs,SqL K H a xs/\xs.length<=i⟩
def Itt(K:td)(a:ia):It:=
 ⟨λi H=>∃ xs x,SqT K H a xs/\xs[i]? =some x,λi H x H'=>H'=H/\∀ xs,SqT K H a xs->xs[i]? =some x,λi H=>∃ xs,SqT K H a xs/\xs.length<=i⟩
def Itr(lo:Int)(n:Nat):It:=⟨λi _=>i<n,λi H x H'=>H'=H/\x=.int (lo+i),λi _=>n<=i⟩
theorem UL(a it:ia):Turn P w K tg (Itl K a) [it] it (λi h=>h.IsListIter it a i) where
 mem:=by simp
 obj:=λi h st b hb=>by
  have e:b=it:=by simpa using hb
  subst e;obtain⟨o,e,c,d⟩:=st;exact⟨o,e,λv z=>by rw[d]at z;cases z⟩
 keep:=λi h h' st k=>st.at λo e=>k it (by simp) o e
 item:=by
  intro X hP hw hK hc i pins s σ H E I hf st hg;subst hP hw hK;obtain⟨xs,x,hq,hx⟩:=hg;obtain⟨its,rv,p,hz⟩:=I.list hq;obtain⟨u,hu,ru⟩:=rv.get hx;obtain⟨f0,f1,f2,f3,f4,f5⟩:=hf it (by simp);refine wpAny_pyNext_list_item st p.isList (x:=u) (by simpa using hu) λh' st' sb=>?_;have I1:Inv X pins σ H {s with heap:=h'}:=I.turned (t':=s.toks) (λb o hb e=>(sb.2 b hb).trans e) f0 f1 f3 f4 f5;obtain⟨o,e,c,d⟩:=id st';exact⟨u,rfl,JB (s:= {s with heap:=h'}) e c d (by decide) ⟨x,H,I1,ru,⟨rfl,λys hy=>by rw[I.list_inj hy hq];exact hx⟩,st',λb hb=>(hf b hb).1⟩⟩
 done:=by
  intro X hP hw hK hc i pins s σ H E I hf st hg;subst hP hw hK;obtain⟨xs,hq,hx⟩:=hg;obtain⟨its,rv,p,hz⟩:=I.list hq;obtain⟨f0,f1,f2,f3,f4,f5⟩:=hf it (by simp);have hl:=rv.length;exact wpAny_pyNext_list_end (I.ok.hd hc) st p.isList (by simp;omega) λh' eb=>⟨rfl,I.turned (t':=s.toks) (λb o hb e=>eb b o hb e) f0 f1 f3 f4 f5⟩
 self:=λ_ _ _ _ _ st h=>wpAny_pyIter_listiter st h
theorem EG(a it:ia):Turn P w K tg (Itt K a) [it] it (λi h=>h.IsTupleIter it a i) where
 mem:=by simp
 obj:=λi h st b hb=>by
  have e:b=it:=by simpa using hb
  subst e;obtain⟨o,e,c,d⟩:=st;exact⟨o,e,λv z=>by rw[d]at z;cases z⟩
 keep:=λi h h' st k=>st.at λo e=>k it (by simp) o e
 item:=by
  intro X hP hw hK hc i pins s σ H E I hf st hg;subst hP hw hK;obtain⟨xs,x,hq,hx⟩:=hg;obtain⟨its,rv,p,hz⟩:=I.tuple hq;obtain⟨u,hu,ru⟩:=rv.get hx;obtain⟨f0,f1,f2,f3,f4,f5⟩:=hf it (by simp);refine wpAny_pyNext_tuple_item st (show s.heap.IsTuple a its.toArray from p) (x:=u) (by simpa using hu) λh' st' sb=>?_;have I1:Inv X pins σ H {s with heap:=h'}:=I.turned (t':=s.toks) (λb o hb e=>(sb.2 b hb).trans e) f0 f1 f3 f4 f5;obtain⟨o,e,c,d⟩:=id st';exact⟨u,rfl,JB (s:= {s with heap:=h'}) e c d (by decide) ⟨x,H,I1,ru,⟨rfl,λys hy=>by rw[I.tuple_inj hy hq];exact hx⟩,st',λb hb=>(hf b hb).1⟩⟩
 done:=by
  intro X hP hw hK hc i pins s σ H E I hf st hg;subst hP hw hK;obtain⟨xs,hq,hx⟩:=hg;obtain⟨its,rv,p,hz⟩:=I.tuple hq;obtain⟨f0,f1,f2,f3,f4,f5⟩:=hf it (by simp);have hl:=rv.length;exact wpAny_pyNext_tuple_end (I.ok.hd hc) st (show s.heap.IsTuple a its.toArray from p) (by simp;omega) λh' eb=>⟨rfl,I.turned (t':=s.toks) (λb o hb e=>eb b o hb e) f0 f1 f3 f4 f5⟩
 self:=λ_ _ _ _ _ st h=>wpAny_pyIter_tupleiter st h
theorem CG(it:ia)(lo:Int)(n:Nat):Turn P w K tg (Itr lo n) [it] it (λi h=>IsRangeIter h it (lo+(i:Nat)*1) ((n:Int)-(i:Nat)) 1) where
 mem:=by simp
 obj:=λi h st b hb=>by
  have e:b=it:=by simpa using hb
  subst e
  exact⟨_,st,λv z=>by
   have z':Data.fields _=Data.cell v:=z
   cases z'⟩
 keep:=λi h h' st k=>k it (by simp) _ st
 item:=by
  intro X hP hw hK hc i pins s σ H E I hf st hg;subst hP hw hK;obtain⟨f0,f1,f2,f3,f4,f5⟩:=hf it (by simp);have W:=Walks.range (prog:=X.prog) (w:=X.w) (I.ok.hd hc) it lo 1 n;refine W.item i s _ _ hg st λv h' tk hv st' kk=>?_;obtain⟨t,rfl⟩:=hv;have I1:Inv X pins σ H {s with heap:=h',toks:=tk}:=I.turned (λb o hb e=>kk b o (by simpa using hb) e) f0 f1 f3 f4 f5;refine⟨_,rfl,JB (s:= {s with heap:=h',toks:=tk}) (n:="range_iterator") st' rfl rfl (by decide) ⟨.int (lo+i),H,I1,⟨t,?_⟩,⟨rfl,rfl⟩,st',λb hb=>(hf b hb).1⟩⟩;rw[Int.mul_one]
 done:=by
  intro X hP hw hK hc i pins s σ H E I hf st hg;subst hP hw hK;obtain⟨f0,f1,f2,f3,f4,f5⟩:=hf it (by simp);exact wpAny_pyNext_range_end (I.ok.hd hc) st (by have:n<=i:=hg;omega) λh' eb=>⟨rfl,I.turned (t':=s.toks) (λb o hb e=>eb b o hb e) f0 f1 f3 f4 f5⟩
 self:=λ_ _ _ _ _ st h=>wpAny_pyIter_rangeiter st h
variable{fp:List ia}{body:List yf}
theorem FR{R:It->Hp->Prop}{lo hi:Int}{t u v:Tok}{tk:Nat}(I:Inv X pins σ H s)(h1: -(2^62)<=lo)(h2:lo<2^62)(h3: -(2^62)<=hi)(h4:hi<2^62)(q:R (Itr lo (hi-lo).toNat) H):cb (jb X.prog X.w) X.A (pyIter (.ref s.heap.objs.size)) (PIE X pins σ tg R) E {s with heap:=s.heap.push {cls:=.type "range",data:=.fields #[.int lo t,.int hi u,.int 1 v]},toks:=tk}:=by
 refine wpAny_pyIter_range (IsRange.new ..) (small_one h1 h2 h3 h4) ?_;have I1:Inv X pins σ H {s with heap:=s.heap.push {cls:=.type "range",data:=.fields #[.int lo t,.int hi u,.int 1 v]},toks:=tk}:=I.kept λb o e=>ya _ e
 refine⟨(s.heap.push {cls:=.type "range",data:=.fields #[.int lo t,.int hi u,.int 1 v]}).objs.size,[(s.heap.push {cls:=.type "range",data:=.fields #[.int lo t,.int hi u,.int 1 v]}).objs.size],_,_,H,rfl,
  I1.kept (t':=tk) λb o e=>ya _ e,CG _ lo (hi-lo).toNat,?_,λb hb=>?_,q⟩
 .have e1:lo+((0:Nat):Int)*1=lo:=by simp
  have e2:(((hi-lo).toNat:Nat):Int)-((0:Nat):Int)=Builtin.Range.rangeSize lo hi 1:=by rw[rangeSize_one];split<;>omega
  show IsRangeIter _ _ (lo+((0:Nat):Int)*1) ((((hi-lo).toNat:Nat):Int)-((0:Nat):Int)) 1;rw[e1,e2];exact ue _ rfl
 .have e:b=(s.heap.push {cls:=.type "range",data:=.fields #[.int lo t,.int hi u,.int 1 v]}).objs.size:=by simpa using hb
  subst e;exact I1.fpOk (Uf _) (I1.hok.fresh (Uf _))
def T8(ta:TA):TI:=λσ H R=>ta σ H λvs H1=>∃ j:Int,vs= [.int j]/\ -(2^62)<=j/\j<2^62/\R (Itr 0 j.toNat) H1
theorem ZK{ta:TA}{p:bh}(hg:Gl X "range")(hm:X.mg "range"=none)(ha:PA X [a] ta)(hs:Fa [a] X.env= [(false,eval a X.env)]:=by rfl):PI X tg (.Call (.Name "range" p) [a] [] pos) (T8 ta):=by
 intro pins s σ H R I h;refine Call_ (Yo I hg hm boot_range (Tl (thn (ha pos pins s σ H _ I h) λus s1 ⟨vs,H1,I1,r1,q1⟩=>?_) hs rfl));obtain⟨j,e,q1,q2,q⟩:=q1;subst e;cases r1 with
 |cons r rr=>
  cases rr;obtain⟨t,rfl⟩:=r;exact call_range_1 (FR I1 (by omega) (by omega) q1 q2 (by simpa using q))
def Gd0(wi:TI)(g:TG)(tb:TS):TS:=λD σ H=>wi σ H λJ H1=>∃ W:Nat->Nat->St->Hp->Prop,(∃ m,W 0 m σ H1)/\∀ i m σ H,W i m σ H->
 (J.stop i H/\D.nx σ H)\/(J.go i H/\∃ N:St->Hp->Prop,(∀ σ' H',N σ' H'->∃ m',m'<m/\W (i+1) m' σ' H')/\∀ x H',J.yld i H x H'->g x σ H' λσ2 H2=>tb {D with nx:=N,ct:=N,bk:=D.nx} σ2 H2)
def Zu(fp:List ia)(h:pd):List (ia×mh):=fp.filterMap λb=>(h.get? b).map λo=>(b,o)
theorem Ql{h:pd}(hb:b∈fp)(e:h.get? b=some o):(b,o)∈Zu fp h:=uk.mpr ⟨b,hb,by rw[e];rfl⟩
theorem TK{h:pd}{p:ia×mh}(hp:p∈Zu fp h):p.1∈fp/\h.get? p.1=some p.2:=by
 obtain⟨b,hb,e⟩:=uk.mp hp;cases q:h.get? b with
 |none=>rw[q]at e;cases e
 |some o=>
  rw[q]at e
  have e':(b,o)=p:=jc e;subst e';exact⟨hb,q⟩
theorem Inv.pinned(I:Inv X pins σ H s)(hf:∀ b∈fp,Qo X pins H b)(ho:∀ b∈fp,∃ o,s.heap.get? b=some o/\∀ v,o.data≠ .cell v):Inv X (pins++Zu fp s.heap) σ H s:=
 I.pins_of λp hp=>(wj.mp hp).elim (λz=>I.pin p (vg _ z)) λz=>by
  obtain⟨hb,e⟩:=TK z;obtain⟨f0,f1,f2,_⟩:=hf p.1 hb;obtain⟨o,e',d⟩:=ho p.1 hb;rw[e]at e';cases e'
  exact⟨e,f0,f1,f2,d⟩
theorem Inv.unpinned{pl:List (ia×mh)}(I:Inv X (pins++pl) σ H s):Inv X pins σ H s:=I.pins_of λp hp=>I.pin p (vg _ (qp _ hp))
theorem J5{iter:nc}{wi:TI}{tb:TS}(hp:PassesOwn (jb X.prog X.w) X.A X.env X.xe)(hc:X.calm=true)(hi:PI X tg iter wi)(hg:PG X tg g)(hb:PSs X body tb)(hs:∀ x,rj iter X.env x=pure x:=by intro _;rfl):PS X (.For tg iter body [] pos) (Gd0 wi g tb):=by
 intro pins s σ H D I h;refine wpAny_For (thn (hi pins s σ H _ I h) λv s1 h1=>thn h1 λitv s2 h2=>?_) hs;obtain⟨it,fp,tn,J,H2,e,I2,T,st2,f2,W,⟨m0,w0⟩,turn⟩:=h2;subst e;have stat:∀ {H':Hp},(∀ b∈fp,H' b=none)->∀ b∈fp,Qo X pins H' b:=λhn b hb=>⟨hn b hb,(f2 b hb).2⟩;refine codeAny_forLoop_any (λn s'=>∃ i σ' H',Inv X pins σ' H' s'/\tn i s'.heap/\(∀ b∈fp,H' b=none)/\W i n σ' H') ?_ m0 ⟨0,σ,H2,I2,st2,λb hb=>(f2 b hb).1,w0⟩;rintro n s3 ⟨i,σ3,H3,I3,st3,fr3,w3⟩;rcases turn i n σ3 H3 w3 with⟨stop,qn⟩|⟨go,N,hN,step⟩
 .refine vn hp (thn (T.done X rfl rfl rfl hc i pins s3 σ3 H3 X.xe I3 (stat fr3) st3 stop) λr s4 ⟨hr,I4⟩=>?_);subst hr;exact kv ⟨σ3,H3,I4,qn⟩
 .refine vn hp (thn (T.item X rfl rfl rfl hc i pins s3 σ3 H3 X.xe I3 (stat fr3) st3 go) λr s4 ⟨u,hr,h4⟩=>?_);subst hr;refine vn hp (thn h4 λ_ s5 ⟨x,H5,I5,r5,y5,st5,fr5⟩=>?_);have I5':=I5.pinned (stat fr5) (T.obj _ _ st5);refine vn hp (thn (hg _ s5 σ3 H5 x u _ I5' r5 (step x H5 y5)) λ_ s6 ⟨σ6,H6,I6,q6⟩=>?_);refine vn hp (thn (hb _ s6 σ6 H6 _ I6 q6) λf s7 q7=>?_)
  have again:∀ {σ7:St} {H7:Hp},Inv X (pins++Zu fp s5.heap) σ7 H7 s7->N σ7 H7->∃ m,m<n/\∃ i σ' H',Inv X pins σ' H' s7/\tn i s7.heap/\(∀ b∈fp,H' b=none)/\W i m σ' H':=λ{σ7 H7} I7 n7=>by
   obtain⟨m',hm,w7⟩:=hN σ7 H7 n7;refine⟨m',hm,i+1,σ7,H7,I7.unpinned,T.keep _ _ _ st5 λb hb o e=>(I7.pin (b,o) (vg _ (vg _ (Ql hb e)))).1,λb hb=>?_,w7⟩;obtain⟨o,e,d⟩:=T.obj _ _ st5 b hb;exact(I7.pin (b,o) (vg _ (vg _ (Ql hb e)))).2.1
  cases f with
  |next=>obtain⟨σ7,H7,I7,n7⟩:=q7;exact again I7 n7
  |cont=>obtain⟨σ7,H7,I7,n7⟩:=q7;exact again I7 n7
  |brk=>obtain⟨σ7,H7,I7,q7⟩:=q7;exact⟨σ7,H7,I7.unpinned,q7⟩
  |ret v=>obtain⟨x7,σ7,H7,I7,r7,q7⟩:=q7;exact⟨x7,σ7,H7,I7.unpinned,r7,q7⟩
abbrev R2:=V->V->Hp->VK->Prop
def OpR(X:Cx)(f:Da->Da->Sem Da)(r:R2):Prop:=
 ∀ (pins:List (ia×mh)) (s:ka) (σ:St) (H:Hp) (x y:V) (v u:Da) (Q:VK),Inv X pins σ H s->RelV x v->RelV y u->r x y H Q->
  cb (jb X.prog X.w) X.A (f v u) (EP X pins σ Q) X.xe s
def CallR(X:Cx)(f:Da)(r:List V->Hp->VK->Prop):Prop:=
 ∀ (pins:List (ia×mh)) (s:ka) (σ:St) (H:Hp) (xs:List V) (us:List Da) (Q:VK),Inv X pins σ H s->Vals xs us->r xs H Q->
  cb (jb X.prog X.w) X.A (call f us) (EP X pins σ Q) X.xe s
def D7(r:R2)(ta tb:TE):TE:=λσ H Q=>ta σ H λx H1=>tb σ H1 λy H2=>r x y H2 Q
def rI(C:Int->Int->Prop)(g:Int->Int->V):R2:=λx y H Q=>∃ i j,x=.int i/\y=.int j/\C i j/\Q (g i j) H
def IZ(g:Int->Int->V):R2:=λx y H Q=>∃ i j,x=.int i/\y=.int j/\Q (g i j) H
variable{b:nc}{f:Da->Da->Sem Da}{tc:TE}{g:Int->Int->Int}{r:R2}
theorem PM(ha:PE X a ta)(hb:PE X b tb){R:V->V->Hp->Prop}(I:Inv X pins σ H s)(h:ta σ H λx H1=>tb σ H1 λy H2=>R x y H2)(hf:∀ v u s2 x y H2,Inv X pins σ H2 s2->RelV x v->RelV y u->R x y H2->cb (jb X.prog X.w) X.A (f v u) Q X.xe s2):
  cb (jb X.prog X.w) X.A (eval a X.env) (λv s₁=>cb (jb X.prog X.w) X.A (eval b X.env) (λu s₂=>cb (jb X.prog X.w) X.A (f v u) Q X.xe s₂) X.xe s₁) X.xe s:=by
 refine thn (ha pins s σ H _ I h) λv s1 ⟨x,H1,I1,r1,q1⟩=>?_;refine thn (hb pins s1 σ H1 _ I1 q1) λu s2 ⟨y,H2,I2,r2,q2⟩=>?_;exact hf v u s2 x y H2 I2 r1 r2 q2
theorem HZ{op:Operator}(ho:OpR X (yj op) r)(ha:PE X a ta)(hb:PE X b tb):PE X (.BinOp a op b pos) (D7 r ta tb):=by
 intro pins s σ H Q I h;exact wpAny_BinOp (PM ha hb I h λv u s2 x y H2 I2 rx ry q=>ho pins s2 σ H2 x y v u Q I2 rx ry q)
theorem opI{C:Int->Int->Prop}(rule:∀ (i j:Int) (t u:Tok) (s:ka) (Q:Da->ka->Prop) (E:Da->ka->Prop),C i j->Q (.int (g i j) s.toks) {s with toks:=s.toks+1}->cb (jb X.prog X.w) X.A (f (.int i t) (.int j u)) Q E s):
  OpR X f (rI C λi j=>.int (g i j)):=by
 intro pins s σ H x y v u Q I rx ry h;obtain⟨i,j,rfl,rfl,hc,q⟩:=h;obtain⟨t,rfl⟩:=rx;obtain⟨t',rfl⟩:=ry;exact rule i j t t' s _ _ hc ⟨.int (g i j),H,I.tok _,⟨_,rfl⟩,q⟩
theorem A9(rule:∀ (i j:Int) (t u:Tok) (s:ka) (Q:Da->ka->Prop) (E:Da->ka->Prop),Q (.int (g i j) s.toks) {s with toks:=s.toks+1}->cb (jb X.prog X.w) X.A (f (.int i t) (.int j u)) Q E s):
  OpR X f (IZ λi j=>.int (g i j)):=by
 intro pins s σ H x y v u Q I rx ry h;obtain⟨i,j,rfl,rfl,q⟩:=h;obtain⟨t,rfl⟩:=rx;obtain⟨t',rfl⟩:=ry;exact rule i j t t' s _ _ ⟨.int (g i j),H,I.tok _,⟨_,rfl⟩,q⟩
theorem KW{g:Int->Int->Bool}(rule:∀ (i j:Int) (t u:Tok) (s:ka) (Q:Da->ka->Prop) (E:Da->ka->Prop),Q (.bool (g i j)) s->cb (jb X.prog X.w) X.A (f (.int i t) (.int j u)) Q E s):
  OpR X f (IZ λi j=>.bl (g i j)):=by
 intro pins s σ H x y v u Q I rx ry h;obtain⟨i,j,rfl,rfl,q⟩:=h;obtain⟨t,rfl⟩:=rx;obtain⟨t',rfl⟩:=ry;exact rule i j t t' s _ _ ⟨.bl (g i j),H,I,rfl,q⟩
def Fb0(i j:Int):Prop:=0<j/\j<1073741824
def Gb0(i j:Int):Prop:=0<=j/\j<=1000000/\i.natAbs<2^64
def CMul(i j:Int):Prop:=(-(2^64)<i/\i<2^64)\/(-(2^64)<j/\j<2^64)
theorem CMul.ok{i j:Int}(h:CMul i j):IntMulOk i j:=by
 rcases h with⟨h1,h2⟩|⟨h1,h2⟩
 .exact .of_left (intBits_le_64 h1 h2)
 .exact .of_right (intBits_le_64 h1 h2)
theorem E4:OpR X (yj .Add) (IZ λi j=>.int (i+j)):=A9 λ_ _ _ _ _ _ _ q=>add_int q
theorem N4:OpR X (yj .Sub) (IZ λi j=>.int (i-j)):=A9 λ_ _ _ _ _ _ _ q=>sub_int q
theorem J4:OpR X (yj .Mult) (rI CMul λi j=>.int (i*j)):=opI λ_ _ _ _ _ _ _ hc q=>mul_int q hc.ok
theorem NW:OpR X (yj .FloorDiv) (rI Fb0 λi j=>.int (i / j)):=opI λi j _ _ _ _ _ hc q=>by
 have h1:(0:Int)<j:=hc.1;have h2:j<1073741824:=hc.2;exact floordiv_int (by omega) (by rw[Int.fdiv_eq_ediv_of_nonneg i (by omega)];exact q) (.inl (PyProof.noPylong_small (by omega)))
theorem G4:OpR X (yj .Mod) (rI (λ_ j=>0<j) λi j=>.int (i%j)):=opI λi j _ _ _ _ _ hc q=>by
 have h1:(0:Int)<j:=hc;exact mod_int' (by omega) (by rw[Int.fmod_eq_emod_of_nonneg i (by omega)];exact q)
theorem M4:OpR X (yj .Pow) (rI Gb0 λi j=>.int (i^j.toNat)):=opI λ_ _ _ _ _ _ _ hc q=>pow_int_small hc.1 hc.2.1 hc.2.2 q
variable{r':R2}{op':CmpOp}
theorem V1{Q:VK}{k k':Bool}(I:Inv X pins σ H s)(q:Q (.bl k) H)(e:k=k'):EP X pins σ Q (.bool k') s:=by
 subst e;exact⟨.bl k,H,I,rfl,q⟩
theorem E9:OpR X (yh .Lt) (IZ λi j=>.bl (decide (i<j))):=KW λ_ _ _ _ _ _ _ q=>lt_int q
theorem D9:OpR X (yh .LtE) (IZ λi j=>.bl (decide (i<=j))):=KW λ_ _ _ _ _ _ _ q=>le_int q
theorem C9:OpR X (yh .Gt) (IZ λi j=>.bl (decide (j<i))):=KW λ_ _ _ _ _ _ _ q=>gt_int q
theorem B9:OpR X (yh .GtE) (IZ λi j=>.bl (decide (j<=i))):=KW λ_ _ _ _ _ _ _ q=>ge_int q
theorem Mx:OpR X (yh .In) (λx y H Q=>∃ i j,x=.str i/\y=.str j/\Q (.bl (!(yn j i 0 j.length 1).isEmpty)) H):=by
 intro pins s σ H x y v u Q I rx ry h;obtain⟨i,j,rfl,rfl,q⟩:=h;obtain⟨t,rfl⟩:=rx;obtain⟨t',rfl⟩:=ry;exact in_str (V1 I q rfl)
theorem OpR.or(h:OpR X f r)(h':OpR X f r'):OpR X f (λx y H Q=>r x y H Q\/r' x y H Q):=by
 intro pins s σ H x y v u Q I rx ry q;rcases q with q|q
 .exact h pins s σ H x y v u Q I rx ry q
 .exact h' pins s σ H x y v u Q I rx ry q
theorem CQ(b:nc)(h:op≠ .In:=by decide)(h2:op≠ .NotIn:=by decide):gi op b=false:=by
 have e1:(op==CmpOp.In)=false:=by cases op<;>first|rfl|exact absurd rfl h
 have e2:(op==CmpOp.NotIn)=false:=by cases op<;>first|rfl|exact absurd rfl h2
 cases b<;>simp[gi,e1,e2]
theorem XH(ho:OpR X (yh op) r)(ha:PE X a ta)(hb:PE X b tb)(hm:gi op b=false):PE X (.Compare a [op] [b] pos) (D7 r ta tb):=by
 intro pins s σ H Q I h;exact wpAny_Compare1 (PM ha hb I h λv u s2 x y H2 I2 rx ry q=>ho pins s2 σ H2 x y v u Q I2 rx ry q) hm
def LZ(t:TE):TT:=λσ H Q=>t σ H λx H'=>∃ k,x=.bl k/\Q k H'
theorem Mz(ho:OpR X (yh op) r)(ha:PE X a ta)(hb:PE X b tb)(hm:gi op b=false):PT X (.Compare a [op] [b] pos) (LZ (D7 r ta tb)):=by
 intro pins s σ H Q I h
 refine wpAny_isTrue_Compare1 (thn (ha pins s σ H _ I h) λv s1 ⟨x,H1,I1,r1,q1⟩=>thn (hb pins s1 σ H1 _ I1 q1) λu s2 ⟨y,H2,I2,r2,q2⟩=>
  thn (ho pins s2 σ H2 x y v u _ I2 r1 r2 q2) λc s3 ⟨z,H3,I3,r3,k,e,q3⟩=>?_) hm
 subst e;cases r3;exact cg ⟨H3,I3,q3⟩
def VF(r r':R2)(ta tb tc:TE):TE:=λσ H Q=>ta σ H λx H1=>tb σ H1 λy H2=>r x y H2 λz H3=>∃ k,z=.bl k/\
 (if k=true then tc σ H3 λw' H4=>r' y w' H4 Q else Q (.bl false) H3)
theorem NQ(ho:OpR X (yh op) r)(ho':OpR X (yh op') r')(ha:PE X a ta)(hb:PE X b tb)(hc:PE X c tc)(hm:fu [op,op'] [b,c]=false:=by with_unfolding_all rfl):PE X (.Compare a [op,op'] [b,c] pos) (VF r r' ta tb tc):=by
 intro pins s σ H Q I h
 refine Compare_chain (thn (ha pins s σ H _ I h) λv s1 ⟨x,H1,I1,r1,q1⟩=>chain_link (thn (hb pins s1 σ H1 _ I1 q1) λu s2 ⟨y,H2,I2,r2,q2⟩=>
  thn (ho pins s2 σ H2 x y v u _ I2 r1 r2 q2) λd s3 ⟨z,H3,I3,r3,k,e,q3⟩=>?_)) hm
 subst e;cases r3;refine cg ?_;cases k with
 |false=>exact ite_ff ⟨.bl false,H3,I3,rfl,q3⟩
 |true=>exact ite_tt (chain_last (thn (hc pins s3 σ H3 _ I3 q3) λw' s4 ⟨z',H4,I4,r4,q4⟩=>ho' pins s4 σ H4 y z' u w' Q I4 r2 r4 q4))
theorem DR(ho:OpR X (yh op) r)(ho':OpR X (yh op') r')(ha:PE X a ta)(hb:PE X b tb)(hc:PE X c tc)(hm:fu [op,op'] [b,c]=false:=by with_unfolding_all rfl):PT X (.Compare a [op,op'] [b,c] pos) (LZ (VF r r' ta tb tc)):=by
 intro pins s σ H Q I h
 refine isTrue_chain (thn (ha pins s σ H _ I h) λv s1 ⟨x,H1,I1,r1,q1⟩=>test_link (thn (hb pins s1 σ H1 _ I1 q1) λu s2 ⟨y,H2,I2,r2,q2⟩=>
  thn (ho pins s2 σ H2 x y v u _ I2 r1 r2 q2) λd s3 ⟨z,H3,I3,r3,k,e,q3⟩=>?_)) hm
 subst e;cases r3;refine cg ?_;cases k with
 |false=>
  obtain⟨k',e',q'⟩:=q3;cases e';exact ite_ff ⟨H3,I3,q'⟩
 |true=>
  refine ite_tt (test_last (thn (hc pins s3 σ H3 _ I3 q3) λw' s4 ⟨z',H4,I4,r4,q4⟩=>thn (ho' pins s4 σ H4 y z' u w' _ I4 r2 r4 q4) λd' s5 ⟨z2,H5,I5,r5,k2,e2,q5⟩=>?_));subst e2;cases r5;exact cg ⟨H5,I5,q5⟩
theorem Hu:(sizeLine:Nat)<2^63:=by rw[qe];decide
theorem CF:OpR X (yj .Add) (λx y H Q=>∃ i j,x=.str i/\y=.str j/\i.length+j.length<=sizeLine/\Q (.str (i++j)) H):=by
 intro pins s σ H x y v u Q I rx ry h;obtain⟨i,j,rfl,rfl,hz,q⟩:=h;obtain⟨t,rfl⟩:=rx;obtain⟨t',rfl⟩:=ry;exact add_str (λt' tk=>⟨.str (i++j),H,I.tok _,⟨_,rfl⟩,q⟩) hz
theorem vals1{x:V}(r:Vals [x] us):∃ u,us= [u]/\RelV x u:=by
 cases r with
 |cons r1 r2=>cases r2;exact⟨_,rfl,r1⟩
theorem Sw:CallR X (.type "int") (λxs H Q=>(∃ i,xs= [.int i]/\Q (.int i) H)\/∃ k,xs= [.bl k]/\Q (.int (if k then 1 else 0)) H):=by
 intro pins s σ H xs us Q I r h;rcases h with⟨i,rfl,q⟩|⟨k,rfl,q⟩
 .obtain⟨u,rfl,t,rfl⟩:=vals1 r;exact call_int_int ⟨.int i,H,I,⟨_,rfl⟩,q⟩
 .obtain⟨u,rfl,r1⟩:=vals1 r;cases r1;exact call_int_bool ⟨.int (if k then 1 else 0),H,I.tok _,⟨_,rfl⟩,q⟩
theorem Iy:CallR X (.type "str") (λxs H Q=>∃ i,xs= [.int i]/\i.natAbs.log2<1920/\Q (.str (toString i)) H):=by
 intro pins s σ H xs us Q I r h;obtain⟨i,rfl,hz,q⟩:=h;obtain⟨u,rfl,t,rfl⟩:=vals1 r;exact PySem.P.str_of_int hz ⟨.str _,H,I.tok _,⟨_,rfl⟩,q⟩
def Mb0(K:td)(x:V)(H:Hp)(n:Nat):Prop:=
 match x with
 | .str y=>y.length<=sizeLine/\n=y.length
 | .byt y=>y.size<=sizeLine/\n=y.size
 | .ref p=>(∃ xs,SqL K H p xs/\n=xs.length)\/∃ xs,SqT K H p xs/\n=xs.length
 |_=>False
theorem SM:CallR X (.builtin "len") (λxs H Q=>∃ x n,xs= [x]/\Mb0 X.K x H n/\Q (.int n) H):=by
 intro pins s σ H xs us Q I r h;obtain⟨x,n,rfl,e,q⟩:=h;obtain⟨u,rfl,rx⟩:=vals1 r;have hl:=Hu;have hs:sizeLine=16777216:=qe;cases x with
 |str y=>
  obtain⟨t,rfl⟩:=rx;obtain⟨hy,e'⟩:y.length<=sizeLine/\n=y.length:=e;subst e';exact len_str (by omega) ⟨.int _,H,I.tok _,⟨_,rfl⟩,q⟩
 |byt y=>
  obtain⟨t,rfl⟩:=rx;obtain⟨hy,e'⟩:y.size<=sizeLine/\n=y.size:=e;subst e';exact PySem.W.len_bytes (by omega) ⟨.int _,H,I.tok _,⟨_,rfl⟩,q⟩
 |ref p=>
  cases rx;have e':(∃ xs,SqL X.K H p xs/\n=xs.length)\/∃ xs,SqT X.K H p xs/\n=xs.length:=e;rcases e' with⟨xs,hx,e'⟩|⟨xs,hx,e'⟩
  .subst e';obtain⟨its,r',pl,hz⟩:=I.list hx;have hlen:=r'.length;exact Calls.call_len_list pl.isList (by simp only[qc];omega) ⟨.int xs.length,H,I.tok _,⟨_,by simp only[qc];rw[hlen]⟩,q⟩
  .subst e';obtain⟨its,r',pl,hz⟩:=I.tuple hx;have hlen:=r'.length;exact len_tuple pl (by simp only[qc];omega) ⟨.int xs.length,H,I.tok _,⟨_,by simp only[qc];rw[hlen]⟩,q⟩
 |_=>exact(show False from e).elim
structure ObjM(h:pd)(x dx C:ia)(mA:ua->Option Da):Prop where
 obj:h.get? x=some (tu C dx)
 ns:h.Ns1 dx mA
 ne:dx≠x
variable{dx:ia}{mA:ua->Option Da}
theorem Kx{h:pd}(n:h.Ns1 dx mA):∃ od,h.get? dx=some od/\∀ name,lookIn name od=some (mA name):=by
 obtain⟨o,es,ep,ho,hd,hk,_,hm⟩:=n;refine⟨o,ho,λname=>?_⟩;have e:=hm name;unfold nsFind findBy at e;rw[<-Array.find?_toList]at e
 unfold lookIn;rw[hd];dsimp only;split
 .rename_i y q;rw[q]at e
  exact congrArg some e
 .rename_i q;rw[q]at e
  have a:es.toList.any (·.refKey)=false:=by
   rw[List.any_eq_false];intro y hy;obtain⟨z,t,hkey⟩:=hk y (vp.mp hy);simp[DictEntry.refKey,hkey]
  have a':¬ es.toList.any (·.refKey)=true:=by rw[a];exact xa
  rw[if_neg a'];exact congrArg some e
variable{C:ia}
theorem ObjM.look{h:pd}{x:ia}(I:ObjM h x dx C mA):∃ od,PySem.W.InstAt h x (tu C dx) C (some od)/\∀ name,lookIn name od=some (mA name):=
 let ⟨od,ho,hl⟩:=Kx I.ns
 ⟨od,⟨I.obj,rfl,rfl,ho⟩,hl⟩
variable{name:ua}{kw:List (ua×Da)}
section
variable {x f:ia}{v:Da}
theorem JV{expr:Bool}(X:K.In s.heap)(I:ObjM s.heap x dx C mA)(hg:plainGet K C name=true)(hh:zn K C=true)(ha:fg K (.ref C) name=some none)(hv:mA name=some v)(hv':PySem.W.handedIn v=true)(h:Q v {s with toks:=s.toks+1}):
  cb (jb prog w) A (getAttr (.ref x) name expr) Q E s:=by
 obtain⟨od,J,hl⟩:=I.look;exact PySem.W.get_value X J (PySem.W.plainGet_of hg).1 (PySem.W.findObj_own hh ha rfl (by rw[hl,hv])) hv' h
theorem AY{ns:List ua}{Q:Unit->ka->Prop}(X:K.In s.heap)(I:ObjM s.heap x dx C mA)(hs:fg K (.ref C) "__setattr__"=some (some (.builtin "object.__setattr__")))(hp:plainOver K C=true)(ht:takerIn K C name=some none)(hh:zn K C=true)(hw:PySem.Within mA ns)(hsz:ns.length<=sizeLine)(h:∀ h',ObjM h' x dx C (λy=>if y=name then some v else mA y)->tm dx s.heap h'->Q () {s with heap:=h',toks:=s.toks+2}):
  cb (jb prog w) A (setAttr (.ref x) name v) Q E s:=by
 obtain⟨od,J,hl⟩:=I.look;refine PySem.W.set_plain X J hs (PySem.W.osa_open (s:= {s with toks:=s.toks+1}) (r:=none) X J hp ht λb=>?_);obtain⟨cd,hc,hd'⟩:=PySem.W.any_some hh;have hx:s.heap.get? x=some ⟨.ref C,some dx,.plain,#[]⟩:=I.obj;refine ja (kb (ja (ja (wpAny_loadPart hx (ja (PySem.W.Looks.here (s:= {s with toks:=s.toks+1}) (PySem.W.looks_clsIn X hc) ?_))))));rw[hd'];refine kb (a:=some dx) (ja (kb (ja ?_)));refine wpAny_nsSet1 (s:= {s with toks:=s.toks+1}) I.ns λh' hn2 hs2=>?_;obtain⟨oD,esD,epD,hoD,hdD,hcD⟩:=hn2.count (PySem.Within.cons name v hw);refine ja (wpAny_lookBehind hoD (by rw[hdD];exact pastItsLine_dict (bf hcD (by rw[ba];omega))) ?_);exact kb (h _ ⟨(hs2.2 _ (jg I.ne)).trans I.obj,hn2,I.ne⟩ hs2)
theorem MP{R:iq->ka->Prop}{vs:List Da}(X:K.In s.heap)(hm:makesIn K C=true)(hi:fg K (.ref C) "__init__"=some (some (.ref f)))(hf:typeIn K (.ref f)=some (.type "function"))(h:kj (jb prog w) (A.under (.builtin "type.__call__" ⟨.ref C::vs,kw⟩)) (.call (.ref f) ⟨.ref (s.heap.objs.size+1)::vs,kw⟩) (PySem.W.InitBack (s.heap.objs.size+1) R)
   {s with heap:=(s.heap.push Do).push (tu C s.heap.objs.size)}):
  kj (jb prog w) A (.call (.ref C) ⟨vs,kw⟩) R s:=by
 obtain⟨hh,g,d,t,os⟩:=s;exact PySem.W.make_core (PySem.W.makes_of X hm) (PySem.W.looks_findIn X hi) (λself=>PySem.W.bind_fn X self hf) (.inl rfl) h
end
def Yl(f:ua)(v:V):List (ua×V)->List (ua×V)
 | []=> [(f,v)]
 |(g,x)::r=>if g=f then(g,v)::r else(g,x)::Yl f v r
theorem Xr(f g:ua)(v:V):∀ fs:List (ua×V),(Yl f v fs).lookup g=if g=f then some v else fs.lookup g
 | []=>by
  show ul g [(f,v)]=_;by_cases h:g=f
  .have hb:(g==f)=true:=beq_iff_eq.mpr h;simp only[ul,hb,if_pos h]
  .have hb:(g==f)=false:=beq_eq_false_iff_ne.mpr h;simp only[ul,hb,if_neg h]
 |(k,x)::r=>by
  have ih:=Xr f g v r;rw[show Yl f v ((k,x)::r)=(if k=f then(k,v)::r else(k,x)::Yl f v r) from rfl];by_cases hk:k=f
  .rw[if_pos hk];by_cases h:g=k
   .have hb:(g==k)=true:=beq_iff_eq.mpr h;simp only[ul,hb,if_pos (h.trans hk)]
   .have hb:(g==k)=false:=beq_eq_false_iff_ne.mpr h;simp only[ul,hb,if_neg (λe:g=f=>h (e.trans hk.symm))]
  .rw[if_neg hk];by_cases h:g=k
   .have hb:(g==k)=true:=beq_iff_eq.mpr h;simp only[ul,hb,if_neg (λe:g=f=>hk (h.symm.trans e))]
   .have hb:(g==k)=false:=beq_eq_false_iff_ne.mpr h;simp only[ul,hb];exact ih
theorem Zq(f:ua)(v:V):∀ fs:List (ua×V),f∈(Yl f v fs).map (·.1)/\∀ g,g∈fs.map (·.1)->g∈(Yl f v fs).map (·.1)
 | []=>⟨by simp[Yl],λg h=>by simp at h⟩
 |(k,x)::r=>by
  obtain⟨i1,i2⟩:=Zq f v r;rw[show Yl f v ((k,x)::r)=(if k=f then(k,v)::r else(k,x)::Yl f v r) from rfl];by_cases hk:k=f
  .rw[if_pos hk];subst hk;exact⟨by simp,λg h=>by simpa using h⟩
  .rw[if_neg hk];refine⟨?_,λg h=>?_⟩
   .rw[db];exact ib _ i1
   .rw[db]at h ⊢
    rcases xc.mp h with e|e
    .exact xc.mpr (.inl e)
    .exact ib _ (i2 g e)
theorem Wr(f:ua)(v:V):∀ fs:List (ua×V),(Yl f v fs).length<=fs.length+1
 | []=>by simp[Yl]
 |(k,x)::r=>by
  have ih:=Wr f v r;rw[show Yl f v ((k,x)::r)=(if k=f then(k,v)::r else(k,x)::Yl f v r) from rfl];by_cases hk:k=f
  .rw[if_pos hk,ba,ba];omega
  .rw[if_neg hk,ba,ba];omega
theorem RelO.some_of{o:Option Da}(r:RelO (some v) o):∃ u,o=some u/\RelV v u:=by
 cases o with
 |none=>exact(show False from r).elim
 |some u=>exact⟨u,rfl,r⟩
theorem Ax(r:RelV v u):PySem.W.handedIn u=true:=by
 cases v with
 |non=>cases (show u=Value.none from r);rfl
 |bl b=>cases (show u=Value.bool b from r);rfl
 |int i=>obtain⟨t,e⟩:=(show ∃ t,u=Value.int i t from r);cases e;rfl
 |str x=>obtain⟨t,e⟩:=(show ∃ t,u=Value.str x t from r);cases e;rfl
 |byt b=>obtain⟨t,e⟩:=(show ∃ t,u=Value.bytes b t from r);cases e;rfl
 |flt b=>obtain⟨t,e⟩:=(show ∃ t,u=Value.float b t from r);cases e;rfl
 |ref a=>cases (show u=Value.ref a from r);rfl
 |ty n=>cases (show u=Value.type n from r);rfl
variable{a:ia}
section
variable {h:pd}{fs fs':List (ua×V)}
theorem MH(hok:HOk P w H h)(e:H a=some (.ins C dx fs)):∃ mA,ObjM h a dx C mA/\(∀ f,RelO (fs.lookup f) (mA f))/\PySem.Within mA (fs.map (·.1))/\fs.length<=1000/\H dx=some (.own a):=by
 obtain⟨d,z,ne,ob,mA,n,r,q⟩:=(show ObjOk P w H h a (.ins C dx fs) from hok a _ e)
 exact⟨mA,⟨ob,n,ne⟩,r,q,z,d⟩
end
structure Cls(K:td)(C:ia):Prop where
 pg:plainGet K C Str.empty=true
 hd:zn K C=true
 po:plainOver K C=true
 sa:fg K (.ref C) "__setattr__"=some (some (.builtin "object.__setattr__"))
theorem Cls.get(c:Cls K C)(f:ua):plainGet K C f=true:=c.pg
def NoAttr(K:td)(C:ia)(f:ua):Prop:=fg K (.ref C) f=some none
variable{f:ua}
theorem NoAttr.taker(n:NoAttr K C f):takerIn K C f=some none:=by
 unfold takerIn;rw[show fg K (.ref C) f=some none from n];rfl
structure Con(K:td)(C:ia)(f:ua)(v:V)(u:Da):Prop where
 at_:fg K (.ref C) f=some (some u)
 rel:RelV v u
 get:specialIn K u "__get__"=some none
 cp:PySem.W.copiedNames.contains f=false
structure Meth(K:td)(C:ia)(m:ua)(f:ia):Prop where
 at_:fg K (.ref C) m=some (some (.ref f))
 fn:isFn K (.ref f)=true
 kp:kf K (.ref f)=true
variable{b:Bool}
section
variable {fs:List (ua×V)}
theorem FE(I:Inv X pins σ H s)(e:H a=some (.ins C dx fs))(c:Cls X.K C)(n:NoAttr X.K C f)(l:fs.lookup f=some v)(h:∀ u s',Inv X pins σ H s'->RelV v u->Q u s'):cb (jb X.prog X.w) A (getAttr (.ref a) f b) Q E s:=by
 obtain⟨mA,O,r,_,_,_⟩:=MH I.hok e;obtain⟨u,hu,ru⟩:=RelO.some_of (v:=v) (o:=mA f) (by rw[<-l];exact r f);exact JV I.kIn O (c.get f) c.hd n hu (Ax ru) (h u _ (I.tok _) ru)
theorem OF{Q:Unit->ka->Prop}(I:Inv X pins σ H s)(e:H a=some (.ins C dx fs))(c:Cls X.K C)(n:NoAttr X.K C f)(hl:fs.length<1000)(ry:RelV y u)(h:∀ s',Inv X pins σ (Lb H a (.ins C dx (Yl f y fs))) s'->Q () s'):cb (jb X.prog X.w) A (setAttr (.ref a) f u) Q E s:=by
 obtain⟨mA,O,r,wi,_,ho⟩:=MH I.hok e;have hz:(fs.map (·.1)).length<=sizeLine:=by rw[Db,qe];omega
 refine AY I.kIn O c.sa c.po n.taker c.hd wi hz λh' O' sb=>h _ ?_;have hd:∃ o,h'.get? dx=some o:=let ⟨o,_,_,e',_⟩:=O'.ns;⟨o,e'⟩
 refine I.write (x:=a) (e:=dx) (by rw[e];exact True.intro) (.inr ho) (λb q hb z=>(sb.2 b hb).trans z) hd ?_;refine⟨by rw[Ea O.ne];exact ho,?_,O.ne,O'.obj,_,O'.ns,λg=>?_,λg hg=>?_⟩
 .have:=Wr f y fs;omega
 .show RelO ((Yl f y fs).lookup g) (if g=f then some u else mA g);rw[Xr];by_cases q:g=f
  .rw[if_pos q,if_pos q];exact ry
  .rw[if_neg q,if_neg q];exact r g
 .by_cases q:g=f
  .rw[q];exact(Zq f y fs).1
  .refine(Zq f y fs).2 g (wi g λz=>hg ?_);show(if g=f then some u else mA g)=none;rw[if_neg q];exact z
theorem Inv.made(I:Inv X pins σ H s):Inv X pins σ (Lb (Lb H s.heap.objs.size (.own (s.heap.objs.size+1))) (s.heap.objs.size+1) (.ins C s.heap.objs.size []))
  {s with heap:=(s.heap.push Do).push (tu C s.heap.objs.size)}:=by
 have e1:(s.heap.push Do).get? s.heap.objs.size=some Do:=ue s.heap rfl
 have e2:((s.heap.push Do).push (tu C s.heap.objs.size)).get? (s.heap.objs.size+1)=some (tu C s.heap.objs.size):=by
  have:=ue (s.heap.push Do) (o:=tu C s.heap.objs.size) rfl
  rwa [xq]at this
 have e3:(s.heap.push Do).Ns s.heap.objs.size (λ_=>none):=⟨Do,#[],_,e1,rfl,(λe he=>absurd he (by simp)),λ_=>rfl⟩
 have I1:=I.laid (a:=s.heap.objs.size) (o:=.own (s.heap.objs.size+1)) (h':=s.heap.push Do) (t':=s.toks) (λb u q=>ya _ q) (Uf _) ⟨_,e1⟩;refine I1.laid (a:=s.heap.objs.size+1) (o:=.ins C s.heap.objs.size []) (t':=s.toks) (λb u q=>ya _ q) (Nat.le_of_eq (xq _ _)) ?_;have ne:s.heap.objs.size≠s.heap.objs.size+1:=ag (um _);refine⟨by rw[Ea ne,Ta],si _,ne,e2,λ_=>none,(Heap.Ns1.of_empty e3).at λo q=>ya _ q,λ_=>True.intro,λy hy=>absurd rfl hy⟩
theorem NG{env:cq}{f:ua}{s:ka}(hb:dg e f env (eval e env)=eval e env)(h:cb (jb prog w) A (eval e env) (λo s₁=>cb (jb prog w) A (getAttr o f true) Q E s₁) E s):cb (jb prog w) A (eval (.Attribute e f pos) env) Q E s:=
 Attribute_any_ h (by rw[arm_eval_Attribute,hb])
end
def Fd0(K:td)(ta:TE)(f:ua):TE:=λσ H Q=>ta σ H λx H1=>∃ a C dx fs v,x=.ref a/\H1 a=some (.ins C dx fs)/\Cls K C/\NoAttr K C f/\fs.lookup f=some v/\Q v H1
def Xc0(K:td)(ta tv:TE)(f:ua):TS:=λD σ H=>tv σ H λy H1=>ta σ H1 λx H2=>∃ a C dx fs,x=.ref a/\H2 a=some (.ins C dx fs)/\Cls K C/\NoAttr K C f/\fs.length<1000/\
 D.nx σ (Lb H2 a (.ins C dx (Yl f y fs)))
variable{o:nc}
section
variable {value:nc}{tpos:bh}{tv:TE}
theorem U4(he:PE X e ta)(hb:dg e f X.env (eval e X.env)=eval e X.env):PE X (.Attribute e f pos) (Fd0 X.K ta f):=by
 intro pins s σ H Q I h;refine NG hb (thn (he pins s σ H _ I h) λu s1 ⟨x,H1,I1,rx,a,C,dx,fs,v,ex,ea,c,n,l,q⟩=>?_);subst ex;obtain rfl:u=Value.ref a:=rx;exact FE I1 ea c n l λu' s2 I2 ru=>⟨v,H1,I2,ru,q⟩
theorem G5(ha:PE X o ta)(hv:PE X value tv)(hs:ki value (some (.Attribute o f pos')) pos.line X.env=pure false):PS X (.Assign [.Attribute o f pos'] value pos) (Xc0 X.K ta tv f):=by
 intro pins s σ H D I h;refine plainObj_wpAny_Assign_Attribute (thn (hv pins s σ H _ I h) λu s1 ⟨y,H1,I1,ry,q⟩=>thn (ha pins s1 σ H1 _ I1 q) λov s2 ⟨x,H2,I2,rx,a,C,dx,fs,ex,ea,c,n,l,q2⟩=>?_) hs;subst ex;obtain rfl:ov=Value.ref a:=rx;exact OF I2 ea c n l ry λs3 I3=>⟨σ,_,I3,q2⟩
end
section
variable {c:Da}
inductive TyOf(K:td)(H:Hp):V->Da->Prop where
 |non:TyOf K H .non (.type "NoneType")
 |bl (x:Bool):TyOf K H (.bl x) (.type "bool")
 |int (i:Int):TyOf K H (.int i) (.type "int")
 |str (x:ua):TyOf K H (.str x) (.type "str")
 |flt (x:UInt64):TyOf K H (.flt x) (.type "float")
 |lst {a:ia} {xs:List V} (e:H a=some (.lst xs)):TyOf K H (.ref a) (.type "list")
 |frz {a:ia} {o:mh} {xs:List V} (e:H a=some (.frz o (.lst xs))):TyOf K H (.ref a) (.type "list")
 |tup {a:ia} {xs:List V} (e:H a=some (.tup xs)):TyOf K H (.ref a) (.type "tuple")
 |dK {a:ia} {kvs:List (Jd×V)} (e:H a=some (.dK kvs)):TyOf K H (.ref a) (.type "dict")
 |dT {a:ia} {kvs:List (List Jd×V)} (e:H a=some (.dT kvs)):TyOf K H (.ref a) (.type "dict")
 |ins {a C dx:ia} {fs:List (ua×V)} (e:H a=some (.ins C dx fs)) (cl:Cls K C) (ha:fg K (.ref C) "__class__"=some (some (.builtin "object.__class__")))
   (hn:specialIn K (.builtin "object.__class__") "__get__"=some (some (.builtin "getset_descriptor.__get__"))) (htk:PySem.W.takesIn K (.builtin "object.__class__")=some true)
   (hm:nv K C (.type "object")=some true):TyOf K H (.ref a) (.ref C)
end
structure Room(k:Nat)(A:ye):Prop where
 hd:A.handled=none
 dp:A.depth+3*k+5<cr
 un:A.units+16*k+200<cLine
 gd:A.guards=some []
theorem Room.mono(r:Room k A)(h:j<=k):Room j A:=⟨r.hd,by have:=r.dp;omega,by have:=r.un;omega,r.gd⟩
theorem Room.deeper(r:Room (k+1) A)(env:cq):Room k (A.deeper env):=
 ⟨r.hd,by have:=r.dp;show A.depth+1+3*k+5<_;omega,by have:=r.un;show A.units+3+16*k+200<_;omega,r.gd⟩
theorem Ku:(A.under (.builtin "type.__call__" ⟨.ref C::us,kw⟩)).depth=A.depth+1:=by
 first|rfl|simp[uq,Code.weight,Code.isCreation,Code.isGuard,Code.isCaller,Code.frames,Code.isFrame,guardIds]
theorem Lu:(A.under (.builtin "type.__call__" ⟨.ref C::us,kw⟩)).units=A.units+1:=by
 first|rfl|simp[uq,Code.cUnits,Code.frames,Code.isFrame]
theorem Room.make(r:Room (k+1) A)(C:ia)(us:List Da)(kw:List (ua×Da)):Room k (A.under (.builtin "type.__call__" ⟨.ref C::us,kw⟩)):=
 ⟨r.hd,by have:=r.dp;rw[Ku];omega,by have:=r.un;rw[Lu];omega,by first|exact r.gd|(simpa [uq,Code.guards,pushGuards] using r.gd)⟩
theorem Room.depth(r:Room k A):A.depth<cr:=by have:=r.dp;omega
theorem Room.units(r:Room k A):A.units+64<cLine:=by have:=r.un;omega
def tNil:TA:=λ_ H Q=>Q [] H
def Ba0(ta:TE)(tr:TA):TA:=λσ H Q=>ta σ H λx H1=>tr σ H1 λxs H2=>Q (x::xs) H2
section
variable {t:TA}
theorem Zh:PA X [] tNil:=λ_ _ _ _ H Q I h=>Rs ⟨[],H,I,.nil,h⟩
theorem Ie(ha:PE X e te)(hr:PA X es t)(hs:Fa (e::es) X.env=(false,eval e X.env)::Fa es X.env:=by rfl):PA X (e::es) (Ba0 te t):=by
 intro pos pins s σ H Q I h;rw[hs];show cb _ _ (spliced ((false,eval e X.env)::yc pos (Fa es X.env))) _ _ s;refine gr (thn (ha pins s σ H _ I h) λu s1 ⟨x,H1,I1,r1,q1⟩=>?_);exact thn (hr pos pins s1 σ H1 _ I1 q1) λus s2 ⟨xs,H2,I2,r2,q2⟩=>⟨x::xs,H2,I2,.cons r1 r2,q2⟩
def Od0(t:TA):TE:=λσ H Q=>t σ H λxs H1=>xs.length<=sizeLine/\∀ p,H1 p=none->Q (.ref p) (Lb H1 p (.tup xs))
def Ea0(t:TA):TE:=λσ H Q=>t σ H λxs H1=>xs.length<=sizeLine/\∀ p,H1 p=none->Q (.ref p) (Lb H1 p (.lst xs))
theorem VQ{x1}(h:PA X es t):PE X (.Tuple es x1 pos) (Od0 t):=by
 intro pins s σ H Q I hq;refine wpAny_Tuple_spliced (thn (h pos pins s σ H _ I hq) λus s1 ⟨xs,H1,I1,r,z,q⟩=>⟨by rw[<-r.length];exact z,?_⟩);have hf:H1 s1.heap.objs.size=none:=I1.hok.fresh (Uf _);refine⟨.ref s1.heap.objs.size,Lb H1 s1.heap.objs.size (.tup xs),I1.laid (t':=s1.toks) (λb u e=>ya _ e) (Uf _) ?_,rfl,q _ hf⟩;exact⟨z,us,r,⟨_,ue _ rfl,rfl,_,rfl⟩⟩
theorem TQ(h:PA X es t):PE X (.List es pos) (Ea0 t):=by
 intro pins s σ H Q I hq;refine wpAny_List_spliced (thn (h pos pins s σ H _ I hq) λus s1 ⟨xs,H1,I1,r,z,q⟩=>⟨by rw[<-r.length];exact z,?_⟩);have hf:H1 s1.heap.objs.size=none:=I1.hok.fresh (Uf _);refine⟨.ref s1.heap.objs.size,Lb H1 s1.heap.objs.size (.lst xs),I1.laid (t':=s1.toks) (λb u e=>ya _ e) (Uf _) ?_,rfl,q _ hf⟩;exact⟨z,us,0,r,ue _ rfl⟩
end
abbrev Sp:=List V->Hp->VK->XK->Prop
abbrev Yx:=List cq->Hp->ka->XK->Da->ka->Prop
structure Env0(P:ic)(w:yd)(K:td)(mg:ua->Option Da)(base:pd)(A:ye)(outer:List cq)(s:ka)(H:Hp):Prop where
 frames:A.frames=some outer
 mod:Mod K mg base
 bs:∀ b o,base.get? b=some o->s.heap.get? b=some o/\H b=none
 bsz:base.objs.size<=s.heap.objs.size
 funs:s.heap.FunFrames base outer
 frf:∀ b∈Ff outer,H b=none
 hok:HOk P w H s.heap
 bare:gj s.gens
def CE(outer:List cq)(P:ic)(w:yd)(H:Hp)(s:ka)(Q:VK)(u:Da)(s':ka):Prop:=
 ∃ v H',s'.os=s.os/\gj s'.gens/\Un (Ff outer) [] H H' s.heap s'.heap/\HOk P w H' s'.heap/\RelV v u/\Q v H'
def CR(CX:Yx)(outer:List cq)(P:ic)(w:yd)(H:Hp)(s:ka)(Q:VK)(E:XK)(r:iq)(s':ka):Prop:=
 match r with
 | .ok (.ret u)=>CE outer P w H s Q u s'
 | .ok _=>False
 | .error e=>CX outer H s E e s'
structure FnOk(P:ic)(w:yd)(K:td)(mg:ua->Option Da)(base:pd)(CX:Yx)(k:Nat)(f:ia)(fd:lg)(ps:List ua)(sp:Sp):Prop where
 len:∀ vs H Q E,sp vs H Q E->vs.length=ps.length
 run:∀ (A:ye) (outer:List cq) (s:ka) (H:Hp) (args:Args) (us:List Da) (vs:List V) (Q:VK) (E:XK),Room k A->Env0 P w K mg base A outer s H->xu s fd args (ps.zip us)->Vals vs us->sp vs H Q E->
  kj (jb P w) A (.call (.ref f) args) (CR CX outer P w H s Q E) s
variable{f:ia}{mg:ua->Option Da}{base:pd}{CX:Yx}{fd:lg}{ps:List ua}{sp:Sp}
theorem FnOk.mono(F:FnOk P w K mg base CX j f fd ps sp)(h:j<=k):
  FnOk P w K mg base CX k f fd ps sp:=⟨F.len,λA outer s H args us vs Q E hr=>F.run A outer s H args us vs Q E (hr.mono h)⟩
theorem FnOk.imp{sp':Sp}(F:FnOk P w K mg base CX k f fd ps sp)(h:∀ vs H Q E,sp' vs H Q E->sp vs H Q E):FnOk P w K mg base CX k f fd ps sp':=
 ⟨λvs H Q E q=>F.len vs H Q E (h _ _ _ _ q),λA outer s H args us vs Q E hr he hb hv hs=>F.run A outer s H args us vs Q E hr he hb hv (h _ _ _ _ hs)⟩
variable{outer:List cq}
theorem Env0.make(e:Env0 P w K mg base A outer s H)(C:ia)(us:List Da)(kw:List (ua×Da)):
  Env0 P w K mg base (A.under (.builtin "type.__call__" ⟨.ref C::us,kw⟩)) outer s H:=⟨by first|exact e.frames|(simpa [uq,Code.envs,Code.isFrame,pushEnvs] using e.frames),e.mod,e.bs,e.bsz,e.funs,e.frf,e.hok,e.bare⟩
variable{Q:VK}
theorem Inv.env0(I:Inv X pins σ H s):Env0 X.prog X.w X.K X.mg X.base X.A X.stack s H:=
 ⟨I.ok.frames,I.ok.mod,I.bs,bf I.ok.bsz I.sz,I.stack,I.stkFree,I.hok,I.bare⟩
theorem Inv.after(I:Inv X pins σ H s)(h:CE X.stack X.prog X.w H s Q u s'):EP X pins σ Q u s':=by
 obtain⟨v,H',os,bare,un,hok,r,q⟩:=h;obtain⟨hh,g,d,t,os'⟩:=s';obtain rfl:os'=s.os:=os;exact⟨v,H',I.call (h':=hh) (g':=g) (d':=d) (t':=t) (ch:= []) un hok bare (λb z=>absurd z (by simp)),r,q⟩
def Aa0(sp:Sp)(dvs:List V)(E:XK)(t:TA):TE:=λσ H Q=>t σ H λvs H1=>sp (vs++dvs) H1 Q E
def Fa0(C:ia)(sp:Sp)(dvs:List V)(E:XK)(t:TA):TE:=λσ H Q=>t σ H λvs H1=>∀ x dx,H1 x=none->H1 dx=none->dx≠x->
 sp (.ref x::(vs++dvs)) (Lb (Lb H1 dx (.own x)) x (.ins C dx [])) (λv H2=>v=.non/\Q (.ref x) H2) E
def Binds(K:td)(fd:lg)(ps:List ua)(ds:List Da):Prop:=
 ∀ (s:ka) (us:List Da),K.In s.heap->(us++ds).length=ps.length->xu s fd ⟨us,[]⟩ (ps.zip (us++ds))
theorem Binds.all(h:∀ us:List Da,us.length=ps.length->bindArgs fd ⟨us,[]⟩=pure (ps.zip us)):Binds K fd ps []:=λs us _ hl=>by
 rw[kg]at hl ⊢
 exact .of_eq (h us hl)
def So(CX:Yx)(X:Cx)(E:XK):Prop:=∀ (pins:List (ia×mh)) (σ:St) (H:Hp) (s:ka) (e:Da) (s':ka),Inv X pins σ H s->CX X.stack H s E e s'->X.xe e s'
variable{E:XK}{vs:List V}{m:ua}{apos:bh}
section
variable {dvs:List V}{ds:List Da}{p:bh}{t:TA}
theorem V5(F:FnOk X.prog X.w X.K X.mg X.base CX k f fd ps sp)(hr:Room k X.A)(hb:Binds X.K fd ps ds)(hd:Vals dvs ds)(hx:So CX X E)(I:Inv X pins σ H s)(r:Vals vs us)(h:sp (vs++dvs) H Q E):cb (jb X.prog X.w) X.A (call (.ref f) us) (EP X pins σ Q) X.xe s:=by
 have r2:Vals (vs++dvs) (us++ds):=r.append hd;have hl:(us++ds).length=ps.length:=by rw[<-r2.length];exact F.len _ _ _ _ h
 refine xl (ii (F.run X.A X.stack s H ⟨us,[]⟩ (us++ds) (vs++dvs) Q E hr I.env0 (hb s us I.kIn hl) r2 h) λr s' hq=>?_);cases r with
 |error e=>exact hx pins σ H s e s' I hq
 |ok fl=>
  cases fl with
  |ret u=>exact I.after hq
  |next=>exact ud hq
  |brk=>exact ud hq
  |cont=>exact ud hq
theorem Kz(F:FnOk X.prog X.w X.K X.mg X.base CX k f fd ps sp)(hr:Room k X.A)(hg:Gl X x)(hm:X.mg x=some (.ref f))(hk:kf X.K (.ref f)=true)(hb:Binds X.K fd ps ds)(hd:Vals dvs ds)(hx:So CX X E)(ha:PA X (e::es) t)(hdb:(x==("__debug__":ua))=false:=by decide)(he:Fa (e::es) X.env=(false,eval e X.env)::Fa es X.env:=by rfl)(hpl:(yc pos (Fa es X.env)).any (·.1)=false:=by rfl):
  PE X (.Call (.Name x p) (e::es) [] pos) (Aa0 sp dvs E t):=by
 intro pins s σ H Q I h;refine jh (Bk I hg hm ?_ hdb);refine callWith_K (h₀:=X.base) I.ok.mod.kin hk (thn (ha pos pins s σ H _ I h) λus s1 ⟨vs,H1,I1,r,q⟩=>⟨I1.kIn,?_⟩) he hpl;exact V5 F hr hb hd hx I1 r q
structure Mk(K:td)(C f:ia):Prop where
 makes:makesIn K C=true
 init:fg K (.ref C) "__init__"=some (some (.ref f))
 fn:isFn K (.ref f)=true
 kp:kf K (.ref C)=true
theorem KR(M:Mk X.K C f)(F:FnOk X.prog X.w X.K X.mg X.base CX k f fd ps sp)(hr:Room (k+1) X.A)(hb:Binds X.K fd ps ds)(hd:Vals dvs ds)(hx:So CX X E)(I:Inv X pins σ H s)(r:Vals vs us)(h:∀ x dx,H x=none->H dx=none->dx≠x->sp (.ref x::(vs++dvs)) (Lb (Lb H dx (.own x)) x (.ins C dx [])) (λv H2=>v=.non/\Q (.ref x) H2) E):
  cb (jb X.prog X.w) X.A (call (.ref C) us) (EP X pins σ Q) X.xe s:=by
 have hq:=h (s.heap.objs.size+1) s.heap.objs.size (I.hok.fresh (le_succ _)) (I.hok.fresh (Uf _)) (ag (um _));have I2:=Inv.made (C:=C) I;have r2:Vals (V.ref (s.heap.objs.size+1)::(vs++dvs)) (Value.ref (s.heap.objs.size+1)::(us++ds)):=.cons rfl (r.append hd)
 have hl:(Value.ref (s.heap.objs.size+1)::us++ds).length=ps.length:=by
  have e:=r2.length;rw[F.len _ _ _ _ hq]at e
  exact e.symm
 refine xl (MP (f:=f) I.kIn M.makes M.init (beq_iff_eq.mp M.fn) (ii (F.run _ X.stack _ _ ⟨Value.ref (s.heap.objs.size+1)::us,[]⟩ (Value.ref (s.heap.objs.size+1)::(us++ds)) _ _ E (hr.make C us [])
  (I2.env0.make C us []) (hb _ (Value.ref (s.heap.objs.size+1)::us) I2.kIn hl) r2 hq) λr s' hq'=>?_))
 cases r with
 |error e=>exact hx pins σ _ _ e s' I2 hq'
 |ok fl=>
  cases fl with
  |ret u=>
   obtain⟨v,H',I3,rv,ev,q3⟩:=I2.after hq';subst ev;exact⟨rv,⟨V.ref (s.heap.objs.size+1),H',I3,rfl,q3⟩⟩
  |next=>exact ud hq'
  |brk=>exact ud hq'
  |cont=>exact ud hq'
theorem FX(M:Mk X.K C f)(F:FnOk X.prog X.w X.K X.mg X.base CX k f fd ps sp)(hr:Room (k+1) X.A)(hg:Gl X x)(hm:X.mg x=some (.ref C))(hb:Binds X.K fd ps ds)(hd:Vals dvs ds)(hx:So CX X E)(ha:PA X (e::es) t)(hdb:(x==("__debug__":ua))=false:=by decide)(he:Fa (e::es) X.env=(false,eval e X.env)::Fa es X.env:=by rfl)(hpl:(yc pos (Fa es X.env)).any (·.1)=false:=by rfl):
  PE X (.Call (.Name x p) (e::es) [] pos) (Fa0 C sp dvs E t):=by
 intro pins s σ H Q I h;refine jh (Bk I hg hm ?_ hdb);refine callWith_K (h₀:=X.base) I.ok.mod.kin M.kp (thn (ha pos pins s σ H _ I h) λus s1 ⟨vs,H1,I1,r,q⟩=>⟨I1.kIn,?_⟩) he hpl;exact KR M F hr hb hd hx I1 r q
end
section
variable {ks:List ua}{p kpos:bh}{kws:List li}{t tk:TA}{nm:Option ua}
structure KBinds(K:td)(fd:lg)(ps ks:List ua)(g:List Da->List Da->List Da)(gV:List V->List V->List V):Prop where
 to:∀ (s:ka) (us ws:List Da),K.In s.heap->(g us ws).length=ps.length->xu s fd ⟨us,ks.zip ws⟩ (ps.zip (g us ws))
 rel:∀ {vs:List V} {us:List Da} {zs:List V} {ws:List Da},Vals vs us->Vals zs ws->Vals (gV vs zs) (g us ws)
variable {g:List Da->List Da->List Da}{gV:List V->List V->List V}
end
structure FnScope(N P:List ua)(sc:io):Prop where
 kind:sc.kind=.function
 co:sc.isCoroutine=false
 gen:sc.isGenerator=false
 nd:N.Nodup
 pre:N.take P.length=P
 par:∀ x∈P,sc.names.lookup x=some .local\/sc.names.lookup x=some .cell
 nofree:∀ y∈sc.names,y.2≠ .free
theorem Pw{kindOf:ua->Option ji}{x:ua}:∀ {binds:List (ua×Da)} {m:ua->Option Da},(∀ v,(x,v)∉binds)->bindL kindOf binds m x=m x
 | [],_,_=>rfl
 |(n,v)::r,m,h=>by
  unfold bindL;rw[Pw λw hw=>h w (ib _ hw)];split
  .have:x≠n:=by rintro rfl;exact h v kc
   simp[this]
  .rfl
theorem Mw{kindOf:ua->Option ji}{x:ua}:∀ {binds:List (ua×Da)} {m:ua->Option Da},(∀ v,(x,v)∉binds)->bindC kindOf binds m x=m x
 | [],_,_=>rfl
 |(n,v)::r,m,h=>by
  unfold bindC;rw[Mw λw hw=>h w (ib _ hw)];split
  .rfl
  .have:x≠n:=by rintro rfl;exact h v kc
   simp[this]
theorem Nw{kindOf:ua->Option ji}{x:ua}{v:Da}:∀ {P:List ua} {vs:List Da} {i:Nat} {m:ua->Option Da},P.Nodup->P[i]? =some x->vs[i]? =some v->kindOf x=some .local->
  bindL kindOf (P.zip vs) m x=some v
 | [],_,_,_,_,h,_,_=>by simp at h
 |_::_,[],_,_,_,_,h,_=>by simp at h
 |p::P,w::vs,0,m,nd,h1,h2,hk=>by
  simp at h1 h2;subst h1;subst h2;show bindL kindOf ((p,w)::P.zip vs) m p=_;unfold bindL;rw[Pw λv hv=>(jq.mp nd).1 (kq hv).1,if_pos hk];simp
 |p::P,w::vs,i+1,m,nd,h1,h2,hk=>by
  show bindL kindOf ((p,w)::P.zip vs) m x=_;unfold bindL;exact Nw (i:=i) (jq.mp nd).2 (by simpa using h1) (by simpa using h2) hk
theorem Lw{kindOf:ua->Option ji}{x:ua}{v:Da}:∀ {P:List ua} {vs:List Da} {i:Nat} {m:ua->Option Da},P.Nodup->P[i]? =some x->vs[i]? =some v->kindOf x≠some .local->
  bindC kindOf (P.zip vs) m x=some v
 | [],_,_,_,_,h,_,_=>by simp at h
 |_::_,[],_,_,_,_,h,_=>by simp at h
 |p::P,w::vs,0,m,nd,h1,h2,hk=>by
  simp at h1 h2;subst h1;subst h2;show bindC kindOf ((p,w)::P.zip vs) m p=_;unfold bindC;rw[Mw λv hv=>(jq.mp nd).1 (kq hv).1,if_neg hk];simp
 |p::P,w::vs,i+1,m,nd,h1,h2,hk=>by
  show bindC kindOf ((p,w)::P.zip vs) m x=_;unfold bindC;exact Lw (i:=i) (jq.mp nd).2 (by simpa using h1) (by simpa using h2) hk
def start(N:List ua)(vs:List V):St:=vs.map some++qb (N.length-vs.length) none
def Xl(CX:Yx)(P:ic)(w:yd)(K:td)(mg:ua->Option Da)(base:pd)(N:List ua)(qual:ua)(scope:io)(f:ia)(cd:Da)(A:ye)(outer:List cq)(s:ka)(H:Hp)(E:XK):Cx where
 prog:=P
 w:=w
 K:=K
 mg:=mg
 base:=base
 A:=A.deeper (zj qual scope s.heap.objs.size f cd)
 N:=N
 s₀:=s
 H₀:=H
 env:=zj qual scope s.heap.objs.size f cd
 outer:=outer
 stack:=zj qual scope s.heap.objs.size f cd::outer
 ex:= []
 calm:=true
 fn:=λ_=>true
 pn:= []
 xe:=λe s'=>cb (jb P w) (A.deeper (zj qual scope s.heap.objs.size f cd)) (yu (zj qual scope s.heap.objs.size f cd) e) (λ_ s''=>CX outer H s E e s'') (λe' s''=>CX outer H s E e' s'') s'
theorem NA{sc:io}(h:sc.names.lookup x=some .cell):∃ c,(Pi n sc.names []).lookup x=some c:=by
 have q:=jr sc.names n [] (.inl h);exact ve.mp q
variable{qual:ua}{scope:io}
theorem Fx{cd:Da}{s1:ka}(S:FnScope N ps scope)(hd:A.handled=none)(e0:Env0 P w K mg base A outer s H)(hl:vs.length=ps.length)(r:Vals vs us)(x:InCallC s s.heap.objs.size (bindL (zj qual scope s.heap.objs.size f cd).kindOf (ps.zip us) λ_=>none) (Pi (s.heap.objs.size+1) scope.names []) (bindC (zj qual scope s.heap.objs.size f cd).kindOf (ps.zip us) λ_=>none) s1):
  Inv (Xl CX P w K mg base N qual scope f cd A outer s H E) [] (start N vs) H s1:=by
 have hpl:ps.length<=N.length:=by have:=congrArg length S.pre;rw[js]at this;omega
 obtain⟨h1,tk,rfl,hk⟩:=x.done;have noA:∀ b:ia,b∉(Xl CX P w K mg base N qual scope f cd A outer s H E).ex:=λb z=>absurd (show b∈([]:List ia) from z) (by simp)
 refine⟨⟨e0.mod,S.kind,rfl,rfl,Uf _,λy z c h1 h2=>?_,λy hy=>?_,λy c _ h=>?_,λ_=>hd,Around.frames_deeper e0.frames,.inr ⟨rfl,rfl⟩,λb z=>absurd z (noA b),e0.bs,e0.bsz,λb _ _=>noA b,λb z=>absurd z (noA b),e0.funs,e0.frf⟩,
  rfl,e0.bare,Un.kept hk,⟨_,x.toInCall.ns,λi y v h1 h2 h3=>?_⟩,λy c h=>⟨_,x.cell y c h⟩,e0.hok.fresh (Uf _),λy c h=>?_,λp hp=>absurd (show p∈([]:List (ia×mh)) from hp) (by simp),e0.hok.kept hk,?_⟩
 .exact name_of_addr x.apart (zh h1) (zh h2)
 .have hy:scope.names.lookup y=some .cell\/scope.names.lookup y=some .free:=hy;rcases hy with hy|hy
  .exact NA hy
  .exact absurd rfl (S.nofree _ (zh hy))
 .exact rq (x.above y c (zh h))
 .have hi:i<vs.length:=by
   unfold start at h2;by_cases hi:i<vs.length
   .exact hi
   .rw[ng (by simpa using hi)]at h2
    rw[Tk]at h2
    split at h2<;>cases h2
  have ha:vs[i]? =some v:=by
   unfold start at h2;rw[zg (by simpa using hi),wg]at h2
   cases e:vs[i]? with
   |none=>rw[e]at h2;cases h2
   |some a=>rw[e]at h2;cases h2;rfl
  obtain⟨u,hu,rv⟩:=r.get ha
  have hp:ps[i]? =some y:=by
   rw[<-S.pre,List.getElem?_take_of_lt (by omega)];exact h1
  have ndP:ps.Nodup:=by rw[<-S.pre];exact S.nd.sublist (List.take_sublist _ _)
  refine⟨u,rv,?_⟩;rcases S.par y (mi hp) with k|k
  .exact .inl ⟨k,Nw ndP hp hu k⟩
  .obtain⟨c,e⟩:=NA (n:=s.heap.objs.size+1) k;refine .inr ⟨.inl k,c,e,?_⟩;have q:=x.cell y c e;rw[Lw ndP hp hu (by show scope.names.lookup y≠_;rw[k];decide)]at q
   exact q
 .exact e0.hok.fresh (rq (x.above y c (zh h)))
 .unfold start;show _=N.length;rw[md,Db,ai];omega
theorem AZ{params:Arguments}{dV kV doc pm cdv ct oc:Da}{an od:Option ia}{osl:Array (Option Da)}(lk:K.lookup f=some ⟨oc,od,.func (mj name qual params body scope dV kV doc pm an cdv ct),osl⟩)(hcd:gg K cdv qual=true)(S:FnScope N ps scope)(len:∀ vs H Q E,sp vs H Q E->vs.length=ps.length)(hbody:∀ (A:ye) (outer:List cq) (s:ka) (H:Hp) (vs:List V) (Q:VK) (E:XK),Room k (A.deeper (zj qual scope s.heap.objs.size f cdv))->sp vs H Q E->
   ∃ t,PSs (Xl CX P w K mg base N qual scope f cdv A outer s H E) body t/\t {nx:=λ_ H'=>Q .non H',rt:=Q} (start N vs) H):
  FnOk P w K mg base CX (k+1) f (mj name qual params body scope dV kV doc pm an cdv ct) ps sp:=by
 refine⟨len,λA outer s H args us vs Q E hr e0 hb r hsp=>?_⟩;have hl:=len _ _ _ _ hsp;have KX:K.In s.heap:=e0.mod.kin.keeps λb o e=>(e0.bs b o e).1;have lim:s.heap.NoLimit:=e0.mod.nolimit.keeps λb o e=>(e0.bs b o e).1
 have hkind:∀ y∈ps.zip us,scope.names.lookup y.1=some .local\/(scope.names.lookup y.1=some .cell/\((Pi (s.heap.objs.size+1) scope.names []).lookup y.1).isSome=true):=λ⟨n,v⟩ hy=>by
  rcases S.par n (kq hy).1 with q|q
  .exact .inl q
  .exact .inr ⟨q,jr _ _ _ (.inl q)⟩
 refine codeAny_call_function hr.depth (KX _ _ lk) rfl S.co S.gen rfl (PySem.W.codeRec_of KX hcd) (hb _ _ _ _ ?_);refine mr S.kind hkind λenv he s1 x=>?_;subst he;refine⟨lim.keeps x.toInCall.keep,codeAny_func ?_⟩;obtain⟨t,ht,hq⟩:=hbody A outer s H vs Q E (hr.deeper _) hsp;have I:Inv (Xl CX P w K mg base N qual scope f cdv A outer s H E) [] (start N vs) H s1:=Fx S hr.hd e0 hl r x;refine se (ht [] s1 (start N vs) H _ I hq) (λfl s' hs=>?_) λe s' hs=>hs
 have fin:∀ {σ':St} {H':Hp} {v:V} {u:Da},Inv (Xl CX P w K mg base N qual scope f cdv A outer s H E) [] σ' H' s'->RelV v u->Q v H'->CE outer P w H s Q u s':=
  λ{σ' H' v u} J rv q=>⟨v,H',J.os,J.bare,J.base,J.hok,rv,q⟩
 cases fl with
 |ret u=>
  obtain⟨v,σ',H',J,rv,q⟩:=hs;exact fin J rv q
 |next=>
  obtain⟨σ',H',J,q⟩:=hs;exact fin (v:=V.non) (u:=Value.none) J rfl q
 |brk=>
  obtain⟨_,_,_,q⟩:=hs;exact ud q
 |cont=>
  obtain⟨_,_,_,q⟩:=hs;exact ud q
section
variable {p:bh}{t:TA}{id T:String}{r:List V->Hp->VK->Prop}
def tCB(r:List V->Hp->VK->Prop)(t:TA):TE:=λσ H Q=>t σ H λvs H1=>r vs H1 Q
theorem Cq(hc:CallR X (.builtin id) r)(hg:Gl X x)(hm:X.mg x=none)(hv:ug x=some (.builtin id))(ha:PA X (e::es) t)(hn:x≠"__name__":=by decide)(hdb:(x==("__debug__":ua))=false:=by decide)(he:Fa (e::es) X.env=(false,eval e X.env)::Fa es X.env:=by rfl)(hpl:(yc pos (Fa es X.env)).any (·.1)=false:=by rfl):PE X (.Call (.Name x p) (e::es) [] pos) (tCB r t):=by
 intro pins s σ H Q I h;refine jh (Yo I hg hm hv ?_ hn hdb);exact yo (thn (ha pos pins s σ H _ I h) λus s1 ⟨vs,H1,I1,r1,q1⟩=>hc pins s1 σ H1 vs us Q I1 r1 q1) he hpl
theorem Px(hc:CallR X (.type T) r)(hg:Gl X x)(hm:X.mg x=none)(hv:ug x=some (.type T))(ha:PA X (e::es) t)(hn:x≠"__name__":=by decide)(hdb:(x==("__debug__":ua))=false:=by decide)(he:Fa (e::es) X.env=(false,eval e X.env)::Fa es X.env:=by rfl)(hpl:(yc pos (Fa es X.env)).any (·.1)=false:=by rfl):PE X (.Call (.Name x p) (e::es) [] pos) (tCB r t):=by
 intro pins s σ H Q I h;refine jh (Yo I hg hm hv ?_ hn hdb);exact Tl (thn (ha pos pins s σ H _ I h) λus s1 ⟨vs,H1,I1,r1,q1⟩=>hc pins s1 σ H1 vs us Q I1 r1 q1) he hpl
end
end L2
namespace HT
open PySem PyProof.Rows
section
open PySem.SeqAt
open PySem.MeetsSeq PySem.MeetsSeq2 PySem.MeetsSeq3
end
section
variable {prog:ic}{w:yd}{A:ye}{E:Da->ka->Prop}{s:ka}
theorem cat_tup{t b:ia}{vs ws:List Da}{Q:Da->ka->Prop}(ht:IsTup s.heap t vs.toArray)(hb:IsTup s.heap b ws.toArray)(hv:vs≠ [])(h1:ws= []->Q (.ref t) s)(h2:ws≠ []->Q (.ref s.heap.objs.size) {s with heap:=s.heap.push {cls:=.type "tuple",data:=.seq (vs++ws).toArray}})(hsz:vs.length+ws.length<=sizeLine):cb (jb prog w) A (yj .Add (.ref t) (.ref b)) Q E s:=by
 obtain⟨⟨cls,dd,data,sl⟩,ho,hc,n,hd⟩:=id ht;obtain⟨⟨cls2,dd2,data2,sl2⟩,ho2,hc2,n2,hd2⟩:=id hb;simp only at hc hd hc2 hd2;subst hc hd hc2 hd2;have e:vs.toArray++ws.toArray=(vs++ws).toArray:=by simp
 by_cases hw:ws= []
 .exact concat_meets ⟨_,ho,rfl⟩ ⟨_,ho2,rfl⟩ gu seq_tuple_add jo Go (bn _ _)
   (tuple_addW1 t b vs.toArray ws.toArray n n2 dd dd2 sl sl2 (by simpa using hv) (by simp[hw])) ⟨ho,ho2,h1 hw⟩
 .refine concat_meets ⟨_,ho,rfl⟩ ⟨_,ho2,rfl⟩ gu seq_tuple_add jo Go (bn _ _)
   (tuple_addW2 t b vs.toArray ws.toArray n n2 dd dd2 sl sl2 (by simpa using hv) (by simpa using hw) (by rw[qc,qc];exact hsz)) ⟨ho,ho2,?_⟩
  rw[e];exact h2 hw
def sIx(n d:Nat):Option Int->Nat
 |none=>d
 |some v=>if v<0 then(v+(n:Int)).toNat else min v.toNat n
theorem sIx_nat(n d k:Nat):sIx n d (some (k:Int))=min k n:=by
 show(if(k:Int)<0 then((k:Int)+(n:Int)).toNat else min (k:Int).toNat n)=min k n;rw[if_neg (by omega),tj]
end
end HT
namespace L2
open PySem PySem.Spec PyProof.Rows
abbrev TO:=St->Hp->(Option Int->Hp->Prop)->Prop
def PO(X:Cx)(e:Option nc)(t:TO):Prop:=
 ∀ (pins:List (ia×mh)) (s:ka) (σ:St) (H:Hp) (Q:Option Int->Hp->Prop),Inv X pins σ H s->t σ H Q->
  cb (jb X.prog X.w) X.A (evalPart e X.env) (λu s'=>∃ o H',Inv X pins σ H' s'/\IsPart u o/\Q o H') X.xe s
def FY:TO:=λ_ H Q=>Q none H
def Ja0(t:TE):TO:=λσ H Q=>t σ H λx H1=>∃ i,x=.int i/\Q (some i) H1
theorem intsAre_of{ns:List Int}:∀ {us:List Da},Vals (ns.map V.int) us->et us ns:=by
 induction ns with
 |nil=>intro us r;rw[tf]at r;cases r;exact .nil
 |cons n ns ih=>
  intro us r;rw[db]at r
  cases r with
  |cons r1 r2=>
   obtain⟨t,e⟩:=r1;subst e;exact .cons n t (ih r2)
variable{X:Cx}{e:nc}{pos:bh}{xs:List V}{us:List Da}
section
variable {te:TE}{lo hi:Option nc}{tl th:TO}{p2:bh}
theorem IX:PO X none FY:=by
 intro pins s σ H Q I h;rw[evalPart_none];exact kb ⟨none,H,I,.none,h⟩
theorem JX(h:PE X e te):PO X (some e) (Ja0 te):=by
 intro pins s σ H Q I hw;rw[evalPart_some];refine thn (h pins s σ H _ I hw) λu s1 ⟨x,H1,I1,r1,q1⟩=>?_;obtain⟨i,rfl,q⟩:=q1;obtain⟨t,rfl⟩:=r1;exact⟨some i,H1,I1,.int i t,q⟩
def SlR(X:Cx)(r:V->Option Int->Option Int->Hp->VK->Prop):Prop:=
 ∀ (pins:List (ia×mh)) (s:ka) (σ:St) (H:Hp) (x:V) (v vl vu:Da) (lo hi:Option Int) (sl:ia) (Q:VK),Inv X pins σ H s->RelV x v->s.heap.IsSliceOf sl vl vu .none->IsPart vl lo->IsPart vu hi->r x lo hi H Q->
  ∃ T id,typeLookup (.type T) "__getitem__"=pure (some (.builtin id))/\s.TypeIs v T/\cb (jb X.prog X.w) X.A (getItem v (.ref sl)) (EP X pins σ Q) X.xe s
def tSl(r:V->Option Int->Option Int->Hp->VK->Prop)(te:TE)(tl th:TO):TE:=λσ H Q=>te σ H λx H1=>tl σ H1 λl H2=>th σ H2 λu H3=>r x l u H3 Q
theorem IC{r:V->Option Int->Option Int->Hp->VK->Prop}(hr:SlR X r)(he:PE X e te)(hl:PO X lo tl)(hu:PO X hi th):PE X (.Subscript e (.Slice lo hi none p2) pos) (tSl r te tl th):=by
 intro pins s σ H Q I h;refine Subscript_ (thn (he pins s σ H _ I h) λv s1 ⟨x,H1,I1,r1,q1⟩=>?_);refine wpAny_Slice (thn (hl pins s1 σ H1 _ I1 q1) λvl s2 ⟨l,H2,I2,pl,q2⟩=>thn (hu pins s2 σ H2 _ I2 q2) λvu s3 ⟨u,H3,I3,pu,q3⟩=>?_);rw[evalPart_none];refine kb ?_;have I4:Inv X pins σ H3 {s3 with heap:=s3.heap.push {cls:=.type "slice",data:=.fields #[vl,vu,.none]}}:=I3.kept (t':=s3.toks) λb ob q=>ya _ q;obtain⟨T,id,hT,ht,hg⟩:=hr pins {s3 with heap:=s3.heap.push {cls:=.type "slice",data:=.fields #[vl,vu,.none]}} σ H3 x v vl vu l u s3.heap.objs.size Q I4 r1 (Heap.IsSliceOf.new ..) pl pu q3;show cb (jb X.prog X.w) X.A (wt e (.Slice lo hi none p2) v (.ref s3.heap.objs.size)) (EP X pins σ Q) X.xe {s3 with heap:=s3.heap.push {cls:=.type "slice",data:=.fields #[vl,vu,.none]}};exact tail_any (ops:= [.ref s3.heap.objs.size,v]) ht hT hg (by with_unfolding_all rfl)
def RJ(xs:List V)(lo hi:Option Int):List V:=(xs.drop (HT.sIx xs.length 0 lo)).take (HT.sIx xs.length xs.length hi-HT.sIx xs.length 0 lo)
theorem SA(xs:List V)(lo hi:Option Int):(RJ xs lo hi).length<=xs.length:=by
 unfold RJ;rw[js,iu];omega
def M9(K:td):R2:=λx y H Q=>∃ a b xs ys,x=.ref a/\y=.ref b/\SqT K H a xs/\SqT K H b ys/\xs≠ []/\xs.length+ys.length<=sizeLine/\
 (ys= []->Q (.ref a) H)/\(ys≠ []->∀ p,H p=none->Q (.ref p) (Lb H p (.tup (xs++ys))))
theorem Vals.nil_iff(r:Vals xs us):us= []↔xs= []:=by
 cases r with
 |nil=>simp
 |cons _ _=>simp
theorem MW:OpR X (yj .Add) (M9 X.K):=by
 intro pins s σ H x y v u Q I rx ry h;obtain⟨a,b,xs,ys,rfl,rfl,ha,hb,hx,hz,q1,q2⟩:=h;cases rx;cases ry;obtain⟨its,r1,p1,_⟩:=I.tuple ha;obtain⟨its2,r2,p2,_⟩:=I.tuple hb;refine HT.cat_tup p1 p2 (λz=>hx (r1.nil_iff.mp z)) (λz=>⟨.ref a,H,I,rfl,q1 (r2.nil_iff.mp z)⟩) (λz=>?_) (by rw[<-r1.length,<-r2.length];exact hz);refine⟨.ref s.heap.objs.size,_,I.laid (t':=s.toks) (o:=.tup (xs++ys)) (λb ob q=>ya _ q) (Uf _) ?_,rfl,q2 (λw=>z (r2.nil_iff.mpr w)) _ (I.hok.fresh (Uf _))⟩;exact⟨by rw[md];exact hz,_,r1.append r2,IsTup.new _ _⟩
end
def DZ(n:Nat)(i:Int):Option Nat:=if 0<=i then(if i<n then some i.toNat else none) else if -(n:Int)<=i then some (i+n).toNat else none
variable{α:Type}
def Ey(xs:List α)(i:Int):Option α:=(DZ xs.length i).bind λj=>xs[j]?
variable{n:Nat}{i:Int}
theorem PH{j:Nat}(h:DZ n i=some j):seqIndex? i n=some j/\j<n/\ -(n:Int)<=i/\i<n:=by
 unfold DZ at h;by_cases h0:0<=i
 .rw[if_pos h0]at h
  by_cases h1:i<n
  .rw[if_pos h1]at h
   have e:i.toNat=j:=jc h;exact⟨by rw[seqIndex_of h0 h1,e],by omega,by omega,h1⟩
  .rw[if_neg h1]at h;cases h
 .rw[if_neg h0]at h
  by_cases h1: -(n:Int)<=i
  .rw[if_pos h1]at h
   have e:(i+n).toNat=j:=jc h;exact⟨by rw[seqIndex_neg (by omega) h1,e],by omega,h1,by omega⟩
  .rw[if_neg h1]at h;cases h
theorem Fy{xs:List α}{v:α}(h:Ey xs i=some v):∃ j,seqIndex? i xs.length=some j/\xs[j]? =some v/\j<xs.length/\ -(xs.length:Int)<=i/\i<xs.length:=by
 unfold Ey at h;cases e:DZ xs.length i with
 |none=>rw[e]at h;cases h
 |some j=>
  rw[e]at h
  obtain⟨h1,h2,h3,h4⟩:=PH e;exact⟨j,h1,h,h2,h3,h4⟩
def Ki(b:nc):Prop:=∀ o i,subscripted b false o i=operate [o,i] (getItem o i)
def IxR(X:Cx)(r:R2):Prop:=
 ∀ (value slice:nc) (pins:List (ia×mh)) (s:ka) (σ:St) (H:Hp) (x y:V) (v u:Da) (Q:VK),Inv X pins σ H s->RelV x v->RelV y u->r x y H Q->
  subscripted slice false v u=operate [v,u] (getItem v u)->cb (jb X.prog X.w) X.A (wt value slice v u) (EP X pins σ Q) X.xe s
def PZ(X:Cx)(id:String)(r:V->List V->Hp->VK->Prop):Prop:=
 ∀ (pins:List (ia×mh)) (s:ka) (σ:St) (H:Hp) (x:V) (xs:List V) (v:Da) (us:List Da) (Q:VK),Inv X pins σ H s->RelV x v->Vals xs us->r x xs H Q->
  cb (jb X.prog X.w) X.A (call (.builtin id) (v::us)) (EP X pins σ Q) X.xe s
variable{pins:List (ia×mh)}{σ:St}{H:Hp}{s:ka}{ys:List V}{its its':List Da}{A:ye}{y x:V}{u v:Da}
section
variable {a b:nc}{ta tb:TE}
theorem IxR.or{r r':R2}(h:IxR X r)(h':IxR X r'):IxR X (λx y H Q=>r x y H Q\/r' x y H Q):=by
 intro value slice pins s σ H x y v u Q I rx ry q hs;rcases q with q|q
 .exact h value slice pins s σ H x y v u Q I rx ry q hs
 .exact h' value slice pins s σ H x y v u Q I rx ry q hs
theorem G9{r:R2}(hr:IxR X r)(ha:PE X a ta)(hb:PE X b tb)(hs:Ki b):PE X (.Subscript a b pos) (D7 r ta tb):=by
 intro pins s σ H Q I h;exact Subscript_ (PM ha hb I h λv u s2 x y H2 I2 rx ry q=>hr a b pins s2 σ H2 x y v u Q I2 rx ry q (hs _ _))
def O9(K:td):R2:=λx y H Q=>∃ p xs i v,x=.ref p/\y=.int i/\SqL K H p xs/\Ey xs i=some v/\Q v H
def Q9(K:td):R2:=λx y H Q=>∃ p xs i v,x=.ref p/\y=.int i/\SqT K H p xs/\Ey xs i=some v/\Q v H
def P9:R2:=λx y H Q=>∃ z i c,x=.str z/\y=.int i/\z.length<=sizeLine/\Ey z.cps.toList i=some c/\Q (.str ⟨#[c]⟩) H
theorem QV:IxR X (O9 X.K):=by
 intro value slice pins s σ H x y v u Q I rx ry h hs;obtain⟨p,xs,i,z,rfl,rfl,hq,he,q⟩:=h;cases rx;obtain⟨t,rfl⟩:=ry;obtain⟨its,r,pl,hz⟩:=I.list hq;obtain⟨j,h1,h2,h3,h4,h5⟩:=Fy he;obtain⟨w,ew,rw'⟩:=r.get h2;have hl:=r.length;have hn:=Hu;have fin:EP X pins σ Q w s:=⟨z,H,I,rw',q⟩
 by_cases h0:0<=i
 .have hj:i.toNat=j:=by
   rw[seqIndex_of h0 h5]at h1
   exact jc h1
  exact item_listR pl.isList h0 (by omega) (by rw[hj];simpa using ew) fin hs
 .have hj:(i+(its.toArray.size:Int)).toNat=j:=by
   rw[seqIndex_neg (by omega) h4]at h1
   rw[qc,<-hl];exact jc h1
  exact zu (x:=w) pl.isList.typeIs slot_list_getitem.lookup
   (wpAny_getItem_list_neg (Q:=λr s'=>r=w/\EP X pins σ Q r s') pl.isList (by omega) (by rw[qc]<;>omega) (by omega) (by rw[hj];simpa using ew) ⟨rfl,fin⟩) hs
theorem E3:IxR X (Q9 X.K):=by
 intro value slice pins s σ H x y v u Q I rx ry h hs;obtain⟨p,xs,i,z,rfl,rfl,hq,he,q⟩:=h;cases rx;obtain⟨t,rfl⟩:=ry;obtain⟨its,r,pl,hz⟩:=I.tuple hq;obtain⟨j,h1,h2,h3,h4,h5⟩:=Fy he;obtain⟨w,ew,rw'⟩:=r.get h2;have hl:=r.length;have hn:=Hu;have fin:EP X pins σ Q w s:=⟨z,H,I,rw',q⟩
 exact zu (x:=w) pl.typeIs slot_tuple_getitem.lookup
  (getItem_tuple (j:=j) (Q:=λr s'=>r=w/\EP X pins σ Q r s') pl (by omega) (by omega) (by rw[qc,<-hl];exact h1) (by simpa using ew) ⟨rfl,fin⟩) hs
theorem D3:IxR X P9:=by
 intro value slice pins s σ H x y v u Q I rx ry h hs;obtain⟨z,i,c,rfl,rfl,hz,he,q⟩:=h;obtain⟨t,rfl⟩:=rx;obtain⟨t',rfl⟩:=ry;obtain⟨j,h1,h2,h3,h4,h5⟩:=Fy he;have hl:z.cps.toList.length=z.length:=by simp[Str.length]
 rw[hl]at h1 h4 h5
 have hn:=Hu
 exact tail_any (dm s z t) slot_str_getitem.lookup (getItem_str (c:=c) (by
  have e1:decide (i< -(2^63:Int))=false:=decide_eq_false (by omega);have e2:decide (i>=2^63)=false:=decide_eq_false (by omega)
  rw[e1,e2,Bool.or_false]) (by rw[h1];simpa using h2) ⟨.str ⟨#[c]⟩,H,I.tok _,⟨_,rfl⟩,q⟩) hs
def rIx(K:td):R2:=λx y H Q=>O9 K x y H Q\/Q9 K x y H Q\/P9 x y H Q
theorem C3:IxR X (rIx X.K):=QV.or (E3.or D3)
theorem UE(its:List Da)(n j:Nat)(u:Da):Ev (·.setIfInBounds j u) {cls:=.type "list",data:=.seq its.toArray n}= {cls:=.type "list",data:=.seq (its.set j u).toArray n}:=by
 simp[Ev]
theorem Inv.lst{p:ia}(I:Inv X pins σ H s)(h:H p=some (.lst xs)):
  ∃ (its:List Da) (n:Nat),Vals xs its/\s.heap.get? p=some {cls:=.type "list",data:=.seq its.toArray n}/\xs.length<=sizeLine:=by
 obtain⟨z,its,n,r,e⟩:=I.hok p _ h;exact⟨its,n,r,e,z⟩
theorem Inv.lstUpd{p:ia}{n':Nat}{f:mh->mh}(I:Inv X pins σ H s)(h:H p=some (.lst xs))(ho:s.heap.get? p=some {cls:=.type "list",data:=.seq its.toArray n})(hf:f {cls:=.type "list",data:=.seq its.toArray n}= {cls:=.type "list",data:=.seq its'.toArray n'})(r:Vals ys its')(hz:ys.length<=sizeLine)(t:Nat):
  Inv X pins σ (Lb H p (.lst ys)) {s with heap:=s.heap.update p f,toks:=t}:=by
 have e:(s.heap.update p f).get? p=some {cls:=.type "list",data:=.seq its'.toArray n'}:=by
  rw[zi f ho (by rw[hf]<;>rfl),hf]
 refine I.write (x:=p) (e:=p) (by rw[h];trivial) (.inl rfl) (λb u hb q=>(ui _ _ (jg hb)).trans q) ⟨_,e⟩ ?_;exact⟨hz,its',n',r,e⟩
def S9:V->V->V->Hp->(Hp->Prop)->Prop:=λo i v H Q=>∃ p xs k j,o=.ref p/\i=.int k/\H p=some (.lst xs)/\DZ xs.length k=some j/\Q (Lb H p (.lst (xs.set j v)))
theorem VR:O7 X S9:=by
 intro pins s σ H o i v ov iv u Q I ro ri rv h;obtain⟨p,xs,k,j,rfl,rfl,hp,hj,q⟩:=h;cases ro;obtain⟨t,rfl⟩:=ri;obtain⟨its,n,r,ho,hz⟩:=I.lst hp;obtain⟨h1,h2,h3,h4⟩:=PH hj;have hl:=r.length;have hn:=Hu
 have I':Inv X pins σ (Lb H p (.lst (xs.set j v))) {s with heap:=s.heap.update p (Ev (·.setIfInBounds j u))}:=
  I.lstUpd hp ho (UE its n j u) (r.set rv j) (by rw[List.length_set];exact hz) s.toks
 by_cases h0:0<=k
 .have hk:k.toNat=j:=by
   rw[seqIndex_of h0 h4]at h1
   exact jc h1
  exact PySem.W.ki_setAt ho h0 (by omega) (by rw[qc,<-hl];exact h4) (by rw[hk];exact⟨_,I',q⟩)
 .have hk:(k+(its.toArray.size:Int)).toNat=j:=by
   rw[seqIndex_neg (by omega) h3]at h1
   rw[qc,<-hl];exact jc h1
  exact PySem.W.ki_setBack ho (by omega) (by rw[qc,<-hl];exact h3) (by omega) (by rw[hk];exact⟨_,I',q⟩)
theorem Vz(lo hi:Option Int)(n:Nat):(No lo hi none n).1=((HT.sIx n 0 lo:Nat):Int)/\(No lo hi none n).2.1=((HT.sIx n n hi:Nat):Int)/\(No lo hi none n).2.2=1:=by
 refine⟨?_,?_,rfl⟩
 .cases lo with
  |none=>simp[No,HT.sIx]
  |some i=>
   simp only[No,HT.sIx,Option.getD_none,show(1:Int)>0 by decide,if_true];by_cases h:i<0
   .simp only[h,if_true]<;>omega
   .simp only[h,if_false]<;>omega
 .cases hi with
  |none=>simp[No,HT.sIx]
  |some i=>
   simp only[No,HT.sIx,Option.getD_none,show(1:Int)>0 by decide,if_true];by_cases h:i<0
   .simp only[h,if_true]<;>omega
   .simp only[h,if_false]<;>omega
theorem Hw(its:List Da)(lo hi:Option Int):slicePick its.toArray lo hi none=((its.drop (HT.sIx its.length 0 lo)).take (HT.sIx its.length its.length hi-HT.sIx its.length 0 lo)).toArray:=by
 obtain⟨h1,h2,h3⟩:=Vz lo hi its.toArray.size;unfold slicePick;rw[h1,h2,h3];simp only[sliceRange_one,pick_run,qc]<;>rfl
def Tc0(K:td):V->Option Int->Option Int->Hp->VK->Prop:=λx lo hi H Q=>∃ a xs,x=.ref a/\SqL K H a xs/\∀ p,H p=none->Q (.ref p) (Lb H p (.lst (RJ xs lo hi)))
theorem CY:SlR X (Tc0 X.K):=by
 intro pins s σ H x v vl vu lo hi sl Q I rx hs pl pu h;obtain⟨a,xs,rfl,hx,q⟩:=h;cases rx;obtain⟨its,r,ht,hz⟩:=I.list hx;have hlen:=r.length;refine⟨"list",_,slot_list_getitem.lookup,ht.isList.typeIs,?_⟩;refine wpAny_getItem_list_slice ht.isList hs pl pu .none (by simp) ?_ (by rw[qc]<;>omega);rw[Hw,<-hlen];refine⟨.ref s.heap.objs.size,_,I.laid (t':=s.toks) (o:=.lst (RJ xs lo hi)) (λb ob q=>ya _ q) (Uf _) ?_,rfl,q _ (I.hok.fresh (Uf _))⟩;exact⟨bf (SA xs lo hi) hz,_,0,(r.drop (HT.sIx xs.length 0 lo)).take (HT.sIx xs.length xs.length hi-HT.sIx xs.length 0 lo),ue _ rfl⟩
def Ak:V->Bool
 | .non=>true
 | .bl _=>true
 | .int _=>true
 | .str _=>true
 |_=>false
def BB:V->V->Bool
 | .non,.non=>true
 | .bl a,.bl b=>a==b
 | .bl a,.int b=>(if a then 1 else 0)==b
 | .int a,.bl b=>a==(if b then 1 else 0)
 | .int a,.int b=>a==b
 | .str a,.str b=>a==b
 |_,_=>false
theorem R1(ry:RelV y u)(rx:RelV x v)(fy:Ak y=true)(fx:Ak x=true):SeqAt.EqAt A s u v (BB y x):=by
 cases y with
 |non=>
  cases ry;cases x with
  |non=>cases rx;exact SeqAt.EqAt.same _
  |bl b=>cases rx;exact SeqAt.EqAt.none_bool b
  |int b=>obtain⟨t,rfl⟩:=rx;exact SeqAt.EqAt.none_int b t
  |str b=>obtain⟨t,rfl⟩:=rx;exact SeqAt.EqAt.none_str b t
  |_=>exact absurd (show false=true from fx) xa
 |bl a=>
  cases ry;cases x with
  |non=>cases rx;exact SeqAt.EqAt.bool_none a
  |bl b=>cases rx;exact SeqAt.EqAt.bool_bool a b
  |int b=>obtain⟨t,rfl⟩:=rx;exact SeqAt.EqAt.bool_int a b t
  |str b=>obtain⟨t,rfl⟩:=rx;exact SeqAt.EqAt.bool_str a b t
  |_=>exact absurd (show false=true from fx) xa
 |int a=>
  obtain⟨t',rfl⟩:=ry;cases x with
  |non=>cases rx;exact SeqAt.EqAt.int_none a t'
  |bl b=>cases rx;exact SeqAt.EqAt.int_bool a t' b
  |int b=>obtain⟨t,rfl⟩:=rx;exact SeqAt.EqAt.int_int a t' b t
  |str b=>obtain⟨t,rfl⟩:=rx;exact SeqAt.EqAt.int_str a t' b t
  |_=>exact absurd (show false=true from fx) xa
 |str a=>
  obtain⟨t',rfl⟩:=ry;cases x with
  |non=>cases rx;exact SeqAt.EqAt.str_none a t'
  |bl b=>cases rx;exact SeqAt.EqAt.str_bool a t' b
  |int b=>obtain⟨t,rfl⟩:=rx;exact SeqAt.EqAt.str_int a t' b t
  |str b=>obtain⟨t,rfl⟩:=rx;exact SeqAt.EqAt.str_str a t' b t
  |_=>exact absurd (show false=true from fx) xa
 |_=>exact absurd (show false=true from fy) xa
def SN(x:V)(u:Da):Bool:=match u with
 | .none=>BB .non x
 | .bool b=>BB (.bl b) x
 | .int i _=>BB (.int i) x
 | .str z _=>BB (.str z) x
 |_=>false
theorem BE(r:RelV y u)(f:Ak y=true):SN x u=BB y x:=by
 cases y with
 |non=>cases r;rfl
 |bl b=>cases r;rfl
 |int i=>obtain⟨t,rfl⟩:=r;rfl
 |str z=>obtain⟨t,rfl⟩:=r;rfl
 |_=>exact absurd (show false=true from f) xa
theorem Cy{x:V}:∀ {xs:List V} {us:List Da},Vals xs us->xs.all Ak=true->us.any (SN x)=xs.any λy=>BB y x
 |_,_,.nil,_=>rfl
 |y::xs,u::us,.cons r t,f=>by
  rw[dn,qf]at f
  rw[xt,xt,BE r f.1,Cy t f.2]
theorem Xp{A:ye}{s:ka}{x:V}{v:Da}(rx:RelV x v)(fx:Ak x=true):∀ {xs:List V} {us:List Da},Vals xs us->xs.all Ak=true->∀ u∈us,SeqAt.EqAt A s u v (SN x u)
 |_,_,.nil,_=>λu hu=>by cases hu
 |y::xs,u::us,.cons r t,f=>λu' hu=>by
  rw[dn,qf]at f
  rcases xc.mp hu with rfl|hu
  .rw[BE r f.1];exact R1 r rx f.1 fx
  .exact Xp rx fx t f.2 u' hu
def inV(x:V)(xs:List V):Bool:=xs.any λy=>BB y x
def rIn(K:td)(neg:Bool):R2:=λx y H Q=>∃ p xs,y=.ref p/\(SqL K H p xs\/SqT K H p xs)/\Ak x=true/\xs.all Ak=true/\Q (.bl (if neg then !inV x xs else inV x xs)) H
theorem Lx:OpR X (yh .In) (rIn X.K false):=by
 intro pins s σ H x y v u Q I rx ry h;obtain⟨p,xs,rfl,hq,fx,fs,q⟩:=h;cases ry;rcases hq with hq|hq
 .obtain⟨its,r,pl,hz⟩:=I.list hq;refine SeqAt.in_listAt (SN x) pl.isList (λw hw=>Xp rx fx r fs w (by simpa using hw)) ⟨.bl _,H,I,rfl,?_⟩;rw[show its.toArray.any (SN x)=its.any (SN x) by simp,Cy r fs];exact q
 .obtain⟨its,r,pl,hz⟩:=I.tuple hq;refine SeqAt.in_tupleAt (SN x) pl (λw hw=>Xp rx fx r fs w (by simpa using hw)) ⟨.bl _,H,I,rfl,?_⟩;rw[show its.toArray.any (SN x)=its.any (SN x) by simp,Cy r fs];exact q
theorem CallR.or{f:Da}{r r':List V->Hp->VK->Prop}(h:CallR X f r)(h':CallR X f r'):CallR X f (λxs H Q=>r xs H Q\/r' xs H Q):=by
 intro pins s σ H xs us Q I rs q;rcases q with q|q
 .exact h pins s σ H xs us Q I rs q
 .exact h' pins s σ H xs us Q I rs q
theorem Hy:CallR X (.type "list") (λxs H Q=>∃ p ys,xs= [.ref p]/\(SqL X.K H p ys\/SqT X.K H p ys)/\∀ l,H l=none->Q (.ref l) (Lb H l (.lst ys))):=by
 intro pins s σ H xs us Q I r h;obtain⟨p,ys,rfl,hq,q⟩:=h;obtain⟨u,rfl,rx⟩:=vals1 r;cases rx
 have fin:∀ (its:List Da),Vals ys its->ys.length<=sizeLine->∀ (h':pd) (c':Nat),(∀ b o',s.heap.get? b=some o'->h'.get? b=some o')->
   h'.get? s.heap.objs.size=some {cls:=.type "list",dict:=none,data:=.seq its.toArray c',slots:= #[]}->EP X pins σ Q (.ref s.heap.objs.size) {s with heap:=h'}:=λits r' hz h' c' kp e=>
  ⟨.ref s.heap.objs.size,_,I.laid (t':=s.toks) kp (Uf _) (show ObjOk X.prog X.w _ h' _ (.lst ys) from⟨hz,its,c',r',e⟩),rfl,q _ (I.hok.fresh (Uf _))⟩
 rcases hq with hq|hq
 .obtain⟨its,r',pl,hz⟩:=I.list hq;have hlen:=r'.length;obtain⟨o,ho,hc,n,hd⟩:=pl.isList;exact call_list_seq p (.inl rfl) ho hc hd (λh' c' kp e=>fin its r' hz h' c' kp e) (by simp only[qc]<;>omega)
 .obtain⟨its,r',pl,hz⟩:=I.tuple hq;have hlen:=r'.length;obtain⟨o,ho,hc,n,hd⟩:=pl;exact call_list_seq p (.inr rfl) ho hc hd (λh' c' kp e=>fin its r' hz h' c' kp e) (by simp only[qc]<;>omega)
theorem Tv:CallR X (.type "tuple") (λxs H Q=>∃ p ys,xs= [.ref p]/\((SqL X.K H p ys/\∀ l,H l=none->Q (.ref l) (Lb H l (.tup ys)))\/(SqT X.K H p ys/\Q (.ref p) H))):=by
 intro pins s σ H xs us Q I r h;obtain⟨p,ys,rfl,h⟩:=h;obtain⟨u,rfl,rx⟩:=vals1 r;cases rx;rcases h with⟨hq,q⟩|⟨hq,q⟩
 .obtain⟨its,r',pl,hz⟩:=I.list hq;have hlen:=r'.length;refine call_tuple_list pl.isList (λh' kp=>?_) (by simp only[qc]<;>omega);have I1:Inv X pins σ H {s with heap:=h'}:=I.kept (t':=s.toks) kp
  have I2:Inv X pins σ (Lb H h'.objs.size (.tup ys)) {s with heap:=h'.push {cls:=.type "tuple",data:=.seq its.toArray}}:=
   I1.laid (t':=s.toks) (λb o e=>ya _ e) (Uf _) (show ObjOk X.prog X.w _ _ _ (.tup ys) from⟨hz,its,r',IsTup.new _ _⟩)
  exact⟨.ref h'.objs.size,_,I2,rfl,q _ (I1.hok.fresh (Uf _))⟩
 .obtain⟨its,r',pl,hz⟩:=I.tuple hq;exact call_tuple_same pl ⟨.ref p,H,I,rfl,q⟩
def tyV(K:td)(T:String)(x:V)(H:Hp):Prop:=match x with
 | .str _=>T="str"
 | .int _=>T="int"
 | .ref p=>(T="list"/\∃ xs,SqL K H p xs)\/(T="tuple"/\∃ o,K.lookup p=some o/\o.cls=.type "tuple"/\o.dict=none)\/
   (T="dict"/\((∃ kvs,H p=some (.dK kvs))\/∃ kvs,H p=some (.dT kvs)))\/(T="set"/\∃ S n,H p=some (.set S n))
 |_=>False
theorem M6{T:String}(I:Inv X pins σ H s)(r:RelV x v)(ty:tyV X.K T x H):
  s.TypeIs v T/\∀ a,v=.ref a->∃ ob,s.heap.get? a=some ob/\ob.dict=none:=by
 cases x with
 |str z=>
  obtain⟨t,rfl⟩:=r;cases (show T="str" from ty);exact⟨dm s z t,λ_ e=>nomatch e⟩
 |int i=>
  obtain⟨t,rfl⟩:=r;cases (show T="int" from ty);exact⟨typeIs_int s i t,λ_ e=>nomatch e⟩
 |ref p=>
  cases r;rcases ty with⟨rfl,xs,hq⟩|⟨rfl,o,hk,hc,hd⟩|⟨rfl,hk⟩|⟨rfl,S,n,hk⟩
  .obtain⟨its,_,pl,_⟩:=I.list hq;refine⟨pl.isList.typeIs,λa e=>?_⟩;cases e;obtain⟨o,n,e,c,hd,_⟩:=pl;exact⟨o,e,hd⟩
  .refine⟨⟨o,I.kIn p o hk,hc⟩,λa e=>?_⟩;cases e;exact⟨o,I.kIn _ o hk,hd⟩
  .have z:∃ o,s.heap.get? p=some o/\o.ExactDict:=by
    rcases hk with⟨kvs,hk⟩|⟨kvs,hk⟩
    .obtain⟨_,_,_,_,o,_,_,e,ex,_⟩:=I.hok p _ hk;exact⟨o,e,ex⟩
    .obtain⟨_,_,_,_,o,_,_,e,ex,_⟩:=I.hok p _ hk;exact⟨o,e,ex⟩
   obtain⟨o,e,ex⟩:=z;refine⟨⟨o,e,ex.1⟩,λa e2=>?_⟩;cases e2;exact⟨o,e,ex.2.1⟩
  .obtain⟨o,_,_,_,e,ex,_⟩:=I.hok p _ hk;refine⟨⟨o,e,ex.1⟩,λa e2=>?_⟩;cases e2;exact⟨o,e,ex.2.1⟩
 |_=>exact ud ty
def tBM(K:td)(T:String)(r:V->List V->Hp->VK->Prop)(to:TE)(t:TA):TE:=λσ H Q=>to σ H λx H1=>tyV K T x H1/\t σ H1 λxs H2=>r x xs H2 Q
variable {o:nc}{es:List nc}{to:TE}{t:TA}{name:ua}{apos cpos:bh}{T id:String}{r:V->List V->Hp->VK->Prop}
theorem As(pa:PlainAttrs T)(slot:Slot T name id)(hty:typeOf (.builtin id)=pure (.type "method_descriptor"))(hm:PZ X id r)(ho:PE X o to)(ha:PA X (e::es) t)(hbase:dg o name X.env (eval o X.env)=eval o X.env:=by rfl)(hfew:((yc cpos (Fa (e::es) X.env)).all (λx=> !x.1)&&(bj cpos (ig [] X.env)).all (λx=>x.1.isSome)
   &&decide ((e::es).length+([]:List li).length+(if([]:List li).isEmpty then 0 else 1)<30))=true:=by rfl)(hline:(apos.endLine==cpos.line)=true:=by rfl)(hs:Fa (e::es) X.env=(false,eval e X.env)::Fa es X.env:=by rfl)(hplain:(yc cpos (Fa es X.env)).any (·.1)=false:=by rfl):
  PE X (.Call (.Attribute o name apos) (e::es) [] cpos) (tBM X.K T r to t):=by
 intro pins s σ H Q I h;refine wpAny_Call_method_late hbase hfew hline rfl (thn (ho pins s σ H _ I h) λv s1 ⟨x,H1,I1,r1,ty,q1⟩=>?_);obtain⟨h1,h2⟩:=M6 I1 r1 ty;refine⟨T,id,pa,slot,hty,h1,h2,?_⟩;have hA:=ha cpos pins s1 σ H1 _ I1 q1;rw[hs]at hA ⊢
 refine Pv (by show(false||(yc cpos (Fa es X.env)).any (·.1))=false;rw[hplain]<;>rfl) (xp ?_);exact thn hA λus s2 ⟨vs,H2,I2,r2,q2⟩=>hm pins s2 σ H2 x vs v us Q I2 r1 r2 q2
/- xs.append(e),list.index on a module's tuple .. are PZ facts of 06m -/
end
def MtM(X:Cx)(id:String)(r:V->List V->Hp->VK->Prop):Prop:=
 ∀ (pins:List (ia×mh)) (s:ka) (σ:St) (H:Hp) (x:V) (xs:List V) (v:Da) (us:List Da) (Q:VK),Inv X pins σ H s->RelV x v->Vals xs us->r x xs H Q->
  cb (jb X.prog X.w) X.A (call (.builtin id) (v::us)) (EP X pins σ Q) X.xe s
theorem Vals.one:∀ {x:V} {us:List Da},Vals [x] us->∃ u,us= [u]/\RelV x u
 |_,_,.cons r .nil=>⟨_,rfl,r⟩
theorem Vals.two:∀ {x y:V} {us:List Da},Vals [x,y] us->∃ u v,us= [u,v]/\RelV x u/\RelV y v
 |_,_,_,.cons r (.cons q .nil)=>⟨_,_,rfl,r,q⟩
theorem Vals.rep(h:Vals xs us):∀ k:Nat,Vals (qb k xs).flatten (qb k us).flatten
 |0=>.nil
 |k+1=>by
  rw[ak,ak,ko,ko];exact Vals.append h (Vals.rep h k)
theorem foldl_rep(its:List Da):∀ (k:Nat) (acc:List Da),
  List.foldl (λx1 x2=>x1++x2) acc.toArray (qb k its.toArray)=(acc++(qb k its).flatten).toArray
 |0,acc=>by simp
 |k+1,acc=>by
  have e:acc.toArray++its.toArray=(acc++its).toArray:=by simp
  have e2:(acc++its)++(qb k its).flatten=acc++(qb (k+1) its).flatten:=by
   rw[ak,ko,xg]
  rw[<-e2,<-foldl_rep its k (acc++its),<-e,ak,Op]
variable{t':Nat}
section
variable {l b:ia}{zs:List V}
theorem Inv.lset{f:Array Da->Array Da}(I:Inv X pins σ H s)(hH:H l=some (.lst xs))(e:s.heap.get? l=some {cls:=.type "list",data:=.seq its.toArray n})(hf:f its.toArray=its'.toArray)(hv:Vals ys its')(hz:ys.length<=sizeLine):
  Inv X pins σ (Lb H l (.lst ys)) {s with heap:=s.heap.update l (Ev f),toks:=t'}:=by
 have q:=PySem.IsL.update e f;rw[hf]at q
 refine I.write (x:=l) (e:=l) (by rw[hH];exact trivial) (.inl rfl) (λb' u hb hu=>(ui s.heap (Ev f) (jg hb)).trans hu) ⟨_,q⟩ ?_;exact⟨hz,its',_,hv,q⟩
theorem Inv.lnew(I:Inv X pins σ H s)(hv:Vals ys its)(hz:ys.length<=sizeLine):
  Inv X pins σ (Lb H s.heap.objs.size (.lst ys)) {s with heap:=s.heap.push {cls:=.type "list",data:=.seq its.toArray},toks:=t'}:=
 I.laid (λ_ _ q=>ya _ q) (Uf _) ⟨hz,its,0,hv,ue _ rfl⟩
theorem Inv.fresh(I:Inv X pins σ H s):H s.heap.objs.size=none:=I.hok.fresh (Uf _)
theorem Inv.lstM(I:Inv X pins σ H s)(hH:H l=some (.lst xs)):xs.length<=sizeLine/\∃ (its:List Da) (n:Nat),Vals xs its/\xs.length=its.length/\s.heap.get? l=some {cls:=.type "list",data:=.seq its.toArray n}:=by
 obtain⟨z,its,n,r,e⟩:=I.hok l _ hH;exact⟨z,its,n,r,r.length,e⟩
theorem FQ(h:n<=sizeLine):gn n=false:=by
 unfold gn;exact decide_eq_false (by omega)
end
def NX:V->List V->Hp->VK->Prop:=λx vs H Q=>∃ l xs y,x=.ref l/\vs= [y]/\H l=some (.lst xs)/\xs.length<sizeLine/\Q .non (Lb H l (.lst (xs++ [y])))
theorem Br:MtM X "list.append" NX:=by
 intro pins s σ H x vs v us Q I rx rv h;obtain⟨l,xs,y,rfl,rfl,hH,hz,q⟩:=h;cases rx;obtain⟨u,rfl,ru⟩:=rv.one;obtain⟨z,its,n,r,hl,e⟩:=I.lstM hH;refine cj F.slot_list_append ⟨_,e,rfl⟩ F.entry_list_append (F.args_list_append_2 _ _) (PySem.list_append l its.toArray n u (by rw[qc];omega)) ⟨e,?_⟩;refine⟨.non,_,I.lset (its':=its++ [u]) hH e (by simp) (r.append (.cons ru .nil)) ?_,rfl,q⟩;rw[md,aj];omega
def OX:V->List V->Hp->VK->Prop:=λx vs H Q=>∃ l b xs zs,x=.ref l/\vs= [.ref b]/\H l=some (.lst xs)/\H b=some (.lst zs)/\xs.length+zs.length<=sizeLine/\Q .non (Lb H l (.lst (xs++zs)))
theorem NK:MtM X "list.extend" OX:=by
 intro pins s σ H x vs v us Q I rx rv h;obtain⟨l,b,xs,zs,rfl,rfl,hH,hB,hz,q⟩:=h;cases rx;obtain⟨u,rfl,ru⟩:=rv.one;cases ru;obtain⟨z,its,n,r,hl,e⟩:=I.lstM hH;obtain⟨z2,its2,n2,r2,hl2,e2⟩:=I.lstM hB;have hsz:its.toArray.size+its2.toArray.size<=sizeLine:=by rw[qc,qc];omega
 have hlong:¬ (!its.toArray.isEmpty&&gn (its.toArray.size+its2.toArray.size))=true:=by
  rw[FQ hsz,Bool.and_false];exact xa
 refine cj F.slot_list_extend ⟨_,e,rfl⟩ F.entry_list_extend (F.args_list_extend_2 _ _)
  (AutoSeq1.list_extend_list_list_0 l its.toArray n b its2.toArray n2 hlong (by rw[qc];omega) (by omega)) ⟨e,e2,?_⟩
 refine⟨.non,_,I.lset (its':=its++its2) hH e (by simp) (r.append r2) ?_,rfl,q⟩;rw[md];omega
theorem SH(xs:List α)(k:Nat):(qb k xs).flatten.length=k*xs.length:=by
 induction k with
 |zero=>simp
 |succ k ih=>rw[ak,ko,md,ih,Nat.succ_mul,Nat.add_comm]
section
variable {prog:ic}{w:yd}{E:Da->ka->Prop}
end
end L2
namespace Att
open PySem PySem.W PySem.Calls PyProof.Rows
theorem Qs{P:Params}{h:pd}:∀ (ns:List Int) (vs:List Da),WellAll P h vs (ns.map WData.int)->et vs ns:=by
 intro ns
 induction ns with
 |nil=>
  intro vs w;rw[tf]at w
  cases w;exact .nil
 |cons n ns ih=>
  intro vs w;rw[db]at w
  cases w with
  |cons a b=>
   cases a;exact .cons _ _ (ih _ b)
variable{l:OpenLaw}{n:Nat}
theorem LL(hn:l.most=some n){P:Params}{h:pd}{args:List WData}{vals:List Da}(hpre:l.row.toRowW.claim.pre args=true)(hwl:WellAll P h vals args):
  ∃ a vs ns,vals= [Value.ref a]/\args= [WData.list (ns.map WData.int)]/\h.get? a=some {cls:=.type "list",data:=.seq vs.toArray}/\et vs ns/\ns.length<=n:=by
 have hsh:WShape.hasAll [] args [.list .int]=true:=(pre_splitW hpre).1;have hc:l.pre.holds [] {args:=args}=true:=(pre_splitW hpre).2;obtain⟨d,r,rfl,h1,h2⟩:=hasAllW_cons hsh;obtain rfl:=hasAllW_nil h2;obtain⟨xs,rfl,h3⟩:=hasW_list h1;obtain⟨ns,rfl⟩:=items_int h3
 have hlen:ns.length<=n:=by
  unfold OpenLaw.pre at hc
  have h4:(WTm.not (.lt (.lit (.int (n:Int))) (.len (.arg 0)))).holds [] {args:= [.list (ns.map .int)]}=true:=by
   have h4:=(holds_andW hc).1;rw[hn]at h4
   exact h4
  have h5:=condW_of h4 (w_not (w_lt w_lit (w_len_list (w_arg rfl))));rw[Db]at h5
  refine ju λq=>?_;have q':(n:Int)<((ns.length:Nat):Int):=by omega
  first
   |(rw[decide_eq_true q']at h5;exact absurd h5 (by decide))
   |(simp at h5;omega)
 cases hwl with
 |cons w1 w2=>
  cases w2;cases w1 with
  |list ho hall=>exact⟨_,_,ns,rfl,rfl,ho,Qs ns _ hall,hlen⟩
theorem AL(l:OpenLaw)(args:List WData):l.row.toRowW.claim.post args (.bool true) args=true:=
 postW_of (r:=l.row.toRowW) (X:=(true==true))
  (show WShape.has [] (.bool true) .bool=true by first|rfl|decide|simp[WShape.has,WShape.arms,WShape.armsAll])
  (show(WTm.eq .res (.lit (.bool true))).value [] {args:=args,res:=some (.bool true),after:=args}=some (.bool (true==true)) from w_eq_bool (w_res rfl) w_lit) rfl
theorem attach_call{q:ic}{loose:List ua}{XP:(ua->Option Da)->pd->Prop}{YP:yd->pd->Prop}{d:DefRec}(hn:l.most=some n)(hdf:d.params.defaults= [])(call:∀ (w:yd) (s₀ s₁:ka) (mg mb:ua->Option Da) (fa:ia) (o:mh) (pm cd doc:Da) (a:ia) (vs:List Da) (ns:List Int),
   Ground q loose [] XP w s₀ mg mb s₁.heap->YP w s₁.heap->
   s₁.heap.get? fa=some o->o.data=.func (docDef d.name d.params d.body d.scope pm cd doc)->s₁.heap.CodeRec cd d.name->mg d.name=some (.ref fa)->
   s₁.heap.get? a=some {cls:=.type "list",data:=.seq vs.toArray}->et vs ns->ns.length<=n->s₁.gens= #[]->
   kj (jb l.prog w) callerA (.call (.ref fa) ⟨[.ref a],[]⟩) (λr s'=>r=.ok (.ret (.bool true))/\OldK s₁.heap s'.heap/\s'.os=s₁.os/\gj s'.gens) s₁):
  WalkO q loose XP YP l.row.toRowW d [] (λf vs=>PySem.call f vs):=by
 intro w s₀ s₁ mg mb G Y fa o pm cd doc dV kV ho hd hcd hD hmg hg args vals as hpre hlay hrd hwl hlo;obtain rfl:dV=.none:=Dflts.none hD hdf;obtain rfl:kV=.none:=Dflts.noKw hD;obtain⟨a,vs,ns,rfl,rfl,hobj,hints,hlen⟩:=LL hn hpre hwl;refine enter_call (ii (call w s₀ s₁ mg mb fa o pm cd doc a vs ns G Y ho (fd_plain hd) hcd hmg hobj hints hlen hg) λr s' hq=>?_);obtain⟨rfl,h2,h3,h4⟩:=hq;exact⟨.inl ⟨.bool true,.bool true,[],rfl,λ_=>rfl,.bool true,AL l _,λ_=>⟨List.Pairwise.nil,λ_ hm=>(nomatch hm)⟩⟩,h2,h3,h4⟩
section
variable {prog:ic}{w:yd}{A:ye}{E:Da->ka->Prop}{s:ka}{K:td}
end
end Att
namespace L2
open PySem PySem.Spec PyProof.Rows
theorem vals_ints:∀ {vs:List Da} {ns:List Int},et vs ns->Vals (ns.map V.int) vs
 |_,_,.nil=>.nil
 |_,_,.cons n t h=>.cons ⟨t,rfl⟩ (vals_ints h)
def QZ(H:Hp):Prop:=∀ b,H b=none\/∃ o xs,H b=some (.frz o (.lst xs))
variable{k:Nat}{x:ua}
theorem JP{P:ic}{w:yd}{K:td}{mg mb:ua->Option Da}{CX:Yx}{fa a:ia}{fd:lg}{sp:Sp}{s₁:ka}{vs:List Da}{ns:List Int}(KX:K.In s₁.heap)(hns:s₁.heap.Ns aa mg)(hb:s₁.heap.Ns builtinsNs mb)(hbb:∀ x:ua,x≠"__name__"->mb x=ug x)(hlim:s₁.heap.NoLimit)(hg:s₁.gens= #[])(ha:s₁.heap.get? a=some {cls:=.type "list",data:=.seq vs.toArray})(hi:et vs ns)(hl:ns.length<=sizeLine)(hr:Room k callerA)(F:∀ base:pd,K.In base->base.Ns aa mg->FnOk P w K mg base CX k fa fd [x] sp)(hbind:∀ (s:ka) (u:Da),xu s fd ⟨[u],[]⟩ [(x,u)])(hsp:∀ H:Hp,QZ H->SqL K H a (ns.map V.int)->sp [.ref a] H (λv _=>v=.bl true) λ_ _ _=>False)(hCX:∀ H e s',CX [] H s₁ (λ_ _ _=>False) e s'->False):
  kj (jb P w) callerA (.call (.ref fa) ⟨[.ref a],[]⟩) (λr s'=>r=.ok (.ret (.bool true))/\OldK s₁.heap s'.heap/\s'.os=s₁.os/\gj s'.gens) s₁:=by
 have rv:=vals_ints hi;have lenV:=hi.length
 have core:∀ H:Hp,QZ H->SqL K H a (ns.map V.int)->HOk P w H s₁.heap->(∀ b,H b≠none->b=a)->(H a≠none->K.lookup a=none)->
   kj (jb P w) callerA (.call (.ref fa) ⟨[.ref a],[]⟩) (λr s'=>r=.ok (.ret (.bool true))/\OldK s₁.heap s'.heap/\s'.os=s₁.os/\gj s'.gens) s₁:=by
  intro H hO hS hok hA hK;have base_of:∀ {b:ia} {o:mh},s₁.heap.get? b=some o->H b=none->(Yy s₁.heap H).get? b=some o:=λe n=>MO e n
  have noA:∀ {b:ia} {o:mh} {es:Array yq} {ep:Nat},s₁.heap.get? b=some o->o.data=.dict es ep->H b=none:=λ{b o es ep} e d=>by
   cases q:H b with
   |none=>rfl
   |some u=>
    have e':b=a:=hA b (by rw[q];simp);subst e';rw[ha]at e;cases e
    have d':Data.seq vs.toArray _=Data.dict es ep:=d;cases d'
  have nsK:∀ {b:ia} {m:ua->Option Da},s₁.heap.Ns b m->(Yy s₁.heap H).Ns b m:=λ{b m} ⟨o,es,ep,e,d,r⟩=>⟨o,es,ep,base_of e (noA e d),d,r⟩
  have hKb:K.In (Yy s₁.heap H):=λb o e=>base_of (KX b o e) (by
   cases q:H b with
   |none=>rfl
   |some u=>
    have e':b=a:=hA b (by rw[q];simp);subst e'
    rw[hK (by rw[q];simp)]at e;cases e)
  have hM:Mod K mg (Yy s₁.heap H):=⟨hKb,nsK hns,⟨mb,nsK hb,hbb⟩,let ⟨mc,h1,h2⟩:=hlim;⟨mc,nsK h1,h2⟩⟩
  have e0:Env0 P w K mg (Yy s₁.heap H) callerA [] s₁ H:=⟨rfl,hM,λb o e=>HW e,Nat.le_of_eq (AK _ _),trivial,λb hb=>absurd (show b∈([]:List ia) from hb) (by simp),hok,.of_eq hg⟩
  refine ii ((F _ hKb (nsK hns)).run callerA [] s₁ H ⟨[.ref a],[]⟩ [.ref a] [.ref a] _ _ hr e0 (hbind s₁ (.ref a)) (.cons rfl .nil) (hsp H hO hS)) λr s' h=>?_;cases r with
  |error e=>exact(hCX H e s' h).elim
  |ok fl=>
   cases fl with
   |next=>exact ud h
   |brk=>exact ud h
   |cont=>exact ud h
   |ret u=>
    obtain⟨v,H',os,bare,un,hok',r',q⟩:=h;have q':v=.bl true:=q;subst q';obtain rfl:u=Value.bool true:=r';refine⟨rfl,OldK.of_keep λb o e=>?_,os,bare⟩;cases q:H b with
    |none=>exact un.keep b o e q (by intro z;exact absurd (show b∈([]:List ia) from z) (by simp)) (by simp)
    |some u=>
     rcases hO b with z|⟨ob,xs,z⟩
     .rw[q]at z;cases z
     .have z2:=un.frzs b ob _ z;obtain⟨e1,_⟩:=hok b _ z;obtain⟨e2,_⟩:=hok' b _ z2;rw[e]at e1;cases e1
      exact e2
 cases hk:K.lookup a with
 |some o=>
  have e:=KX a o hk;rw[ha]at e
  cases e;refine core (λ_=>none) (λ_=>.inl rfl) (.inr ⟨_,vs.toArray,_,hk,rfl,rfl,rfl,by rw[qc,lenV];exact hl,by simpa using rv⟩) (λb u z=>by have z':(none:Option HO)=some u:=z;cases z') (λb z=>absurd rfl z) λz=>absurd rfl z
 |none=>
  refine core (λb=>if b=a then some (.frz {cls:=.type "list",data:=.seq vs.toArray} (.lst (ns.map V.int))) else none) (λb=>?_) (.inl (.inr ⟨{cls:=.type "list",data:=.seq vs.toArray},if_pos rfl⟩)) (λb u z=>?_) (λb z=>?_) λ_=>hk
  .by_cases hb:b=a
   .exact .inr ⟨_,_,if_pos hb⟩
   .exact .inl (if_neg hb)
  .by_cases hb:b=a
   .have z':=(if_pos hb).symm.trans z;cases z';subst hb;exact⟨ha,by rw[Db];exact hl,vs,_,rv,ha⟩
   .have z':=(if_neg hb).symm.trans z;cases z'
  .by_cases hb:b=a
   .exact hb
   .exact absurd (if_neg hb) z
theorem walk_of{l:PySem.W.OpenLaw}{n:Nat}{q:ic}{loose:List ua}{XP:(ua->Option Da)->pd->Prop}{YP:yd->pd->Prop}{d:DefRec}{K:Params->td}{CX:yd->Yx}{sp:yd->Sp}(hn:l.most=some n)(hn2:n<=sizeLine)(hdf:d.params.defaults= [])(hr:Room k callerA)(hY:∀ (w:yd) (h:pd),YP w h->(K w.params).In h)(F:∀ (w:yd) (mg:ua->Option Da) (fa:ia) (h:pd),(K w.params).In h->h.Ns aa mg->mg d.name=some (.ref fa)->
   ∃ fd:lg,(∀ (s:ka) (u:Da),xu s fd ⟨[u],[]⟩ [(x,u)])/\
    ∀ base:pd,(K w.params).In base->base.Ns aa mg->FnOk l.prog w (K w.params) mg base (CX w) k fa fd [x] (sp w))(hsp:∀ (w:yd) (H:Hp) (a:ia) (ns:List Int),ns.length<=n->QZ H->SqL (K w.params) H a (ns.map V.int)->sp w [.ref a] H (λv _=>v=.bl true) λ_ _ _=>False)(hCX:∀ (w:yd) (H:Hp) (s:ka) (e:Da) (s':ka),CX w [] H s (λ_ _ _=>False) e s'->False):
  PySem.W.WalkO q loose XP YP l.row.toRowW d [] (λf vs=>PySem.call f vs):=by
 refine Att.attach_call hn hdf λw s₀ s₁ mg mb fa o pm cd doc a vs ns G Y ho hd hcd hmg hobj hints hlen hg=>?_;have KX:=hY w _ Y;obtain⟨fd,hb,hF⟩:=F w mg fa _ KX G.T.g hmg;exact JP KX G.T.g G.T.b G.T.builtins G.T.nolimit hg hobj hints (bf hlen hn2) hr hF hb (λH hO hS=>hsp w H a ns hlen hO hS) λH e s'=>hCX w H s₁ e s'
end L2
/- THE LAST THEOREM (shape; LID, My.* are yours):
   My.Adr: a structure of the addresses that your layer names (classes, functions); My.Txt K t: a structure (Prop) of the equations over K;
   My.txt_mk : {K} {implicit addresses ..} (e1 : je K aa "law" = some (some (.ref f))) (e2 : K.lookup f = some ⟨oc, od,.func (mj "law" "law" params body scope dV kV doc pm an cdv ct), sl⟩) (e3 : gg K cdv "law" = true) .. : ∃ t, My.Txt K t
(the tactic k_is has no namespace: write k_is) -/
namespace L2
open PySem PySem.Spec PyProof.Rows
def LH(s:yf)(j:Nat):yf:=match s with
 | .ClassDef _ _ _ body _ _ _ _ _ _ _=>body.getD j (.Pass ⟨0,0,0,0⟩)
 |_=>.Pass ⟨0,0,0,0⟩
def Jb(s:yf):Arguments:=match s with
 | .FunctionDef _ a _ _ _ _ _ _ _ _=>a
 |_=> {posonlyargs:= [],args:= [],vararg:=none,kwonlyargs:= [],kw_defaults:= [],kwarg:=none,defaults:= []}
def Eb(s:yf):List yf:=match s with
 | .FunctionDef _ _ b _ _ _ _ _ _ _=>b
 |_=> []
def Ca(s:yf):io:=match s with
 | .FunctionDef _ _ _ _ _ _ sc _ _ _=>sc
 |_=> {kind:=.function,names:= [],isGenerator:=false,isCoroutine:=false}
abbrev Fp:Yx:=λ_ _ _ _ _ _=>False
abbrev E0:XK:=λ_ _ _=>False
variable{X:Cx}
theorem GZ:So Fp X E0:=λ_ _ _ _ _ _ _ h=>h.elim
structure Fun(K:td)(x qual:ua)(st:yf)(f:ia)(fd:lg):Prop where
 ex:∃ (oc:Da) (od:Option ia) (kV doc pm:Da) (an:Option ia) (cdv ct:Da) (osl:Array (Option Da)),
  fd=mj x qual (Jb st) (Eb st) (Ca st) .none kV doc pm an cdv ct/\K.lookup f=some ⟨oc,od,.func fd,osl⟩/\gg K cdv qual=true
 kp:kf K (.ref f)=true
variable{x qual:ua}{st:yf}{f:ia}{fd:lg}{ps:List ua}
section
variable {P:ic}{w:yd}{K:td}{mg:ua->Option Da}{base:pd}
theorem Fun.ok{N:List ua}{k:Nat}{sp:Sp}(F:Fun K x qual st f fd)(S:FnScope N ps (Ca st))(len:∀ vs H Q E,sp vs H Q E->vs.length=ps.length)(hbody:∀ (cdv:Da) (A:ye) (outer:List cq) (s:ka) (H:Hp) (vs:List V) (Q:VK) (E:XK),Room k (A.deeper (zj qual (Ca st) s.heap.objs.size f cdv))->sp vs H Q E->
   ∃ t,PSs (Xl Fp P w K mg base N qual (Ca st) f cdv A outer s H E).nox (Eb st) t/\t {nx:=λ_ H'=>Q .non H',rt:=Q} (start N vs) H):FnOk P w K mg base Fp (k+1) f fd ps sp:=by
 obtain⟨oc,od,kV,doc,pm,an,cdv,ct,osl,rfl,lk,hcd⟩:=F.ex;refine AZ lk hcd S len λA outer s H vs Q E hr hsp=>?_;obtain⟨t,h,q⟩:=hbody cdv A outer s H vs Q E hr hsp;exact⟨t,h.nox,q⟩
theorem Fun.binds(F:Fun K x qual st f fd)(h:∀ (kV doc pm:Da) (an:Option ia) (cdv ct:Da) (us:List Da),us.length=ps.length->bindArgs (mj x qual (Jb st) (Eb st) (Ca st) .none kV doc pm an cdv ct) ⟨us,[]⟩=pure (ps.zip us)):Binds K fd ps []:=by
 obtain⟨oc,od,kV,doc,pm,an,cdv,ct,osl,rfl,lk,hcd⟩:=F.ex;exact .all (h kV doc pm an cdv ct)
theorem Dc{oc:Da}{od an:Option ia}{osl:Array (Option Da)}{kV doc pm cdv ct:Da}(l:K.lookup f=some ⟨oc,od,.func (mj x qual (Jb st) (Eb st) (Ca st) .none kV doc pm an cdv ct),osl⟩)(c:gg K cdv qual=true)(k:kf K (.ref f)=true):Fun K x qual st f (mj x qual (Jb st) (Eb st) (Ca st) .none kV doc pm an cdv ct):=⟨⟨oc,od,kV,doc,pm,an,cdv,ct,osl,rfl,l,c⟩,k⟩
end
theorem pv(i:Nat){pos:bh}(hN:X.N[i]? =some x:=by rfl)(hv:Jw X.env.scope x:=by first|exact Or.inl rfl|exact Or.inr (Or.inl rfl)|exact Or.inr (Or.inr rfl))(hd:(x==("__debug__":ua))=false:=by decide)(hcd:(x==("__classdict__":ua))=false:=by decide):PE X (.Name x pos) (La0 i):=Ph hN hv hd hcd
def Same(H H':Hp):Prop:=∀ b o,H b=some o->H' b=some o
theorem Same.refl(H:Hp):Same H H:=λ_ _ h=>h
variable{H:Hp}
theorem Same.trans{H1 H2:Hp}(a:Same H H1)(b:Same H1 H2):Same H H2:=λc o h=>b c o (a c o h)
theorem Same.free{H':Hp}(e:Same H H'){l:ia}(h:H' l=Option.none):H l=Option.none:=by
 cases q:H l with
 |none=>rfl
 |some o=>
  rw[e l o q]at h
  cases h
end L2
set_option maxHeartbeats 4000000
namespace L3
open PySem
def J6:List (ia×bh×ua):= []
open PySem.Spec PyProof.Rows L2
inductive D where
 |non|bl (b:Bool)|int (i:Int)|str (x:ua)|tup (ds:List D)|lst (ds:List D)|dct (ks:List Jd) (ds:List D)|exc (c:ua) (ds:List D)|obj (c:ua) (ks:List ua) (ds:List D)
inductive Res(α:Type) where
 |ok (a:α)|ex (c:ua) (fs:List D)|stuck
variable{α β:Type}
def Res.bind(r:Res α)(k:α->Res β):Res β:=match r with
 | .ok a=>k a
 | .ex c fs=>.ex c fs
 | .stuck=>.stuck
theorem Res.bind_ok(a:α)(k:α->Res β):(Res.ok a).bind k=k a:=rfl
theorem Res.bind_ex(c:ua)(fs:List D)(k:α->Res β):(Res.ex c fs).bind k=.ex c fs:=rfl
theorem Res.bind_stuck(k:α->Res β):(Res.stuck:Res α).bind k=.stuck:=rfl
inductive Ch where
 |d (x:D)|l (ds:List D)|q (ks:List Jd) (ds:List D)
inductive Tp where
 |lst|dct (ks:List Jd)|ins (c:ua) (ks:List ua)|tup
inductive S where
 |d (x:D)|o (ds:List D)|q (ks:List Jd) (ds:List D)|w (dss:List (List D))|k (t:Tp) (cs:List Ch)|m (l:List (Option Jd×Int))
def WT:Tp->Prop
 | .tup=>False
 |_=>True
def DJ:Ch->Prop
 | .d _=>False
 |_=>True
def BK:HO->List V
 | .lst xs=>xs
 | .tup xs=>xs
 | .dK kvs=>kvs.map (·.2)
 | .ins _ _ fs=>fs.map (·.2)
 |_=> []
def TpOk(K:td):Tp->HO->Prop
 | .lst,.lst _=>True
 | .tup,.tup _=>True
 | .dct ks,.dK kvs=>kvs.map (·.1)=ks
 | .ins c ks,.ins C _ fs=>je K aa c=some (some (.ref C))/\fs.map (·.1)=ks
 |_,_=>False
def Ow:S->Prop
 | .d _=>False
 | .k t _=>WT t
 |_=>True
def Ro:HO->Prop
 | .lst _=>True
 | .dN _=>True
 | .dK _=>True
 | .ins _ _ _=>True
 |_=>False
abbrev Ha:=List (Option S)
abbrev Dx:=Option ia×Bool
def ExcAt(a:ia)(C:Da)(dx:Dx):pd->Prop:=λh=>∃ o vs,h.get? a=some o/\o.cls=C/\o.dict=dx.1/\o.data=.fields vs/\(dx.2=true->vs[2]? =some .none)
def UR:D->Option V
 | .non=>some .non
 | .bl b=>some (.bl b)
 | .int i=>some (.int i)
 | .str x=>some (.str x)
 |_=>none
def ExV(H:Hp)(x:D)(v:V):Prop:=UR x=some v\/∃ ds a o xs,x=.lst ds/\v=.ref a/\H a=some (.frz o (.lst xs))/\ds.map UR=xs.map some
def ExVs(H:Hp):List D->List V->Prop
 | [],[]=>True
 |x::ds,v::vs=>ExV H x v/\ExVs H ds vs
 |_,_=>False
def ExD(H:Hp)(dx:Option ia)(ns vs:List D):Prop:=∃ d kvs,dx=some d/\H d=some (.xd kvs)/\ns=kvs.map (λp=>D.str p.1)/\ExVs H vs (kvs.map (·.2))
def ExF0(H:Hp)(dx:Dx):List D->Prop
 | []=>True
 | .tup ns::vs=>ExD H dx.1 ns vs
 |_=>False
def ExF(H:Hp)(dx:Dx):List D->Prop
 | .non::fs=>ExF0 H dx fs
 |fs=>dx.2=true/\ExF0 H dx fs
variable{H H':Hp}
theorem ExVs.to(k:∀ b o u,H b=some (.frz o u)->H' b=some (.frz o u)):∀ {ds:List D} {vs:List V},ExVs H ds vs->ExVs H' ds vs
 | [],[],h=>h
 |_::_,_::_,⟨h,t⟩=>⟨by
   rcases h with h|⟨ds,a,o,xs,e1,e2,e3,e4⟩
   .exact .inl h
   .exact .inr ⟨ds,a,o,xs,e1,e2,k _ _ _ e3,e4⟩,t.to k⟩
 | [],_::_,h=>h.elim
 |_::_,[],h=>h.elim
theorem ExD.to{dx:Option ia}{ns vs:List D}(k:∀ b o u,H b=some (.frz o u)->H' b=some (.frz o u))(k2:∀ b kvs,H b=some (.xd kvs)->H' b=some (.xd kvs))(h:ExD H dx ns vs):ExD H' dx ns vs:=
 let ⟨d,kvs,e1,e2,e3,e4⟩:=h
 ⟨d,kvs,e1,k2 _ _ e2,e3,e4.to k⟩
variable{dx:Dx}
theorem ExF0.to(k:∀ b o u,H b=some (.frz o u)->H' b=some (.frz o u))(k2:∀ b kvs,H b=some (.xd kvs)->H' b=some (.xd kvs)){fs:List D}(h:ExF0 H dx fs):ExF0 H' dx fs:=by
 cases fs with
 |nil=>trivial
 |cons y vs=>
  cases y with
  |tup ns=>exact ExD.to k k2 h
  |_=>exact h.elim
theorem ExF.to(k:∀ b o u,H b=some (.frz o u)->H' b=some (.frz o u))(k2:∀ b kvs,H b=some (.xd kvs)->H' b=some (.xd kvs)){fs:List D}(h:ExF H dx fs):ExF H' dx fs:=by
 cases fs with
 |nil=>exact h
 |cons y vs=>
  cases y with
  |non=>exact ExF0.to (fs:=vs) k k2 h
  |tup ns=>exact⟨h.1,ExF0.to (fs:=.tup ns::vs) k k2 h.2⟩
  |_=>exact h.2.elim
abbrev WS:=ia->Prop
section
variable (K:td)(W:WS)(H:Hp)
def LR(a:ia)(xs:List V):Prop:=(H a=some (.lst xs)/\¬ W a)\/((∃ o,H a=some (.frz o (.lst xs)))\/∃ (o:mh) (its:Array Da) (n:Nat),K.lookup a=some o/\o.cls=.type "list"/\o.dict=none/\o.data=.seq its n/\its.size<=sizeLine/\Vals xs its.toList)
mutual
def Has:D->V->Prop
 | .non,v=>v=.non
 | .bl b,v=>v=.bl b
 | .int i,v=>v=.int i
 | .str x,v=>v=.str x
 | .tup ds,v=>∃ a xs,v=.ref a/\SqT K H a xs/\HasL ds xs
 | .lst ds,v=>∃ a xs,v=.ref a/\LR K W H a xs/\HasL ds xs
 | .dct ks ds,v=>∃ a kvs,v=.ref a/\(∃ o,H a=some (.frz o (.dK kvs)))/\kvs.map (·.1)=ks/\HasL ds (kvs.map (·.2))
 | .exc c fs,v=>∃ a C dx,v=.ref a/\je K aa c=some (some C)/\H a=some (.ext (ExcAt a C dx))/\ExF H dx fs
 | .obj c ks ds,v=>∃ a C dx fs,v=.ref a/\je K aa c=some (some (.ref C))/\H a=some (.ins C dx fs)/\¬ W a/\fs.map (·.1)=ks/\HasL ds (fs.map (·.2))
def HasL:List D->List V->Prop
 | [],xs=>xs= []
 |d::ds,xs=>∃ x r,xs=x::r/\Has d x/\HasL ds r
end
end
variable{K:td}{W:WS}{a:ia}{xs:List V}
theorem LR.sq(h:LR K W H a xs):SqL K H a xs:=by
 rcases h with⟨h,_⟩|⟨o,h⟩|h
 .exact .inl (.inl h)
 .exact .inl (.inr ⟨o,h⟩)
 .exact .inr h
def Yj(W:WS)(H H':Hp):Prop:=∀ b o,H b=some o->¬ W b->H' b=some o
structure WL(W:WS)(H:Hp):Prop where
 own:∀ b,W b->∃ o,H b=some o/\Ro o
 tab:∀ q∈J6,H q.1=some (.tab q.2.1 q.2.2)
instance {W:WS}{H:Hp}:CoeFun (WL W H) (λ_=>∀ b,W b->∃ o,H b=some o/\Ro o):=⟨WL.own⟩
theorem Same.keep(h:Same H H'):Yj W H H':=λb o e _=>h b o e
theorem Lv(k:Yj W H H')(w:WL W H)(h:SqT K H a xs):SqT K H' a xs:=by
 have nw:∀ o,H a=some o->¬ Ro o->¬ W a:=λo e n z=>by
  obtain⟨o',e',m⟩:=w a z;rw[e]at e'
  cases e';exact n m
 rcases h with(h|⟨o,h⟩)|h
 .exact .inl (.inl (k _ _ h (nw _ h λz=>z)))
 .exact .inl (.inr ⟨o,k _ _ h (nw _ h λz=>z)⟩)
 .exact .inr h
variable{W':WS}
theorem LR.keep(k:Yj W H H')(w:WL W H)(hw:∀ b,W' b->W b\/H b=none)(h:LR K W H a xs):LR K W' H' a xs:=by
 rcases h with⟨h,n⟩|⟨o,h⟩|h
 .refine .inl ⟨k _ _ h n,λz=>?_⟩;rcases hw a z with z|z
  .exact n z
  .rw[h]at z;cases z
 .refine .inr (.inl ⟨o,k _ _ h λz=>?_⟩);obtain⟨o',e',m⟩:=w a z;rw[h]at e';cases e';exact m
 .exact .inr (.inr h)
section
variable {K:td}{W W':WS}{H H':Hp}
mutual
theorem Has.keep(k:Yj W H H')(w:WL W H)(hw:∀ b,W' b->W b\/H b=none):∀ {d:D} {v:V},Has K W H d v->Has K W' H' d v
 | .non,_,h=>by rw[Has]at h ⊢;exact h
 | .bl _,_,h=>by rw[Has]at h ⊢;exact h
 | .int _,_,h=>by rw[Has]at h ⊢;exact h
 | .str _,_,h=>by rw[Has]at h ⊢;exact h
 | .tup ds,_,h=>by
  rw[Has]at h ⊢
  obtain⟨a,xs,e,q,r⟩:=h;exact⟨a,xs,e,Lv k w q,HasL.keep k w hw r⟩
 | .lst ds,_,h=>by
  rw[Has]at h ⊢
  obtain⟨a,xs,e,q,r⟩:=h;exact⟨a,xs,e,q.keep k w hw,HasL.keep k w hw r⟩
 | .dct ks ds,_,h=>by
  rw[Has]at h ⊢
  obtain⟨a,kvs,e,⟨o,q⟩,m,r⟩:=h;refine⟨a,kvs,e,⟨o,k _ _ q λz=>?_⟩,m,HasL.keep k w hw r⟩;obtain⟨o',e',m'⟩:=w a z;rw[q]at e';cases e';exact m'
 | .exc _ _,_,h=>by
  rw[Has]at h ⊢
  obtain⟨a,C,dx,e,n,q,f⟩:=h
  have nw:∀ b o,H b=some o->¬ Ro o->¬ W b:=λb o q n z=>by
   obtain⟨o',e',m'⟩:=w b z;rw[q]at e';cases e';exact n m'
  exact⟨a,C,dx,e,n,k _ _ q (nw _ _ q λz=>z),f.to (λb o u q=>k _ _ q (nw _ _ q λz=>z)) λb kvs q=>k _ _ q (nw _ _ q λz=>z)⟩
 | .obj _ _ ds,_,h=>by
  rw[Has]at h ⊢
  obtain⟨a,C,dx,fs,e,n,q,nw,m,r⟩:=h;refine⟨a,C,dx,fs,e,n,k _ _ q nw,λz=>?_,m,HasL.keep k w hw r⟩;rcases hw a z with z|z
  .exact nw z
  .rw[q]at z;cases z
theorem HasL.keep(k:Yj W H H')(w:WL W H)(hw:∀ b,W' b->W b\/H b=none):∀ {ds:List D} {xs:List V},HasL K W H ds xs->HasL K W' H' ds xs
 | [],_,h=>by rw[HasL]at h ⊢;exact h
 |d::ds,_,h=>by
  rw[HasL]at h ⊢
  obtain⟨x,r,e,q,t⟩:=h;exact⟨x,r,e,Has.keep k w hw q,HasL.keep k w hw t⟩
end
theorem Has.same{d:D}{v:V}(h:Has K W H d v)(k:Same H H')(w:WL W H):Has K W H' d v:=Has.keep (Same.keep k) w (λ_ z=>.inl z) h
theorem HasL.same{d:List D}{v:List V}(h:HasL K W H d v)(k:Same H H')(w:WL W H):HasL K W H' d v:=HasL.keep (Same.keep k) w (λ_ z=>.inl z) h
theorem HasL.length:∀ {ds:List D} {xs:List V},HasL K W H ds xs->ds.length=xs.length
 | [],_,h=>by rw[HasL]at h;rw[h];rfl
 |d::ds,_,h=>by
  rw[HasL]at h
  obtain⟨x,r,e,q,t⟩:=h;rw[e,ba,ba,HasL.length t]
theorem HasL.get:∀ {ds:List D} {xs:List V} {i:Nat} {d:D},HasL K W H ds xs->ds[i]? =some d->∃ x,xs[i]? =some x/\Has K W H d x
 | [],_,_,_,_,e=>by simp at e
 |d::ds,_,0,_,h,e=>by
  rw[HasL]at h
  obtain⟨x,r,rfl,q,t⟩:=h;simp at e;subst e;exact⟨x,rfl,q⟩
 |d::ds,_,i+1,_,h,e=>by
  rw[HasL]at h
  obtain⟨x,r,rfl,q,t⟩:=h;obtain⟨y,h1,h2⟩:=HasL.get (i:=i) t (by simpa using e);exact⟨y,by simpa using h1,h2⟩
theorem HasL.at'{ds:List D}{xs:List V}{i:Nat}{x:V}(h:HasL K W H ds xs)(e:xs[i]? =some x):∃ d,ds[i]? =some d/\Has K W H d x:=by
 have hl:=h.length;have hi:i<ds.length:=by rw[hl];exact(pb.mp e).1
 obtain⟨y,h1,h2⟩:=h.get (qd hi);rw[e]at h1;cases h1
 exact⟨_,qd hi,h2⟩
theorem HasL.nil:HasL K W H [] []:=by rw[HasL]
theorem HasL.cons{d:D}{ds:List D}{x:V}{xs:List V}(h:Has K W H d x)(t:HasL K W H ds xs):HasL K W H (d::ds) (x::xs):=by rw[HasL];exact⟨x,xs,rfl,h,t⟩
theorem HasL.append:∀ {ds es:List D} {xs ys:List V},HasL K W H ds xs->HasL K W H es ys->HasL K W H (ds++es) (xs++ys)
 | [],_,_,_,h,t=>by rw[HasL]at h;subst h;exact t
 |d::ds,_,_,_,h,t=>by
  rw[HasL]at h
  obtain⟨x,r,rfl,q,s⟩:=h;exact HasL.cons q (HasL.append s t)
theorem HasL.take:∀ {ds:List D} {xs:List V} (n:Nat),HasL K W H ds xs->HasL K W H (ds.take n) (xs.take n)
 | [],_,n,h=>by rw[HasL]at h;subst h;simp[HasL]
 |d::ds,_,0,h=>by simp[HasL]
 |d::ds,_,n+1,h=>by
  rw[HasL]at h
  obtain⟨x,r,rfl,q,s⟩:=h;exact HasL.cons q (HasL.take n s)
theorem HasL.drop:∀ {ds:List D} {xs:List V} (n:Nat),HasL K W H ds xs->HasL K W H (ds.drop n) (xs.drop n)
 | [],_,n,h=>by rw[HasL]at h;subst h;simp[HasL]
 |d::ds,_,0,h=>h
 |d::ds,_,n+1,h=>by
  rw[HasL]at h
  obtain⟨x,r,rfl,q,s⟩:=h;exact HasL.drop n s
theorem HasL.snoc{ds:List D}{xs:List V}{d:D}{x:V}(h:HasL K W H ds xs)(t:Has K W H d x):HasL K W H (ds++ [d]) (xs++ [x]):=h.append (HasL.cons t HasL.nil)
theorem HasL.set:∀ {ds:List D} {xs:List V} (i:Nat) {d:D} {x:V},HasL K W H ds xs->Has K W H d x->HasL K W H (ds.set i d) (xs.set i x)
 | [],_,n,_,_,h,_=>by rw[HasL]at h;subst h;simp[HasL]
 |e::ds,_,0,_,_,h,t=>by
  rw[HasL]at h
  obtain⟨y,r,rfl,q,s⟩:=h;exact HasL.cons t s
 |e::ds,_,i+1,_,_,h,t=>by
  rw[HasL]at h
  obtain⟨y,r,rfl,q,s⟩:=h;exact HasL.cons q (HasL.set i s t)
theorem HasL.ints{ns:List Int}:HasL K W H (ns.map D.int) (ns.map V.int):=by
 induction ns with
 |nil=>exact HasL.nil
 |cons n ns ih=>exact HasL.cons (by rw[Has]) ih
end
def ChHas(K:td)(H₀:Hp)(W:WS)(H:Hp):Ch->V->Prop
 | .d x,v=>Has K W H x v
 | .l ds,v=>∃ b xs,v=.ref b/\W b/\H₀ b=none/\H b=some (.lst xs)/\HasL K W H ds xs
 | .q ks ds,v=>∃ b kvs,v=.ref b/\W b/\H₀ b=none/\H b=some (.dK kvs)/\kvs.map (·.1)=ks/\HasL K W H ds (kvs.map (·.2))
def Hb0(a:ia)(cs:List Ch)(vs:List V):Prop:=∀ (i:Nat) (c:Ch) (b:ia),cs[i]? =some c->DJ c->vs[i]? =some (.ref b)->b≠a/\∀ (j:Nat) (c':Ch),j≠i->cs[j]? =some c'->DJ c'->vs[j]? ≠some (.ref b)
structure FrOk(W₀:WS)(H₀:Hp)(W:WS)(H:Hp):Prop where
 ext:Same H₀ H
 sub:∀ b,W₀ b->W b
 wl:WL W H
 wl0:WL W₀ H₀
def SlotHas(K:td)(W₀:WS)(H₀:Hp)(W:WS)(H:Hp):S->V->Prop
 | .d x,v=>Has K W H x v
 | .o ds,v=>∃ a xs,v=.ref a/\W a/\H₀ a=none/\H a=some (.lst xs)/\HasL K W H ds xs
 | .q ks ds,v=>∃ a kvs,v=.ref a/\W a/\H₀ a=none/\H a=some (.dK kvs)/\kvs.map (·.1)=ks/\HasL K W H ds (kvs.map (·.2))
 | .w dss,v=>∃ (a:ia) (bs:List ia),v=.ref a/\W a/\H₀ a=none/\H a=some (.lst (bs.map V.ref))/\bs.Nodup/\a∉bs/\bs.length=dss.length/\∀ (k:Nat) (b:ia) (ds:List D),bs[k]? =some b->dss[k]? =some ds->W b/\H₀ b=none/\∃ xs,H b=some (.lst xs)/\HasL K W H ds xs
 | .m l,v=>∃ a,v=.ref a/\W a/\H₀ a=none/\H a=some (.dN l)
 | .k t cs,v=>∃ (a:ia) (ob:HO),v=.ref a/\H a=some ob/\TpOk K t ob/\(WT t->W a/\H₀ a=none)/\cs.length=(BK ob).length/\Hb0 a cs (BK ob)/\∀ (j:Nat) (c:Ch) (x:V),cs[j]? =some c->(BK ob)[j]? =some x->ChHas K H₀ W H c x
def Owns(H:Hp):S->V->ia->Prop
 | .d _,_,_=>False
 | .w _,v,b=>v=.ref b\/∃ (a:ia) (bs:List ia),v=.ref a/\H a=some (.lst (bs.map V.ref))/\b∈bs
 | .k t cs,v,b=>(WT t/\v=.ref b)\/∃ (a:ia) (ob:HO) (j:Nat) (c:Ch),v=.ref a/\H a=some ob/\cs[j]? =some c/\DJ c/\(BK ob)[j]? =some (.ref b)
 |_,v,b=>v=.ref b
structure StHas(K:td)(W₀:WS)(H₀:Hp)(W:WS)(H:Hp)(σ:L2.St)(δ:Ha):Prop where
 fr:FrOk W₀ H₀ W H
 len:σ.length=δ.length
 at':∀ (i:Nat) (s:S),δ[i]? =some (some s)->∃ v,σ[i]? =some (some v)/\SlotHas K W₀ H₀ W H s v
 ap:∀ (i j:Nat) (s t:S) (u v:V) (b:ia),i≠j->δ[i]? =some (some s)->δ[j]? =some (some t)->σ[i]? =some (some u)->σ[j]? =some (some v)->Owns H s u b->¬ Owns H t v b
variable{W₀ N:WS}{H₀:Hp}{σ:L2.St}{δ:Ha}{ob:HO}{v:V}{s sl so:S}{b:ia}{i:Nat}{x:D}{ds es:List D}{ys:List V}
theorem WL.same(w:WL W H)(k:Same H H'):WL W H':=⟨λb z=>let ⟨xs,e,m⟩:=w b z;⟨xs,k _ _ e,m⟩,λq hq=>k _ _ (w.tab q hq)⟩
theorem WL.noW(w:WL W H)(hW:W a){q:ia×bh×ua}(hq:q∈J6):q.1≠a:=λz=>by
 obtain⟨o,e,m⟩:=w a hW;rw[<-z,w.tab q hq]at e;cases e;exact m
theorem FrOk.same(f:FrOk W₀ H₀ W H)(k:Same H H'):FrOk W₀ H₀ W H':=⟨f.ext.trans k,f.sub,f.wl.same k,f.wl0⟩
theorem TpOk.mut{t:Tp}(h:TpOk K t ob)(m:WT t):Ro ob:=by
 cases t<;>cases ob<;>first|exact h.elim|exact m.elim|trivial
theorem TpOk.tup{t:Tp}(h:TpOk K t ob)(m:¬ WT t):∃ xs,ob=.tup xs:=by
 cases t<;>cases ob<;>first|exact h.elim|exact(m trivial).elim|exact⟨_,rfl⟩
theorem ChHas.same{c:Ch}(w:WL W H)(k:Same H H')(h:ChHas K H₀ W H c v):ChHas K H₀ W H' c v:=by
 cases c with
 |d x=>exact Has.same h k w
 |l ds=>
  obtain⟨a,xs,e,h1,h2,h3,h4⟩:=h;exact⟨a,xs,e,h1,h2,k _ _ h3,h4.same k w⟩
 |q ks ds=>
  obtain⟨a,xs,e,h1,h2,h3,h4,h5⟩:=h;exact⟨a,xs,e,h1,h2,k _ _ h3,h4,h5.same k w⟩
theorem SlotHas.same(w:WL W H)(k:Same H H')(h:SlotHas K W₀ H₀ W H s v):SlotHas K W₀ H₀ W H' s v:=by
 cases s with
 |d x=>exact Has.same h k w
 |o ds=>
  obtain⟨a,xs,e,h1,h2,h3,h4⟩:=h;exact⟨a,xs,e,h1,h2,k _ _ h3,h4.same k w⟩
 |q ks ds=>
  obtain⟨a,xs,e,h1,h2,h3,h4,h5⟩:=h;exact⟨a,xs,e,h1,h2,k _ _ h3,h4,h5.same k w⟩
 |w dss=>
  obtain⟨a,bs,e,h1,h2,h3,h4,h5,h6,h7⟩:=h;exact⟨a,bs,e,h1,h2,k _ _ h3,h4,h5,h6,λj b ds e1 e2=>let ⟨g1,g2,xs,g3,g4⟩:=h7 j b ds e1 e2;⟨g1,g2,xs,k _ _ g3,g4.same k w⟩⟩
 |m l=>
  obtain⟨a,e,h1,h2,h3⟩:=h;exact⟨a,e,h1,h2,k _ _ h3⟩
 |k t cs=>
  obtain⟨a,ob,e,h1,h2,h3,h4,h5,h6⟩:=h;exact⟨a,ob,e,k _ _ h1,h2,h3,h4,h5,λj c x e1 e2=>(h6 j c x e1 e2).same w k⟩
theorem Cv:∀ {bs cs:List ia},bs.map V.ref=cs.map V.ref->bs=cs
 | [],[],_=>rfl
 | [],_::_,h=>by cases h
 |_::_,[],h=>by cases h
 |b::bs,c::cs,h=>by
  rw[db,db]at h
  injection h with h1 h2
  injection h1 with h1
  rw[h1,Cv h2]
theorem Owns.back(h:SlotHas K W₀ H₀ W H s v)(k:∀ a o,v=.ref a->H a=some o->(Owns H s v a/\Ro o)\/(∃ xs,o=.tup xs)->H' a=some o)(o:Owns H' s v b):Owns H s v b:=by
 cases s with
 |d x=>exact o
 |o ds=>exact o
 |q ks ds=>exact o
 |m l=>exact o
 |w dss=>
  rcases o with o|⟨a,bs,e,hb,m⟩
  .exact .inl o
  .obtain⟨a',bs',e',_,_,h3,_⟩:=h;rw[e]at e';cases e'
   have:=k a _ e h3 (.inl ⟨.inl e,trivial⟩);rw[hb]at this
   injection this with this
   injection this with this
   rw[Cv this]at m
   exact .inr ⟨a,bs',e,h3,m⟩
 |k t cs=>
  rcases o with o|⟨a,ob,j,c,e,hb,hc,co,hj⟩
  .exact .inl o
  .obtain⟨a',ob',e',h1,h2,_⟩:=h;rw[e]at e';cases e'
   have:=k a ob' e h1 (by
    by_cases m:WT t
    .exact .inl ⟨.inl ⟨m,e⟩,h2.mut m⟩
    .exact .inr (h2.tup m))
   rw[hb]at this;cases this
   exact .inr ⟨a,ob,j,c,e,h1,hc,co,hj⟩
theorem owo(ds:List D):Ow (.o ds):=trivial
theorem owq(ks:List Jd)(ds:List D):Ow (.q ks ds):=trivial
theorem SlotHas.mv(w:WL W H)(kk:Yj W H H')(hw:∀ b,W' b->W b\/H b=none)(hq:∀ b o,Owns H s v b->W b->H₀ b=none->H b=some o->Ro o->W' b/\H' b=some o)(h:SlotHas K W₀ H₀ W H s v):SlotHas K W₀ H₀ W' H' s v:=by
 cases s with
 |d x=>exact Has.keep kk w hw h
 |o ds=>
  obtain⟨a,xs,e,h1,h2,h3,h4⟩:=h;obtain⟨g1,g2⟩:=hq a _ e h1 h2 h3 trivial;exact⟨a,xs,e,g1,h2,g2,HasL.keep kk w hw h4⟩
 |q ks ds=>
  obtain⟨a,xs,e,h1,h2,h3,h4,h5⟩:=h;obtain⟨g1,g2⟩:=hq a _ e h1 h2 h3 trivial;exact⟨a,xs,e,g1,h2,g2,h4,HasL.keep kk w hw h5⟩
 |w dss=>
  obtain⟨a,bs,e,h1,h2,h3,h4,h5,h6,h7⟩:=h;obtain⟨g1,g2⟩:=hq a _ (.inl e) h1 h2 h3 trivial;refine⟨a,bs,e,g1,h2,g2,h4,h5,h6,λj b ds e1 e2=>?_⟩;obtain⟨f1,f2,xs,f3,f4⟩:=h7 j b ds e1 e2;obtain⟨g3,g4⟩:=hq b _ (.inr ⟨a,bs,e,h3,mi e1⟩) f1 f2 f3 trivial;exact⟨g3,f2,xs,g4,HasL.keep kk w hw f4⟩
 |m l=>
  obtain⟨a,e,h1,h2,h3⟩:=h;obtain⟨g1,g2⟩:=hq a _ e h1 h2 h3 trivial;exact⟨a,e,g1,h2,g2⟩
 |k t cs=>
  obtain⟨a,ob,e,h1,h2,h3,h4,h5,h6⟩:=h
  have top:H' a=some ob/\(WT t->W' a/\H₀ a=none):=by
   by_cases m:WT t
   .obtain⟨g1,g2⟩:=hq a ob (.inl ⟨m,e⟩) (h3 m).1 (h3 m).2 h1 (h2.mut m);exact⟨g2,λ_=>⟨g1,(h3 m).2⟩⟩
   .refine⟨kk _ _ h1 λz=>?_,λz=>(m z).elim⟩;obtain⟨xs,rfl⟩:=h2.tup m;obtain⟨o',e',mo⟩:=w a z;rw[h1]at e';cases e';exact mo
  refine⟨a,ob,e,top.1,h2,top.2,h4,h5,λj c x e1 e2=>?_⟩;have hc:=h6 j c x e1 e2;cases c with
  |d y=>exact Has.keep kk w hw hc
  |l ds=>
   obtain⟨b,xs,rfl,f1,f2,f3,f4⟩:=hc;obtain⟨g1,g2⟩:=hq b _ (.inr ⟨a,ob,j,_,e,h1,e1,trivial,e2⟩) f1 f2 f3 trivial;exact⟨b,xs,rfl,g1,f2,g2,HasL.keep kk w hw f4⟩
  |q ks ds=>
   obtain⟨b,xs,rfl,f1,f2,f3,f4,f5⟩:=hc;obtain⟨g1,g2⟩:=hq b _ (.inr ⟨a,ob,j,_,e,h1,e1,trivial,e2⟩) f1 f2 f3 trivial;exact⟨b,xs,rfl,g1,f2,g2,f4,HasL.keep kk w hw f5⟩
theorem SlotHas.own(h:SlotHas K W₀ H₀ W H s v)(o:Ow s):∃ a ob,v=.ref a/\W a/\H₀ a=none/\H a=some ob/\Ro ob:=by
 cases s with
 |d x=>exact o.elim
 |o ds=>
  obtain⟨a,xs,e,h1,h2,h3,h4⟩:=h;exact⟨a,_,e,h1,h2,h3,trivial⟩
 |q ks ds=>
  obtain⟨a,xs,e,h1,h2,h3,h4,h5⟩:=h;exact⟨a,_,e,h1,h2,h3,trivial⟩
 |w dss=>
  obtain⟨a,bs,e,h1,h2,h3,_⟩:=h;exact⟨a,_,e,h1,h2,h3,trivial⟩
 |m l=>
  obtain⟨a,e,h1,h2,h3⟩:=h;exact⟨a,_,e,h1,h2,h3,trivial⟩
 |k t cs=>
  obtain⟨a,ob,e,h1,h2,h3,_⟩:=h;exact⟨a,ob,e,(h3 o).1,(h3 o).2,h1,h2.mut o⟩
theorem SlotHas.owns(h:SlotHas K W₀ H₀ W H s v)(o:Owns H s v b):W b/\H₀ b=none/\∃ ob,H b=some ob/\Ro ob:=by
 cases s with
 |d x=>exact o.elim
 |o ds=>
  obtain⟨a,xs,e,h1,h2,h3,h4⟩:=h;have o':v=.ref b:=o;rw[e]at o';cases o'
  exact⟨h1,h2,_,h3,trivial⟩
 |q ks ds=>
  obtain⟨a,xs,e,h1,h2,h3,h4⟩:=h;have o':v=.ref b:=o;rw[e]at o';cases o'
  exact⟨h1,h2,_,h3,trivial⟩
 |w dss=>
  obtain⟨a,bs,e,h1,h2,h3,h4,h5,h6,h7⟩:=h;rcases o with o|⟨a',bs',e',hb,m⟩
  .rw[e]at o;cases o
   exact⟨h1,h2,_,h3,trivial⟩
  .rw[e]at e';cases e'
   rw[h3]at hb
   injection hb with hb
   injection hb with hb
   rw[<-Cv hb]at m
   obtain⟨k,hk⟩:=List.mem_iff_getElem?.mp m;have hl:k<dss.length:=by rw[<-h6];exact(pb.mp hk).1
   obtain⟨f1,f2,xs,f3,f4⟩:=h7 k b _ hk (qd hl);exact⟨f1,f2,_,f3,trivial⟩
 |m l=>
  obtain⟨a,e,h1,h2,h3⟩:=h;have o':v=.ref b:=o;rw[e]at o';cases o'
  exact⟨h1,h2,_,h3,trivial⟩
 |k t cs=>
  obtain⟨a,ob,e,h1,h2,h3,h4,h5,h6⟩:=h;rcases o with⟨m,o⟩|⟨a',ob',j,c,e',hb,hc,co,hj⟩
  .rw[e]at o;cases o
   exact⟨(h3 m).1,(h3 m).2,ob,h1,h2.mut m⟩
  .rw[e]at e';cases e'
   rw[h1]at hb;cases hb
   have:=h6 j c _ hc hj;cases c with
   |d y=>exact co.elim
   |l ds=>
    obtain⟨b',xs,e2,f1,f2,f3,f4⟩:=this;cases e2;exact⟨f1,f2,_,f3,trivial⟩
   |q ks ds=>
    obtain⟨b',xs,e2,f1,f2,f3,f4⟩:=this;cases e2;exact⟨f1,f2,_,f3,trivial⟩
theorem Ow.owns(o:Ow s):Owns H s (.ref a) a:=by
 cases s with
 |d x=>exact o.elim
 |o ds=>exact rfl
 |q ks ds=>exact rfl
 |w dss=>exact .inl rfl
 |m l=>exact rfl
 |k t cs=>exact .inl ⟨o,rfl⟩
theorem StHas.same(h:StHas K W₀ H₀ W H σ δ)(k:Same H H'):StHas K W₀ H₀ W H' σ δ:=
 ⟨h.fr.same k,h.len,λi s e=>let ⟨v,h1,h2⟩:=h.at' i s e;⟨v,h1,h2.same h.fr.wl k⟩,λi j s t u v b ij e1 e2 e3 e4 o1 o2=>by
  obtain⟨u',f1,f2⟩:=h.at' i s e1;obtain⟨v',f3,f4⟩:=h.at' j t e2;rw[e3]at f1;cases f1
  rw[e4]at f3;cases f3
  exact h.ap i j s t u v b ij e1 e2 e3 e4 (Owns.back f2 (λa o _ z _=>k _ _ z) o1) (Owns.back f4 (λa o _ z _=>k _ _ z) o2)⟩
theorem StHas.set(h:StHas K W₀ H₀ W H σ δ)(q:Has K W H x v):StHas K W₀ H₀ W H (σ.set i (some v)) (δ.set i (some (.d x))):=by
 refine⟨h.fr,by simp[h.len],λj s e=>?_,λj k s1 s2 u u' a hjk e1 e2 e3 e4 os ot=>?_⟩
 .by_cases hj:i=j
  .subst hj;rw[bi]at e ⊢
   cases q':δ[i]? with
   |none=>rw[q']at e;cases e
   |some z=>
    rw[q']at e
    have e':some (S.d x)=some s:=jc e;cases e';have hi:i<σ.length:=by rw[h.len];exact(pb.mp q').1
    exact⟨v,by rw[qd hi];rfl,q⟩
  .rw[zc hj]at e ⊢
   exact h.at' j s e
 .have hj:i≠j:=by
   rintro rfl;rw[bi]at e1
   cases q':δ[i]? with
   |none=>rw[q']at e1;cases e1
   |some z=>rw[q']at e1;cases e1;exact os
  have hk:i≠k:=by
   rintro rfl;rw[bi]at e2
   cases q':δ[i]? with
   |none=>rw[q']at e2;cases e2
   |some z=>rw[q']at e2;cases e2;exact ot
  rw[zc hj]at e1 e3
  rw[zc hk]at e2 e4
  exact h.ap j k s1 s2 u u' a hjk e1 e2 e3 e4 os ot
theorem StHas.ownS(h:StHas K W₀ H₀ W H σ δ)(k:Same H H')(hn:∀ b,N b->H b=none/\∃ ob,H' b=some ob/\Ro ob)(q:SlotHas K W₀ H₀ (λb=>W b\/N b) H' sl (.ref a))(nw:∀ b,Owns H' sl (.ref a) b->H b=none):
  StHas K W₀ H₀ (λb=>W b\/N b) H' (σ.set i (some (.ref a))) (δ.set i (some sl)):=by
 have hw:∀ b,(W b\/N b)->W b\/H b=none:=λb z=>z.elim .inl λz=>.inr (hn b z).1;have kk:Yj W H H':=Same.keep k;have fr':FrOk W₀ H₀ (λb=>W b\/N b) H':=⟨h.fr.ext.trans k,λb z=>.inl (h.fr.sub b z),⟨λb z=>z.elim ((h.fr.wl.same k).own b) λz=>(hn b z).2,(h.fr.wl.same k).tab⟩,h.fr.wl0⟩
 have slot:∀ {s:S} {v:V},SlotHas K W₀ H₀ W H s v->SlotHas K W₀ H₀ (λb=>W b\/N b) H' s v:=λ{s v} z=>z.mv h.fr.wl kk hw λb o e h1 h2 h3 h4=>⟨.inl h1,k _ _ h3⟩
 have old:∀ (j:Nat) (t:S) (v:V) (b:ia),δ[j]? =some (some t)->σ[j]? =some (some v)->Owns H' t v b->Owns H t v b/\H b≠none:=λj t v b e z o=>by
  obtain⟨v',h1,h2⟩:=h.at' j _ e;rw[z]at h1;cases h1
  have o':=Owns.back h2 (λa o _ z _=>k _ _ z) o;obtain⟨_,_,ob,h3,_⟩:=h2.owns o';exact⟨o',λz=>by rw[h3]at z;cases z⟩
 refine⟨fr',by simp[h.len],λj s e=>?_,λj l s1 s2 u u' b hjl e1 e2 e3 e4 os ot=>?_⟩
 .by_cases hj:i=j
  .subst hj;rw[bi]at e ⊢
   cases q':δ[i]? with
   |none=>rw[q']at e;cases e
   |some z=>
    rw[q']at e
    have e':some sl=some s:=jc e;cases e';have hi:i<σ.length:=by rw[h.len];exact(pb.mp q').1
    exact⟨.ref a,by rw[qd hi];rfl,q⟩
  .rw[zc hj]at e ⊢
   obtain⟨v,h1,h2⟩:=h.at' j s e;exact⟨v,h1,slot h2⟩
 .have get:∀ m:Nat,m≠i->∀ {α:Type} (l:List α) (z:α),(l.set i z)[m]? =l[m]? :=λm hm α l z=>zc (jg hm)
  have self:∀ {α:Type} (l:List (Option α)) (z y:α),(l.set i (some z))[i]? =some (some y)->y=z:=λl z y e=>by
   rw[bi]at e
   cases q':l[i]? with
   |none=>rw[q']at e;cases e
   |some x=>rw[q']at e;cases e;rfl
  by_cases hj:j=i
  .have hl:l≠i:=λz=>hjl (hj.trans z.symm);rw[get l hl]at e2 e4
   subst hj;have z1:=self _ _ _ e1;have z2:=self _ _ _ e3;subst z1;subst z2;exact(old l s2 u' b e2 e4 ot).2 (nw b os)
  .rw[get j hj]at e1 e3
   by_cases hl:l=i
   .subst hl;have z1:=self _ _ _ e2;have z2:=self _ _ _ e4;subst z1;subst z2;exact(old j s1 u b e1 e3 os).2 (nw b ot)
   .rw[get l hl]at e2 e4
    exact h.ap j l s1 s2 u u' b hjl e1 e2 e3 e4 (old j s1 u b e1 e3 os).1 (old l s2 u' b e2 e4 ot).1
theorem StHas.ownG{W':WS}(h:StHas K W₀ H₀ W H σ δ)(k:Same H H')(ha:H a=none)(ha':H' a=some ob)(mo:Ro ob)(q:SlotHas K W₀ H₀ (λb=>W b\/b=a) H' sl (.ref a))(nw:∀ b,Owns H' sl (.ref a) b->H b=none:=by intro b z;cases z;assumption):
  StHas K W₀ H₀ (λb=>W b\/b=a) H' (σ.set i (some (.ref a))) (δ.set i (some sl)):=
 h.ownS (N:=λb=>b=a) k (λb z=>by rw[z];exact⟨ha,ob,ha',mo⟩) q nw
theorem StHas.own(h:StHas K W₀ H₀ W H σ δ)(ha:H a=none)(q:HasL K W H ds xs):
  StHas K W₀ H₀ (λb=>W b\/b=a) (Lb H a (.lst xs)) (σ.set i (some (.ref a))) (δ.set i (some (.o ds))):=by
 have k:Same H (Lb H a (.lst xs)):=λb o e=>by rw[Ea (Sa e ha)];exact e
 exact h.ownG (W':=W) k ha Ta trivial ⟨a,xs,rfl,.inr rfl,Same.free h.fr.ext ha,Ta,HasL.keep (Same.keep k) h.fr.wl (λb z=>z.elim .inl λz=>.inr (by rw[z];exact ha)) q⟩
theorem StHas.changeS{w:V}(h:StHas K W₀ H₀ W H σ δ)(hi:δ[i]? =some (some so))(hs:σ[i]? =some (some w))(oc:Owns H so w a)(mo:Ro ob)(q:H₀ a=none->Yj W H (Lb H a ob)->SlotHas K W₀ H₀ W (Lb H a ob) sl w)(nw:∀ b,Owns (Lb H a ob) sl w b->∀ (j:Nat) (t:S) (v:V),i≠j->δ[j]? =some (some t)->σ[j]? =some (some v)->¬ Owns H t v b):
  StHas K W₀ H₀ W (Lb H a ob) σ (δ.set i (some sl)):=by
 obtain⟨v,h1,h2⟩:=h.at' i _ hi;rw[hs]at h1
 cases h1;obtain⟨hW,h0,ob',h3',h4'⟩:=h2.owns oc
 have kk:Yj W H (Lb H a ob):=λb o e n=>by
  rw[Ea (λz=>n (by rw[z];exact hW))];exact e
 have hw:∀ b,W b->W b\/H b=none:=λb z=>.inl z
 have fr':FrOk W₀ H₀ W (Lb H a ob):=⟨λb o e=>by rw[Ea (Sa e h0)];exact h.fr.ext _ _ e,h.fr.sub,⟨λb z=>by
  by_cases hb:b=a
  .rw[hb];exact⟨ob,Ta,mo⟩
  .rw[Ea hb];exact h.fr.wl b z,λq hq=>by rw[Ea (h.fr.wl.noW hW hq)];exact h.fr.wl.tab q hq⟩,h.fr.wl0⟩
 have hl:i<δ.length:=(pb.mp hi).1
 have ne:∀ (j:Nat) (s:S) (v:V) (b:ia),i≠j->δ[j]? =some (some s)->σ[j]? =some (some v)->Owns H s v b->b≠a:=λj s v b hj e e' o z=>by
  subst z;exact h.ap i j _ _ _ _ b hj hi e hs e' oc o
 refine⟨fr',by simp[h.len],λj s e=>?_,λj l s1 s2 u u' b hjl e1 e2 e3 e4 os ot=>?_⟩
 .by_cases hj:i=j
  .subst hj;rw[ze hl]at e
   cases e;exact⟨w,hs,q h0 kk⟩
  .rw[zc hj]at e
   obtain⟨v,h1,h2⟩:=h.at' j s e;exact⟨v,h1,h2.mv h.fr.wl kk hw λb o e1 h1' _ h3' _=>⟨h1',by rw[Ea (ne j s v b hj e h1 e1)];exact h3'⟩⟩
 .have own:∀ (m:Nat) (t:S) (x:V),i≠m->(δ.set i (some sl))[m]? =some (some t)->σ[m]? =some (some x)->Owns (Lb H a ob) t x b->δ[m]? =some (some t)/\Owns H t x b:=λm t x hm e e' o=>by
   rw[zc hm]at e
   obtain⟨v,h1,h2⟩:=h.at' m t e;rw[e']at h1;cases h1
   refine⟨e,Owns.back h2 (λc o ec z y=>?_) o⟩;rcases y with⟨y,_⟩|⟨xs,y⟩
   .rw[Ea (ne m _ _ c hm e e' y)];exact z
   .rw[Ea (λq=>by rw[q,h3']at z;cases z;rw[y]at h4';exact h4')];exact z
  by_cases hj:i=j
  .subst hj;rw[ze hl]at e1;cases e1
   rw[hs]at e3;cases e3
   obtain⟨g2,o2⟩:=own l s2 u' hjl e2 e4 ot;exact nw b os l s2 u' hjl g2 e4 o2
  .obtain⟨g1,o1⟩:=own j s1 u hj e1 e3 os;by_cases hm:i=l
   .subst hm;rw[ze hl]at e2;cases e2
    rw[hs]at e4;cases e4
    exact nw b ot j s1 u hj g1 e3 o1
   .obtain⟨g2,o2⟩:=own l s2 u' hm e2 e4 ot;exact h.ap j l s1 s2 u u' b hjl g1 g2 e3 e4 o1 o2
theorem StHas.changeG(h:StHas K W₀ H₀ W H σ δ)(oo:Ow so)(hi:δ[i]? =some (some so))(hs:σ[i]? =some (some (.ref a)))(mo:Ro ob)(hW:W a)(q:H₀ a=none->Yj W H (Lb H a ob)->SlotHas K W₀ H₀ W (Lb H a ob) sl (.ref a))(ol:Ow sl)(nw:∀ b,Owns (Lb H a ob) sl (.ref a) b->Owns H so (.ref a) b:=by intro b z;exact z):
  StHas K W₀ H₀ W (Lb H a ob) σ (δ.set i (some sl)):=
 h.changeS hi hs oo.owns mo q λb o j t v hj e e'=>h.ap i j _ _ _ _ b hj hi e hs e' (nw b o)
theorem StHas.change(h:StHas K W₀ H₀ W H σ δ)(hi:δ[i]? =some (some (.o ds)))(hs:σ[i]? =some (some (.ref a)))(ha:H a=some (.lst xs))(hW:W a)(q:HasL K W H es ys):
  StHas K W₀ H₀ W (Lb H a (.lst ys)) σ (δ.set i (some (.o es))):=
 h.changeG (owo ds) hi hs trivial hW (λh0 kk=>⟨a,ys,rfl,hW,h0,Ta,HasL.keep kk h.fr.wl (λb z=>.inl z) q⟩) (owo es)
theorem StHas.freezeS{w:V}(h:StHas K W₀ H₀ W H σ δ)(hi:δ[i]? =some (some so))(hs:σ[i]? =some (some w))(oN:∀ b,N b->Owns H so w b)(hd:Has K (λb=>W b/\¬ N b) H x w):StHas K W₀ H₀ (λb=>W b/\¬ N b) H σ (δ.set i (some (.d x))):=by
 obtain⟨v,h1,h2⟩:=h.at' i _ hi;rw[hs]at h1
 cases h1;have kk:Yj W H H:=λ_ _ e _=>e;have hw:∀ b,(W b/\¬ N b)->W b\/H b=none:=λb z=>.inl z.1;have hl:i<δ.length:=(pb.mp hi).1;refine⟨⟨h.fr.ext,λb z=>⟨h.fr.sub b z,λe=>?_⟩,⟨λb z=>h.fr.wl b z.1,h.fr.wl.tab⟩,h.fr.wl0⟩,by simp[h.len],λj s e=>?_,λj l s1 s2 u u' b hjl e1 e2 e3 e4 os ot=>?_⟩
 .obtain⟨ys,z',_⟩:=h.fr.wl0 _ z;rw[(h2.owns (oN _ e)).2.1]at z';cases z'
 .by_cases hj:i=j
  .subst hj;rw[ze hl]at e
   cases e;exact⟨_,hs,hd⟩
  .rw[zc hj]at e
   obtain⟨v,g1,g2⟩:=h.at' j s e;exact⟨v,g1,g2.mv h.fr.wl kk hw λb o e1 h1' _ h3' _=>⟨⟨h1',λz=>h.ap i j _ _ _ _ b hj hi e hs g1 (oN b z) e1⟩,h3'⟩⟩
 .have hj:i≠j:=by
   rintro rfl;rw[ze hl]at e1;cases e1;exact os
  have hk:i≠l:=by
   rintro rfl;rw[ze hl]at e2;cases e2;exact ot
  rw[zc hj]at e1
  rw[zc hk]at e2
  exact h.ap j l s1 s2 u u' b hjl e1 e2 e3 e4 os ot
theorem StHas.freezeG(h:StHas K W₀ H₀ W H σ δ)(oo:Ow so)(hi:δ[i]? =some (some so))(hs:σ[i]? =some (some (.ref a)))(hd:Has K (λb=>W b/\b≠a) H x (.ref a)):StHas K W₀ H₀ (λb=>W b/\b≠a) H σ (δ.set i (some (.d x))):=
 h.freezeS (N:=λb=>b=a) hi hs (λb z=>by rw[z];exact oo.owns) hd
theorem StHas.freezeH(h:StHas K W₀ H₀ W H σ δ)(oo:Ow so)(hi:δ[i]? =some (some so))(hs:σ[i]? =some (some (.ref a)))(hd:Has K (λb=>W b/\b≠a) (Lb H a ob) x (.ref a)):StHas K W₀ H₀ (λb=>W b/\b≠a) (Lb H a ob) σ (δ.set i (some (.d x))):=by
 obtain⟨v,h1,h2⟩:=h.at' i _ hi;obtain⟨b,o1,e',hW,h0,h3,mo1⟩:=h2.own oo;rw[hs]at h1
 cases h1;cases e';have kk:Yj W H (Lb H a ob):=λb o e n=>by rw[Ea (λz=>n (by rw[z];exact hW))];exact e
 have hw:∀ b,(W b/\b≠a)->W b\/H b=none:=λb z=>.inl z.1;have hl:i<δ.length:=(pb.mp hi).1;refine⟨⟨λb o e=>by rw[Ea (Sa e h0)];exact h.fr.ext _ _ e,λb z=>⟨h.fr.sub b z,λe=>?_⟩,⟨λb z=>by rw[Ea z.2];exact h.fr.wl b z.1,λq hq=>by rw[Ea (h.fr.wl.noW hW hq)];exact h.fr.wl.tab q hq⟩,h.fr.wl0⟩,by simp[h.len],λj s e=>?_,λj l s1 s2 u u' b hjl e1 e2 e3 e4 os ot=>?_⟩
 .subst e;obtain⟨ys,z',_⟩:=h.fr.wl0 _ z;rw[h0]at z';cases z'
 .by_cases hj:i=j
  .subst hj;rw[ze hl]at e
   cases e;exact⟨.ref a,hs,hd⟩
  .rw[zc hj]at e
   obtain⟨v,g1,g2⟩:=h.at' j s e;exact⟨v,g1,g2.mv h.fr.wl kk hw λb o e1 h1' _ h3' _=>(λhba=>⟨⟨h1',hba⟩,by rw[Ea hba];exact h3'⟩) (λz=>by subst z;exact h.ap i j _ _ _ _ b hj hi e hs g1 oo.owns e1)⟩
 .have hj:i≠j:=by
   rintro rfl;rw[ze hl]at e1;cases e1;exact os
  have hk:i≠l:=by
   rintro rfl;rw[ze hl]at e2;cases e2;exact ot
  rw[zc hj]at e1
  rw[zc hk]at e2
  have back:∀ (m:Nat) (t:S) (x:V),i≠m->δ[m]? =some (some t)->σ[m]? =some (some x)->Owns (Lb H a ob) t x b->Owns H t x b:=λm t x hm e e' o=>by
   obtain⟨v,h1,h2⟩:=h.at' m t e;rw[e']at h1;cases h1
   refine Owns.back h2 (λc o ec z y=>?_) o;rcases y with⟨y,_⟩|⟨xs,y⟩
   .rw[Ea (λq=>by subst q;exact h.ap i m _ _ _ _ c hm hi e hs e' oo.owns y)];exact z
   .rw[Ea (λq=>by rw[q,h3]at z;cases z;rw[y]at mo1;exact mo1)];exact z
  exact h.ap j l s1 s2 u u' b hjl e1 e2 e3 e4 (back j s1 u hj e1 e3 os) (back l s2 u' hk e2 e4 ot)
abbrev XW:=ua->List D->Hp->Prop
section
variable (K:td)(xw:XW)
def RE(W:WS)(H:Hp)(r:Res D)(Q:VK):Prop:=match r with
 | .ok d=>∀ v H',Same H H'->Has K W H' d v->Q v H'
 | .ex c fs=>∀ H',Same H H'->xw c fs H'
 | .stuck=>False
def HasT(W:WS)(H:Hp)(d:D)(v:V):Prop:=Has K W H d v\/∃ ds a xs,d=.lst ds/\v=.ref a/\H a=some (.lst xs)/\HasL K W H ds xs
def RP(W:WS)(H:Hp)(r:Res D)(Q:VK):Prop:=match r with
 | .ok d=>∀ v H',Same H H'->HasT K W H' d v->Q v H'
 | .ex c fs=>∀ H',Same H H'->xw c fs H'
 | .stuck=>False
def RF(W:WS)(H:Hp)(r:Res (List D))(Q:VK):Prop:=match r with
 | .ok ds=>∀ a xs H1,Same H H1->H1 a=none->HasL K W H1 ds xs->Q (.ref a) (Lb H1 a (.lst xs))
 | .ex c fs=>∀ H',Same H H'->xw c fs H'
 | .stuck=>False
def RT(H:Hp)(r:Res Bool)(Q:Bool->Hp->Prop):Prop:=match r with
 | .ok b=>∀ H',Same H H'->Q b H'
 | .ex c fs=>∀ H',Same H H'->xw c fs H'
 | .stuck=>False
def RA(W:WS)(H:Hp)(r:Res (List D))(Q:List V->Hp->Prop):Prop:=match r with
 | .ok ds=>∀ vs H',Same H H'->HasL K W H' ds vs->Q vs H'
 | .ex c fs=>∀ H',Same H H'->xw c fs H'
 | .stuck=>False
def OT(f:Ha->Res D):TE:=λσ H Q=>∃ W₀ H₀ W δ,StHas K W₀ H₀ W H σ δ/\RE K xw W H (f δ) Q
def MI(f:Ha->Res D):TE:=λσ H Q=>∃ W₀ H₀ W δ,StHas K W₀ H₀ W H σ δ/\RP K xw W H (f δ) Q
def tDF(f:Ha->Res (List D)):TE:=λσ H Q=>∃ W₀ H₀ W δ,StHas K W₀ H₀ W H σ δ/\RF K xw W H (f δ) Q
def C7(f:Ha->Res Bool):TT:=λσ H Q=>∃ W₀ H₀ W δ,StHas K W₀ H₀ W H σ δ/\RT xw H (f δ) Q
def B7(f:Ha->Res (List D)):TA:=λσ H Q=>∃ W₀ H₀ W δ,StHas K W₀ H₀ W H σ δ/\RA K xw W H (f δ) Q
end
def DE(X:Cx)(xw:XW)(e:nc)(f:Ha->Res D):Prop:=PE X e (OT X.K xw f)
def DP(X:Cx)(xw:XW)(e:nc)(f:Ha->Res D):Prop:=PE X e (MI X.K xw f)
def DF(X:Cx)(xw:XW)(e:nc)(f:Ha->Res (List D)):Prop:=PE X e (tDF X.K xw f)
def DT(X:Cx)(xw:XW)(e:nc)(f:Ha->Res Bool):Prop:=PT X e (C7 X.K xw f)
def DW(X:Cx)(xw:XW)(e:nc)(f:Ha->Res Bool):Prop:=PW X e (C7 X.K xw f)
def DA(X:Cx)(xw:XW)(es:List nc)(f:Ha->Res (List D)):Prop:=PA X es (B7 X.K xw f)
variable{X:Cx}{e:nc}
theorem PE.weak{t t':TE}(h:PE X e t)(k:∀ σ H Q,t' σ H Q->t σ H Q):PE X e t':=λpins s σ H Q I q=>h pins s σ H Q I (k σ H Q q)
variable{t':TT}
theorem PT.weak{t:TT}(h:PT X e t)(k:∀ σ H Q,t' σ H Q->t σ H Q):PT X e t':=λpins s σ H Q I q=>h pins s σ H Q I (k σ H Q q)
theorem PW.weak{t:TT}(h:PW X e t)(k:∀ σ H Q,t' σ H Q->t σ H Q):PW X e t':=λwh pins s σ H Q I q=>h wh pins s σ H Q I (k σ H Q q)
theorem PA.weak{e:List nc}{t t':TA}(h:PA X e t)(k:∀ σ H Q,t' σ H Q->t σ H Q):PA X e t':=λps pins s σ H Q I q=>h ps pins s σ H Q I (k σ H Q q)
variable{i:Int}{xw:XW}{Q:VK}{d:D}
theorem RE.same{r:Res D}(h:RE K xw W H r Q)(k:Same H H'):RE K xw W H' r Q:=by
 cases r with
 |ok d=>exact λv H2 k2 q=>h v H2 (k.trans k2) q
 |ex c fs=>exact λH2 k2=>h H2 (k.trans k2)
 |stuck=>exact h
theorem RF.same{r:Res (List D)}(h:RF K xw W H r Q)(k:Same H H'):RF K xw W H' r Q:=by
 cases r with
 |ok d=>exact λa xs H1 k1 n q=>h a xs H1 (k.trans k1) n q
 |ex c fs=>exact λH2 k2=>h H2 (k.trans k2)
 |stuck=>exact h
theorem RT.same{r:Res Bool}{Q:Bool->Hp->Prop}(h:RT xw H r Q)(k:Same H H'):RT xw H' r Q:=by
 cases r with
 |ok d=>exact λH2 k2=>h H2 (k.trans k2)
 |ex c fs=>exact λH2 k2=>h H2 (k.trans k2)
 |stuck=>exact h
theorem HasT.same(h:HasT K W H d v)(k:Same H H')(w:WL W H):HasT K W H' d v:=by
 rcases h with h|⟨ds,a,xs,h1,h2,h3,h4⟩
 .exact .inl (h.same k w)
 .exact .inr ⟨ds,a,xs,h1,h2,k _ _ h3,h4.same k w⟩
theorem HasT.int(h:HasT K W H (.int i) v):v=.int i:=by
 rcases h with h|⟨ds,a,xs,h1,_⟩
 .rw[Has]at h;exact h
 .cases h1
theorem HasT.bl{i:Bool}(h:HasT K W H (.bl i) v):v=.bl i:=by
 rcases h with h|⟨ds,a,xs,h1,_⟩
 .rw[Has]at h;exact h
 .cases h1
theorem HasT.str{i:ua}(h:HasT K W H (.str i) v):v=.str i:=by
 rcases h with h|⟨ds,a,xs,h1,_⟩
 .rw[Has]at h;exact h
 .cases h1
theorem HasT.non(h:HasT K W H .non v):v=.non:=by
 rcases h with h|⟨ds,a,xs,h1,_⟩
 .rw[Has]at h;exact h
 .cases h1
theorem HasT.tup(h:HasT K W H (.tup ds) v):∃ a xs,v=.ref a/\SqT K H a xs/\HasL K W H ds xs:=by
 rcases h with h|⟨ds,a,xs,h1,_⟩
 .rw[Has]at h;exact h
 .cases h1
theorem HasT.lst(h:HasT K W H (.lst ds) v):∃ a xs,v=.ref a/\SqL K H a xs/\HasL K W H ds xs:=by
 rcases h with h|⟨ds,a,xs,h1,h2,h3,h4⟩
 .rw[Has]at h
  obtain⟨a,xs,e,q,r⟩:=h;exact⟨a,xs,e,q.sq,r⟩
 .cases h1;exact⟨a,xs,h2,.of h3,h4⟩
def WD(scope:io)(env:cq):List (ua×ia):=scope.names.foldl (λcs y=>if y.2== .free then(match env.cells.lookup y.1 with|some a=>(y.1,a)::cs|none=>cs) else cs) []
variable{env:cq}
theorem FU(names:List (ua×ji)):∀ (cs:List (ua×ia)),(∀ y∈names,y.2=.free->∃ c,env.cells.lookup y.1=some c)->
  (forIn names cs (λ(y:ua×ji) (r:List (ua×ia))=>(do
   if(y.2==NameKind.free)=true then do
    let a <-cellOf env y.1
    pure (ForInStep.yield ((y.1,a)::r))
   else pure (ForInStep.yield r):Sem (ForInStep (List (ua×ia))))))=(pure (names.foldl (λcs y=>if y.2== .free then(match env.cells.lookup y.1 with|some a=>(y.1,a)::cs|none=>cs) else cs) cs):Sem _):=by
 induction names with
 |nil=>intro cs _;rfl
 |cons y r ih=>
  intro cs h;have h':∀ y∈r,y.2=.free->∃ c,env.cells.lookup y.1=some c:=λz hz=>h z (ib _ hz);rw[List.forIn_cons,Op];by_cases hk:y.2=.free
  .obtain⟨c,hc⟩:=h y kc hk;have hb:(y.2==NameKind.free)=true:=by rw[hk];rfl
   simp only[hb,if_true,cellOf,hc,pure_bind];exact ih _ h'
  .have hb:(y.2==NameKind.free)=false:=by simpa using hk
   simp only[hb,Sc,if_false,pure_bind];exact ih _ h'
variable{scope:io}
theorem EU(h:∀ y∈scope.names,y.2=.free->∃ c,env.cells.lookup y.1=some c):closureFor scope env=pure (WD scope env):=by
 unfold closureFor WD;exact(congrArg (λz=>z >>= λr=>pure r) (FU scope.names [] h)).trans (by simp)
theorem YM(names:List (ua×ji)):∀ (cs:List (ua×ia)),(∀ x c,cs.lookup x=some c->env.cells.lookup x=some c)->
  ∀ x c,(names.foldl (λcs y=>if y.2== .free then(match env.cells.lookup y.1 with|some a=>(y.1,a)::cs|none=>cs) else cs) cs).lookup x=some c->env.cells.lookup x=some c:=by
 induction names with
 |nil=>intro cs h;exact h
 |cons y r ih=>
  intro cs h;rw[Op];refine ih _ ?_;split
  .split
   .rename_i a ha;intro x c e;rw[sf]at e
    by_cases hx:x=y.1
    .have:(x==y.1)=true:=by rw[hx];simp
     rw[this]at e
     have e':a=c:=jc e;rw[hx,ha,e']
    .have:(x==y.1)=false:=by simpa using hx
     rw[this]at e
     exact h x c e
   .exact h
  .exact h
theorem OA(names:List (ua×ji)):∀ (cs:List (ua×ia)) (x:ua),((∃ c,cs.lookup x=some c)\/((x,NameKind.free)∈names/\∃ c,env.cells.lookup x=some c))->
  ∃ c,(names.foldl (λcs y=>if y.2== .free then(match env.cells.lookup y.1 with|some a=>(y.1,a)::cs|none=>cs) else cs) cs).lookup x=some c:=by
 induction names with
 |nil=>
  intro cs x h;rcases h with h|⟨h,_⟩
  .exact h
  .simp at h
 |cons y r ih=>
  intro cs x h;rw[Op];refine ih _ x ?_;rcases h with⟨c,h⟩|⟨h,c,hc⟩
  .left;split
   .split
    .rename_i a ha;rw[sf];cases hx:x==y.1 with
     |true=>exact⟨a,rfl⟩
     |false=>exact⟨c,h⟩
    .exact⟨c,h⟩
   .exact⟨c,h⟩
  .rcases xc.mp h with h|h
   .left;subst h;simp only[beq_self_eq_true,if_true,hc];exact⟨c,by rw[sf];simp⟩
   .exact .inr ⟨h,c,hc⟩
theorem Lo{g:ua->ji->ji}:∀ (l:List (ua×ji)) (x:ua),(l.map λy=>(y.1,g y.1 y.2)).lookup x=(l.lookup x).map (g x)
 | [],_=>rfl
 |y::r,x=>by
  rw[db,sf,sf];cases hx:x==y.1 with
  |true=>
   have:x=y.1:=by simpa using hx
   rw[this];rfl
  |false=>exact Lo r x
theorem Qh(scope:io)(env:cq)(x:ua):(ip scope env).names.lookup x=(scope.names.lookup x).map λk=>if(k== .free&&env.scope.kind== .function&&env.kindOf x==some .cell) then .cell else k:=by
 have e:(ip scope env).names=scope.names.map λy=>(y.1,(λn k=>if(k==NameKind.free&&env.scope.kind== .function&&env.kindOf n==some .cell) then NameKind.cell else k) y.1 y.2):=by
  unfold ip;refine ym λy _=>?_;obtain⟨n,k⟩:=y;dsimp only;split<;>rfl
 rw[e];exact Lo (g:=λn k=>if(k==NameKind.free&&env.scope.kind== .function&&env.kindOf n==some .cell) then NameKind.cell else k) scope.names x
theorem XM(names:List (ua×ji)):∀ (cs:List (ua×ia)) (x:ua) (c:ia),(names.foldl (λcs y=>if y.2== .free then(match env.cells.lookup y.1 with|some a=>(y.1,a)::cs|none=>cs) else cs) cs).lookup x=some c->cs.lookup x=some c\/(x,NameKind.free)∈names:=by
 induction names with
 |nil=>intro cs x c h;exact .inl h
 |cons y r ih=>
  intro cs x c h;rw[Op]at h
  rcases ih _ x c h with h|h
  .by_cases hf:y.2=.free
   .by_cases hx:x=y.1
    .right;subst hx;rw[<-hf];exact kc
    .left;have hb:(y.2==NameKind.free)=true:=by rw[hf];rfl
     have hxb:(x==y.1)=false:=by simpa using hx
     simp only[hb,if_true]at h;split at h
     .rw[sf,hxb]at h;exact h
     .exact h
   .left;have hb:(y.2==NameKind.free)=false:=by simpa using hf
    simp only[hb,Sc,if_false]at h;exact h
  .exact .inr (ib _ h)
theorem QG:∀ (names:List (ua×ji)) (n:Nat) (acc:List (ua×ia)) (x:ua) (c:ia),(Pi n names acc).lookup x=some c->acc.lookup x=some c\/(n<=c/\(x,NameKind.cell)∈names)
 | [],_,_,_,_,h=>.inl h
 |(y,k)::r,n,acc,x,c,h=>by
  unfold Pi at h;by_cases hk:(k== .cell)=true
  .rw[if_pos hk]at h
   have hk':k=.cell:=by simpa using hk
   rcases QG r (n+1) _ x c h with h|⟨h1,h2⟩
   .rw[sf]at h
    cases hx:x==y with
    |true=>
     rw[hx]at h
     have e:n=c:=jc h;have ex:x=y:=by simpa using hx
     subst ex;subst hk';exact .inr ⟨by omega,kc⟩
    |false=>rw[hx]at h;exact .inl h
   .exact .inr ⟨by omega,ib _ h2⟩
  .rw[if_neg hk]at h
   rcases QG r n acc x c h with h|⟨h1,h2⟩
   .exact .inl h
   .exact .inr ⟨h1,ib _ h2⟩
theorem VD:∀ (names:List (ua×ji)) (n:Nat) (acc:List (ua×ia)) (x:ua),(x,NameKind.cell)∉names->(Pi n names acc).lookup x=acc.lookup x
 | [],_,_,_,_=>rfl
 |(y,k)::r,n,acc,x,h=>by
  have hr:(x,NameKind.cell)∉r:=λz=>h (ib _ z);unfold Pi;by_cases hk:(k== .cell)=true
  .rw[if_pos hk,VD r (n+1) _ x hr,sf];have hk':k=.cell:=by simpa using hk
   have hx:(x==y)=false:=by
    cases hx:x==y with
    |false=>rfl
    |true=>
     have ex:x=y:=by simpa using hx
     subst ex;subst hk';exact absurd kc h
   rw[hx]
  .rw[if_neg hk];exact VD r n acc x hr
theorem UD:∀ (names:List (ua×ji)) (n:Nat) (acc:List (ua×ia)),(∀ x y c,acc.lookup x=some c->acc.lookup y=some c->x=y)->(∀ x c,acc.lookup x=some c->c<n)->
  ∀ x y c,(Pi n names acc).lookup x=some c->(Pi n names acc).lookup y=some c->x=y
 | [],_,_,h,_=>h
 |(z,k)::r,n,acc,h,hb=>by
  unfold Pi;by_cases hk:(k== .cell)=true
  .rw[if_pos hk];refine UD r (n+1) _ (λx y c e1 e2=>?_) λx c e=>?_
   .rw[sf]at e1 e2
    cases hx:x==z with
    |true=>
     rw[hx]at e1
     have ec:n=c:=jc e1;have ex:x=z:=by simpa using hx
     cases hy:y==z with
     |true=>
      have ey:y=z:=by simpa using hy
      rw[ex,ey]
     |false=>
      rw[hy]at e2
      have:=hb y c e2;rw[<-ec]at this
      exact absurd this (xh _)
    |false=>
     rw[hx]at e1
     cases hy:y==z with
     |true=>
      rw[hy]at e2
      have ec:n=c:=jc e2;have:=hb x c e1;rw[<-ec]at this
      exact absurd this (xh _)
     |false=>rw[hy]at e2;exact h x y c e1 e2
   .rw[sf]at e
    cases hx:x==z with
    |true=>
     rw[hx]at e
     have ec:n=c:=jc e;rw[<-ec];exact um _
    |false=>rw[hx]at e;exact jt (hb x c e)
  .rw[if_neg hk];exact UD r n acc h hb
theorem Ny:∀ (names:List (ua×ji)) (h:pd) (acc:List (ua×ia)),(∀ x c,acc.lookup x=some c->∃ v,h.IsCell c v)->∀ x c,(Pi h.objs.size names acc).lookup x=some c->∃ v,(ao h names).IsCell c v
 | [],_,_,hc=>hc
 |(z,k)::r,h,acc,hc=>by
  unfold Pi ao;by_cases hk:(k== .cell)=true
  .rw[if_pos hk,if_pos hk]
   have:=Ny r (h.push {cls:=.type "cell",data:=.cell none}) ((z,h.objs.size)::acc) λx c e=>by
    rw[sf]at e
    cases hx:x==z with
    |true=>
     rw[hx]at e
     have ec:h.objs.size=c:=jc e;subst ec;exact⟨none,_,ue _ rfl,rfl⟩
    |false=>
     rw[hx]at e
     obtain⟨v,q⟩:=hc x c e;exact⟨v,q.keeps λb o e=>ya _ e⟩
   rw[xq]at this
   exact this
  .rw[if_neg hk,if_neg hk];exact Ny r h acc hc
def NJ(scope:io)(env:cq)(C:ia):List (ua×ia):=Pi (C+1) scope.names (WD scope env)
variable{s:ka}{A:ye}{E:Da->ka->Prop}{qual:ua}
theorem Lr{M:Model}{globals:ia}{cl:List (ua×ia)}{Q:cq->ka->Prop}(hQ:Q {scope:=scope,locals:=s.heap.objs.size,globals:=globals,cells:=Pi (s.heap.objs.size+1) scope.names cl,qual:=qual,func:=none,code:=env.code,frame:=env.frame,builtins:=env.builtins}
   {s with heap:=ao (s.heap.push {cls:=.type "dict",data:=.dict #[]}) scope.names}):
  cb M A (newFunctionEnv scope globals cl [] qual none .none (some env)) Q E s:=by
 simp only[newFunctionEnv,Option.isSome_some,if_true];refine ja (wpAny_alloc ?_);refine ja (wpAny_layCells _ (λname kind cells=>by cases hkc:kind==NameKind.cell<;>simp[hkc]) _ _ _ _ ?_);rw[show({s with heap:=s.heap.push {cls:=.type "dict",data:=.dict #[]}}:ka).heap.objs.size=s.heap.objs.size+1 from xq ..];refine ja ?_;rw[List.forIn_nil];exact kb (kb hQ)
theorem ZE{h:pd}{names:List (ua×ji)}:(ao (h.push {cls:=.type "dict",data:=.dict #[]}) names).Ns h.objs.size λ_=>none:=(Heap.Ns.new h (.type "dict")).keeps (qv _ _)
def Pd(X:Cx)(scope:io)(Nc Nx:List ua)(C:ia)(fp:List ia)(pins:List (ia×mh))(s:ka)(H:Hp):Cx:=
 {X with N:=Nc++Nx,s₀:=s,H₀:=H,env:=compEnvC scope (NJ scope X.env C) C X.env,outer:=X.stack,stack:=X.stack,ex:=fp,fn:=λx=>scope.names.lookup x==some .cell,pn:=X.pn++pins,xe:=λ_ _=>False}
structure CompOk(X:Cx)(scope:io)(Nc Nx:List ua):Prop where
 kind:scope.kind=.function
 one:∀ y∈scope.names,scope.names.lookup y.1=some y.2
 free:∀ y∈scope.names,y.2=.free->X.env.kindOf y.1=some .cell\/X.env.kindOf y.1=some .free
 same:Nx.length=X.N.length
 dis:∀ p∈Nx.zip X.N,(p.1=p.2/\scope.names.lookup p.2≠some .local/\scope.names.lookup p.2≠some .cell)\/scope.names.lookup p.1=none
variable{x:ua}{Nc Nx:List ua}{k:ji}{pins:List (ia×mh)}{fp:List ia}
theorem CompOk.loc(c:CompOk X scope Nc Nx):∀ y∈scope.names,y.2=.local->scope.names.lookup y.1=some .local:=λy hy h=>by rw[c.one y hy,h]
theorem CompOk.old(c:CompOk X scope Nc Nx)(h:scope.names.lookup x=some k)(hk:k≠ .cell):(x,NameKind.cell)∉scope.names:=λz=>by
 have:=c.one _ z;rw[h]at this
 exact hk (jc this)
theorem CompOk.cells(c:CompOk X scope Nc Nx)(ok:X.Ok):∀ y∈scope.names,y.2=.free->∃ a,X.env.cells.lookup y.1=some a:=λy hy hf=>ok.has y.1 (c.free y hy hf)
theorem Wh(h:(WD scope X.env).lookup x=some a):X.env.cells.lookup x=some a:=YM scope.names [] (λ_ _ e=>by simp at e) x a h
theorem Ky(C:ia)(h:(NJ scope X.env C).lookup x=some a):X.env.cells.lookup x=some a\/(C<a/\(x,NameKind.cell)∈scope.names):=by
 rcases QG _ _ _ x a h with h|⟨h1,h2⟩
 .exact .inl (Wh h)
 .exact .inr ⟨h1,h2⟩
theorem WM(c:CompOk X scope Nc Nx)(C:ia)(hx:scope.names.lookup x=some .cell)(h:(NJ scope X.env C).lookup x=some a):C<a:=by
 rcases QG _ _ _ x a h with h|⟨h1,_⟩
 .rcases XM scope.names [] x a h with h|h
  .simp at h
  .have:=c.one _ h;rw[hx]at this
   cases this
 .exact h1
theorem MA(c:CompOk X scope Nc Nx)(C:ia)(hx:scope.names.lookup x=some k)(hk:k≠ .cell):(NJ scope X.env C).lookup x=(WD scope X.env).lookup x:=VD _ _ _ x (c.old hx hk)
theorem UO{tk:Nat}(c:CompOk X scope Nc Nx)(I:Inv X pins σ H s)(hf:∀ b∈fp,Qo X pins H b/\b<s.heap.objs.size):
  Inv (Pd X scope Nc Nx s.heap.objs.size fp pins s H) [] (qb Nc.length none++σ) H {s with heap:=ao (s.heap.push {cls:=.type "dict",data:=.dict #[]}) scope.names,toks:=tk}:=by
 have hn:(ao (s.heap.push {cls:=.type "dict",data:=.dict #[]}) scope.names).Ns s.heap.objs.size λ_=>none:=ZE;have hk:∀ b o,s.heap.get? b=some o->(ao (s.heap.push {cls:=.type "dict",data:=.dict #[]}) scope.names).get? b=some o:=λb o e=>qv _ _ _ _ (ya _ e)
 have cellLt:∀ x a,X.env.cells.lookup x=some a->a<s.heap.objs.size:=λx a e=>by
  obtain⟨v,q⟩:=I.cell x a e;exact q.lt
 have hokind:(compEnvC scope (NJ scope X.env s.heap.objs.size) s.heap.objs.size X.env).scope.kind=.function:=c.kind
 have kinds:∀ x,((ip scope X.env).names.lookup x=some .cell\/(ip scope X.env).names.lookup x=some .free)->scope.names.lookup x=some .cell\/scope.names.lookup x=some .free:=λx hx'=>by
  rw[Qh]at hx'
  cases q:scope.names.lookup x with
  |none=>rw[q]at hx';simp at hx'
  |some k=>
   rw[q]at hx'
   by_cases hkf:k=.free
   .rw[hkf];exact .inr rfl
   .have hb:(k==NameKind.free)=false:=by simpa using hkf
    simp only[map_some,hb,ql,Sc,if_false]at hx';exact hx'
 refine⟨⟨I.ok.mod,hokind,I.ok.glob,I.ok.blt,Uf _,?_,λx hx=>?_,λx a hx e=>?_,I.ok.hd,I.ok.frames,.inl rfl,λb hb=>⟨?_,λx a e=>?_⟩,I.bs,bf I.ok.bsz I.sz,λb o e hb=>?_,λb hb=>?_,I.stack,I.stkFree⟩,
  rfl,I.bare,Un.kept hk,⟨_,hn,λi x v h1 h2 h3=>?_⟩,?_,I.hok.fresh (Uf _),λx a e=>?_,λp hp=>?_,I.hok.kept hk,?_⟩
 .exact UD scope.names _ _ (λx y a h1 h2=>I.ok.inj x y a (Wh h1) (Wh h2)) λx a h=>jt (cellLt x a (Wh h))
 .rcases kinds x hx with hc|hfree
  .exact ve.mp (jr scope.names _ _ (.inl hc))
  .have hm:=zh hfree;obtain⟨a,e⟩:=OA (env:=X.env) scope.names [] x (.inr ⟨hm,c.cells I.ok _ hm rfl⟩);exact⟨a,(MA c _ hfree (by decide)).trans e⟩
 .have hx':(scope.names.lookup x==some NameKind.cell)=true:=hx;exact rq (WM c _ (by simpa using hx') e)
 .exact ag (hf b hb).2
 .rcases Ky _ e with e|⟨e,_⟩
  .exact(hf b hb).1.2.2.2.2.1 x a e
  .have:=(hf b hb).2;exact du (vq this e)
 .obtain⟨_,hb2⟩:=I.bs b o e;rcases(hf b hb).1.2.2.2.1 with z|z
  .exact I.ok.noex b o e z
  .exact absurd (bd (sd e) (bf I.ok.bsz z)) (xh _)
 .intro z;rcases xc.mp (I.stkSub b z) with q|q
  .exact(hf b hb).1.2.1 q
  .exact(hf b hb).1.2.2.1 q
 .have hi:Nc.length<=i:=by
   refine ju λq=>?_;rw[zg (by simpa using q),Tk]at h2
   split at h2<;>cases h2
  have h1':Nx[i-Nc.length]? =some x:=by
   have z:(Nc++Nx)[i]? =some x:=h1;rw[ng hi]at z;exact z
  have h2':σ[i-Nc.length]? =some (some v):=by
   rw[ng (by simpa using hi),ai]at h2;exact h2
  have h3':(ip scope X.env).names.lookup x=some .local\/(ip scope X.env).names.lookup x=some .cell\/(ip scope X.env).names.lookup x=some .free:=h3
  have hz:i-Nc.length<X.N.length:=by
   rw[<-c.same];refine bp λq=>?_;rw[yk q]at h1';cases h1'
  have hd2:=c.dis (x,X.N[i-Nc.length]'hz) (mi (i:=i-Nc.length) (by
   rw[List.getElem?_zip_eq_some]
   exact⟨h1',qd hz⟩))
  have hd3:X.N[i-Nc.length]? =some x/\scope.names.lookup x≠some .local/\scope.names.lookup x≠some .cell:=by
   rcases hd2 with⟨q1,q2⟩|q
   .have q1':x=X.N[i-Nc.length]'hz:=q1;have q2':scope.names.lookup (X.N[i-Nc.length]'hz)≠some .local/\scope.names.lookup (X.N[i-Nc.length]'hz)≠some .cell:=q2;rw[<-q1']at q2'
    exact⟨by rw[qd hz,<-q1'],q2'⟩
   .exfalso;have q':scope.names.lookup x=none:=q;rw[Qh,q']at h3'
    simp at h3'
  obtain⟨h1',hnl,hnc⟩:=hd3
  have hfree:scope.names.lookup x=some .free:=by
   rcases h3' with z|z
   .rw[Qh]at z
    cases q:scope.names.lookup x with
    |none=>rw[q]at z;simp at z
    |some k=>
     rw[q]at z
     by_cases hkf:k=.free
     .rw[hkf]
     .have hb:(k==NameKind.free)=false:=by simpa using hkf
      simp only[map_some,hb,ql,Sc,if_false]at z;rw[q]at hnl;exact absurd z hnl
   .rcases kinds x z with z|z
    .exact absurd z hnc
    .exact z
  have hm:=zh hfree;have hkx:=c.free _ hm rfl;obtain⟨mX,hnX,hl⟩:=I.loc;obtain⟨u,r,l⟩:=hl _ x v h1' h2' (hkx.elim (λz=>.inr (.inl z)) λz=>.inr (.inr z));refine⟨u,r,?_⟩;rcases l with⟨z,_⟩|⟨_,a,e,z⟩
  .have z':X.env.kindOf x=some .local:=z;rcases hkx with q|q<;> · rw[z']at q;cases q
  .obtain⟨a',e'⟩:=OA (env:=X.env) scope.names [] x (.inr ⟨hm,c.cells I.ok _ hm rfl⟩)
   have ea:a'=a:=by
    have:=Wh (X:=X) e';rw[e]at this
    exact(jc this).symm
   subst ea;refine .inr ⟨?_,a',(MA c _ hfree (by decide)).trans e',?_⟩
   .show(ip scope X.env).names.lookup x=some .cell\/(ip scope X.env).names.lookup x=some .free;rw[Qh,hfree];simp only[map_some];split
    .exact .inl rfl
    .exact .inr rfl
   .obtain⟨o,ho,hd⟩:=z;exact⟨o,hk _ _ ho,hd⟩
 .have q:=Ny scope.names (s.heap.push {cls:=.type "dict",data:=.dict #[]}) (WD scope X.env) λx a e=>by
   obtain⟨v,z⟩:=I.cell x a (Wh e);exact⟨v,z.keeps λb o e=>ya _ e⟩
  rw[xq]at q
  exact q
 .rcases Ky _ e with e|⟨e,_⟩
  .exact I.freeC x a e
  .exact I.hok.fresh (rq e)
 .have hp':p∈X.pn++pins:=by
   have z:p∈(X.pn++pins)++ []:=hp
   rwa [kg]at z
  obtain⟨e,n,ne,nf,d⟩:=I.pin p hp';refine⟨hk _ _ e,n,ag (sd e),λz=>?_,d⟩;rcases xc.mp (I.stkSub p.1 z) with q|q
  .exact ne q
  .exact nf q
 .show _=(Nc++Nx).length;rw[md,md,ai,I.len,c.same]
theorem SO{σ':L2.St}{s':ka}{h'':pd}(I:Inv X pins σ H s)(hf:∀ b∈fp,Qo X pins H b)(J:Inv (Pd X scope Nc Nx s.heap.objs.size fp pins s H) [] σ' H' s')(hs:tm s.heap.objs.size s'.heap h''):Inv X pins σ H' {s' with heap:=h''}:=by
 have u:Un (Ff X.stack) fp H H' s.heap s'.heap:=J.base;have hC:H' s.heap.objs.size=none:=J.free;have keep:∀ b o,b≠s.heap.objs.size->s'.heap.get? b=some o->h''.get? b=some o:=λb o hb e=>by rw[hs.2 b hb];exact e
 have lt:∀ b o,s.heap.get? b=some o->b≠s.heap.objs.size:=λb o e=>ag (sd e);refine I.call' (s':= {s' with heap:=h''}) (ch:=fp) J.os ⟨λb o e n h1 h2=>keep b o (lt b o e) (u.keep b o e n h1 h2),λb o e n h1 h2=>?_,u.free,λb o e h1=>?_,u.tups,u.frzs,u.tbls⟩ (λb o e=>?_) J.bare λb hb=>?_
 .obtain⟨sl,q⟩:=u.slot b o e n h1 h2;exact⟨sl,keep b _ (lt b o e) q⟩
 .obtain⟨o',q⟩:=u.there b o e h1;exact⟨o',keep b _ (lt b o e) q⟩
 .refine(J.hok b o e).stay (λc v hc q=>keep c v (λz=>?_) q) (λ_ q=>q) λ_ _ q=>q;subst z;rcases hc with z|z
  .rw[<-z,hC]at e;cases e
  .rw[hC]at z;cases z
 .exact⟨(hf b hb).2.2.2.1,(hf b hb).2.1,(hf b hb).2.2.2.2.1,(hf b hb).2.2.2.2.2⟩
variable{w:yd}{elt iter:nc}{ifs:List nc}{pos:bh}
theorem QA{prog:ic}{R:iq->ka->Prop}{target:nc}{it acc:Da}(I:Nat->ka->Prop)(turn:∀ n s,I n s->cb (jb prog w) A (pyNext it) (λr s₁=>match r with
   |none=>R (.ok .next) s₁
   |some v=>cb (jb prog w) A (gq target it v) (λ_ s₁'=>cb (jb prog w) A (wu target env v) (λ_ s₂=>
     cb (jb prog w) A (forIn ifs true λc r=>if r=true then do let ok <-isTrue c env (eval c env);pure (ForInStep.yield ok) else pure (ForInStep.yield r)) (λok s₃=>
      if ok=true then cb (jb prog w) A (eval elt env) (λx s₄=>
       cb (jb prog w) A (call (.builtin "list.append") [acc,x]) (λ_ s₅=>∃ m,m<n/\I m s₅) (λ_ _=>False) s₄) (λ_ _=>False) s₃
      else ∃ m,m<n/\I m s₃) (λ_ _=>False) s₂) (λ_ _=>False) s₁') (λ_ _=>False) s₁) (λ_ _=>False) s)(n:Nat)(h:I n s):
  kj (jb prog w) A (.compLoop (.ListComp elt [⟨target,iter,ifs,0⟩] scope pos) 0 it acc env) R s:=by
 refine codeAny_loop rfl I (λn s hI=>?_) n h;show cb _ A ((compTurn (.ListComp elt [⟨target,iter,ifs,0⟩] scope pos) 0 it acc env).onRaise (λx=>do ck x env;theTreesLotGoes x)) _ _ s;refine wpAny_noted ?_;rw[compTurn_list];refine ja (xi (ja (se (turn n s hI) (λr s₁ h₁=>?_) λ_ _ h'=>h'.elim)));cases r with
 |none=>exact kb h₁
 |some v=>
  refine ja (se h₁ (λ_ s₁' h₁'=>ja (se h₁' (λ_ s₂ h₂=>ja (se h₂ (λok s₃ h₃=>?_) λ_ _ h'=>h'.elim)) λ_ _ h'=>h'.elim)) λ_ _ h'=>h'.elim);cases ok with
  |false=>exact kb ⟨rfl,h₃⟩
  |true=>
   exact ja (ja (se h₃ (λx s₄ h₄=>ja (se h₄ (λ_ s₅ h₅=>kb (kb ⟨rfl,h₅⟩)) λ_ _ h'=>h'.elim)) λ_ _ h'=>h'.elim))
def PTs(X:Cx)(ifs:List nc)(t:TT):Prop:=
 ∀ (pins:List (ia×mh)) (s:ka) (σ:L2.St) (H:Hp) (Q:Bool->Hp->Prop),Inv X pins σ H s->t σ H Q->
  cb (jb X.prog X.w) X.A (forIn ifs true λc r=>if r=true then do let ok <-isTrue c X.env (eval c X.env);pure (ForInStep.yield ok) else pure (ForInStep.yield r)) (TP X pins σ Q) X.xe s
def Pd0:TT:=λ_ H Q=>Q true H
theorem LX:PTs X [] Pd0:=λ_ s σ H Q I h=>wpAny_tests_nil ⟨H,I,h⟩
def KZ(n:Nat)(wi:TI)(g:TG)(tt:TT)(te:TE):TE:=λσ H Q=>wi σ H λJ H1=>∀ a,H1 a=none->∃ W:Nat->Nat->List V->L2.St->Hp->Prop,(∃ m,W 0 m [] (qb n none++σ) (Lb H1 a (.lst [])))/\
 ∀ i m xs σ' H,W i m xs σ' H->H a=some (.lst xs)/\((J.stop i H/\Q (.ref a) H)\/(J.go i H/\∀ x H',J.yld i H x H'->g x σ' H' λσ2 H2=>tt σ2 H2 λb H3=>
  if b=true then te σ2 H3 λy H4=>H4 a=some (.lst xs)/\xs.length<sizeLine/\∃ m',m'<m/\W (i+1) m' (xs++ [y]) σ2 (Lb H4 a (.lst (xs++ [y]))) else ∃ m',m'<m/\W (i+1) m' xs σ2 H3))
variable{tg:nc}{H1:Hp}
section
variable {wi:TI}{g:TG}{tt:TT}{te:TE}
theorem XD(c:CompOk X scope Nc Nx)(hcalm:X.calm=true)(hY:∀ (C:ia) (fp:List ia) (pins:List (ia×mh)) (s:ka) (H:Hp),PG (Pd X scope Nc Nx C fp pins s H) tg g/\PTs (Pd X scope Nc Nx C fp pins s H) ifs tt/\PE (Pd X scope Nc Nx C fp pins s H) elt te){s2:ka}{it:ia}{tn:Nat->pd->Prop}{J:It}{Q:V->Hp->Prop}{RR:Da->ia->iq->ka->Prop}(I:Inv X pins σ H1 s2)(T:Turn X.prog X.w X.K tg J fp it tn)(st:tn 0 s2.heap)(hf:∀ b∈fp,Qo X pins H1 b)(h:∀ a,H1 a=none->∃ W:Nat->Nat->List V->L2.St->Hp->Prop,(∃ m,W 0 m [] (qb Nc.length none++σ) (Lb H1 a (.lst [])))/\
 ∀ i m xs σ' H,W i m xs σ' H->H a=some (.lst xs)/\((J.stop i H/\Q (.ref a) H)\/(J.go i H/\∀ x H',J.yld i H x H'->g x σ' H' λσ2 H2=>tt σ2 H2 λb H3=>
  if b=true then te σ2 H3 λy H4=>H4 a=some (.lst xs)/\xs.length<sizeLine/\∃ m',m'<m/\W (i+1) m' (xs++ [y]) σ2 (Lb H4 a (.lst (xs++ [y]))) else ∃ m',m'<m/\W (i+1) m' xs σ2 H3)))(hRR:∀ a H' σ' s' s3,Inv X pins σ (Lb H1 a (.lst [])) s3->(∀ b∈fp,Qo X pins (Lb H1 a (.lst [])) b)->Inv (Pd X scope Nc Nx s3.heap.objs.size fp pins s3 (Lb H1 a (.lst []))) [] σ' H' s'->Q (.ref a) H'->RR (.ref a) s3.heap.objs.size (.ok .next) s'):
  cb (jb X.prog X.w) X.A (newList []) (λacc s₃=>cb (jb X.prog X.w) X.A (newFunctionEnv scope X.env.globals (WD scope X.env) [] X.env.qual none .none (some X.env)) (λcenv s₄=>
   kj (jb X.prog X.w) X.A (.compStart (.ListComp elt [⟨tg,iter,ifs,0⟩] scope pos) 0 (.ref it) acc {cenv with scope:=ip scope X.env}) (RR acc cenv.locals) s₄) E s₃) E s2:=by
 have hfree:H1 s2.heap.objs.size=none:=I.hok.fresh (Uf _);refine qt (Lr ?_);dsimp only;generalize ea:s2.heap.objs.size=a at hfree
 have I3:Inv X pins σ (Lb H1 a (.lst [])) {s2 with heap:=s2.heap.push {cls:=.type "list",dict:=none,data:=.seq ([]:List Da).toArray},toks:=s2.toks}:=by
  subst ea;exact I.laid (t':=s2.toks) (λb u e=>ya _ e) (Uf _) ⟨si _,[],_,.nil,ue _ rfl⟩
 generalize eS:({s2 with heap:=s2.heap.push {cls:=.type "list",dict:=none,data:=.seq ([]:List Da).toArray},toks:=s2.toks}:ka)=s3 at I3;have e3h:s3.heap=s2.heap.push {cls:=.type "list",dict:=none,data:=.seq ([]:List Da).toArray}:=by rw[<-eS]
 have obj0:=T.obj 0 _ st
 have hf3:∀ b∈fp,Qo X pins (Lb H1 a (.lst [])) b:=λb hb=>by
  obtain⟨o,e,_⟩:=obj0 b hb;have:b≠a:=by rw[<-ea];exact ag (sd e)
  exact⟨by rw[Ea this];exact(hf b hb).1,(hf b hb).2⟩
 have up:∀ b o,s2.heap.get? b=some o->s3.heap.get? b=some o:=λb o e=>by rw[e3h];exact ya _ e
 have hf3':∀ b∈fp,Qo X pins (Lb H1 a (.lst [])) b/\b<s3.heap.objs.size:=λb hb=>⟨hf3 b hb,by
  obtain⟨o,e,_⟩:=obj0 b hb
  exact sd (up b o e)⟩
 have eC:(s2.heap.push {cls:=.type "list",dict:=none,data:=.seq ([]:List Da).toArray}).objs.size=s3.heap.objs.size:=by rw[e3h]
 generalize eh:ao ((s2.heap.push {cls:=.type "list",dict:=none,data:=.seq ([]:List Da).toArray}).push {cls:=.type "dict",data:=.dict #[]}) scope.names=h₁
 have hk4:∀ b o,s3.heap.get? b=some o->h₁.get? b=some o:=λb o e=>by
  rw[<-eh,<-e3h];exact qv _ _ _ _ (ya _ e)
 have I4:=UO (tk:=s2.toks) c I3 hf3';have e4:({s3 with heap:=ao (s3.heap.push {cls:=.type "dict",data:=.dict #[]}) scope.names,toks:=s2.toks}:ka)= {s2 with heap:=h₁}:=by rw[<-eh,<-eS]
 rw[e4]at I4
 obtain⟨W,⟨m0,w0⟩,turn⟩:=h a hfree;obtain⟨hg,htt,hte⟩:=hY s3.heap.objs.size fp pins s3 (Lb H1 a (.lst []))
 have loop:kj (jb X.prog X.w) X.A (.compLoop (.ListComp elt [⟨tg,iter,ifs,0⟩] scope pos) 0 (.ref it) (.ref a) (compEnvC scope (NJ scope X.env s3.heap.objs.size) s3.heap.objs.size X.env)) (RR (.ref a) s3.heap.objs.size) {s2 with heap:=h₁}:=by
  refine QA (λn s'=>∃ i xs σ' H',Inv (Pd X scope Nc Nx s3.heap.objs.size fp pins s3 (Lb H1 a (.lst []))) [] σ' H' s'/\tn i s'.heap/\(∀ b∈fp,H' b=none)/\W i n xs σ' H') ?_ m0
   ⟨0,[],_,_,I4,T.keep _ _ _ st λb _ o e=>hk4 b o (up b o e),λb hb=>(hf3 b hb).1,w0⟩
  rintro n s5 ⟨i,xs,σ5,H5,I5,st5,fr5,w5⟩
  have stat:∀ {H':Hp},(∀ b∈fp,H' b=none)->∀ b∈fp,Qo (Pd X scope Nc Nx s3.heap.objs.size fp pins s3 (Lb H1 a (.lst []))) [] H' b:=λ{H'} hn b hb=>by
   obtain⟨_,f1,f2,f3,f4,f5⟩:=hf3 b hb;refine⟨hn b hb,ag (hf3' b hb).2,λz=>?_,.inl hb,λx cc e=>(Ky _ e).elim (λe=>f4 x cc e) λe=>du (vq (hf3' b hb).2 e.1),λp hp=>f5 p ?_⟩
   .rcases xc.mp (I3.stkSub b z) with q|q
    .exact f1 q
    .exact f2 q
   .have z:p∈(X.pn++pins)++ []:=hp
    rwa [kg]at z
  obtain⟨hxs,alt⟩:=turn i n xs σ5 H5 w5;rcases alt with⟨stop,qn⟩|⟨go,step⟩
  .refine se (T.done (Pd X scope Nc Nx s3.heap.objs.size fp pins s3 (Lb H1 a (.lst []))) rfl rfl rfl hcalm i [] s5 σ5 H5 (λ_ _=>False) I5 (stat fr5) st5 stop) (λr s6 ⟨hr,I6⟩=>?_) λ_ _ z=>z;subst hr;exact hRR a H5 σ5 s6 s3 I3 hf3 I6 qn
  .refine se (T.item (Pd X scope Nc Nx s3.heap.objs.size fp pins s3 (Lb H1 a (.lst []))) rfl rfl rfl hcalm i [] s5 σ5 H5 (λ_ _=>False) I5 (stat fr5) st5 go) (λr s6 ⟨u,hr,h6⟩=>?_) λ_ _ z=>z;subst hr;refine se h6 (λ_ s7 ⟨x,H7,I7,r7,y7,st7,fr7⟩=>?_) λ_ _ z=>z;have I7':=I7.pinned (stat fr7) (T.obj _ _ st7)
   have fin:∀ {σ9:L2.St} {H9:Hp} {s9:ka},Inv (Pd X scope Nc Nx s3.heap.objs.size fp pins s3 (Lb H1 a (.lst []))) ([]++Zu fp s7.heap) σ9 H9 s9->Inv (Pd X scope Nc Nx s3.heap.objs.size fp pins s3 (Lb H1 a (.lst []))) [] σ9 H9 s9/\tn (i+1) s9.heap/\(∀ b∈fp,H9 b=none):=λ{σ9 H9 s9} I9=>by
    refine⟨I9.unpinned,T.keep _ _ _ st7 λb hb o e=>(I9.pin (b,o) (vg _ (vg _ (Ql hb e)))).1,λb hb=>?_⟩;obtain⟨o,e,d⟩:=T.obj _ _ st7 b hb;exact(I9.pin (b,o) (vg _ (vg _ (Ql hb e)))).2.1
   refine se (hg _ s7 σ5 H7 x u _ I7' r7 (step x H7 y7)) (λ_ s8 ⟨σ8,H8,I8,q8⟩=>?_) λ_ _ z=>z;refine se (htt _ s8 σ8 H8 _ I8 q8) (λb s9 ⟨H9,I9,q9⟩=>?_) λ_ _ z=>z;cases b with
   |false=>
    obtain⟨m',hm,w9⟩:=q9;obtain⟨J1,J2,J3⟩:=fin I9;exact⟨m',hm,i+1,xs,σ8,H9,J1,J2,J3,w9⟩
   |true=>
    refine se (hte _ s9 σ8 H9 _ I9 q9) (λy s10 ⟨v,H10,I10,r10,q10⟩=>?_) λ_ _ z=>z;obtain⟨e10,hl10,m',hm,w10⟩:=q10;refine se (Br (X:=Pd X scope Nc Nx s3.heap.objs.size fp pins s3 (Lb H1 a (.lst []))) _ s10 σ8 H10 (.ref a) [v] (.ref a) [y] (λ_ H'=>H'=Lb H10 a (.lst (xs++ [v]))) I10 rfl (.cons r10 .nil) ⟨a,xs,v,rfl,rfl,e10,hl10,rfl⟩) (λ_ s11 ⟨_,H11,I11,_,q11⟩=>?_) λ_ _ z=>z;subst q11;obtain⟨J1,J2,J3⟩:=fin I11;exact⟨m',hm,i+1,xs++ [v],σ8,_,J1,J2,J3,w10⟩
 have st4:tn 0 h₁:=T.keep _ _ _ st λb _ o e=>hk4 b o (up b o e);rw[e3h]at loop
 subst ea;exact codeAny_compStart_list loop (T.self _ 0 _ _ _ st4 loop)
theorem DX(c:CompOk X scope Nc Nx)(hcalm:X.calm=true)(hi:PI X tg iter wi)(hY:∀ (C:ia) (fp:List ia) (pins:List (ia×mh)) (s:ka) (H:Hp),PG (Pd X scope Nc Nx C fp pins s H) tg g/\PTs (Pd X scope Nc Nx C fp pins s H) ifs tt/\PE (Pd X scope Nc Nx C fp pins s H) elt te)(hs:∀ x,rj iter X.env x=pure x:=by intro _;rfl):
  PE X (.ListComp elt [⟨tg,iter,ifs,0⟩] scope pos) (KZ Nc.length wi g tt te):=by
 intro pins s σ H Q I h;rw[eval_ListComp];refine wpAny_comprehension_free (use:=none) rfl hs (EU (c.cells I.ok)) c.kind c.loc (thn (hi pins s σ H _ I h) λv s1 h1=>thn h1 λitv s2 h2=>?_);obtain⟨it,fp,tn,J,H2,rfl,I2,T,st2,f2,q⟩:=h2;refine XD (Q:=Q) (RR:=λacc C=>compPost (jb X.prog X.w) X.A X.xe none (EP X pins σ Q) acc C) c hcalm hY I2 T st2 f2 q ?_;intro a H' σ' s' s3 I3 hf3 IY qa;obtain⟨m,hn,_⟩:=IY.loc;exact⟨m,hn,λh' hs'=>⟨.ref a,H',SO I3 hf3 IY hs',rfl,qa⟩⟩
end
open SeqAt
mutual
def Pj:D->D->Bool
 | .non,.non=>true
 | .bl a,.bl b=>a==b
 | .int a,.int b=>a==b
 | .str a,.str b=>a==b
 | .bl a,.int b=>(if a then 1 else 0)==b
 | .int a,.bl b=>a==(if b then 1 else 0)
 | .tup a,.tup b=>WG a b
 | .lst a,.lst b=>WG a b
 |_,_=>false
def WG:List D->List D->Bool
 | [],[]=>true
 |a::as,b::bs=>Pj a b&&WG as bs
 |_,_=>false
end
def Qe:Nat->D->Bool
 |_,.non=>true
 |_,.bl _=>true
 |_,.int _=>true
 |_,.str _=>true
 |n+1,.tup ds=>ds.all (Qe n)
 |n+1,.lst ds=>ds.all (Qe n)
 |_,_=>false
theorem Xq:∀ (as bs:List D),as.length=bs.length->WG as bs=(wo as.length).all λj=>Pj (as.getD j .non) (bs.getD j .non)
 | [],[],_=>by simp[WG]
 |a::as,b::bs,h=>by
  rw[WG,ba,qo,dn,all_map,Xq as bs (by simpa using h)];rfl
 | [],_::_,h=>by simp at h
 |_::_,[],h=>by simp at h
theorem Qy:∀ (as bs:List D),as.length≠bs.length->WG as bs=false
 | [],[],h=>absurd rfl h
 |a::as,b::bs,h=>by rw[WG,Qy as bs (by simpa using h),Bool.and_false]
 | [],_::_,h=>by simp[WG]
 |_::_,[],h=>by simp[WG]
variable{n j:Nat}{its:List Da}
theorem Has.notup{W:WS}{H:Hp}{K:td}(I:Inv X pins σ H s)(h1:SqL X.K H a xs)(h2:SqT X.K H a ys):False:=by
 obtain⟨its,_,⟨o,n,e,c,_⟩,_⟩:=I.list h1;obtain⟨its',_,⟨o',e',c',_⟩,_⟩:=I.tuple h2;rw[e]at e';cases e'
 rw[c]at c'
 exact absurd c' (by simp)
theorem HasT.ref{x:V}(h:HasT K W H d x)(hs:Qe n d=true):
  (d=.non/\x=.non)\/(∃ b,d=.bl b/\x=.bl b)\/(∃ b,d=.int b/\x=.int b)\/(∃ b,d=.str b/\x=.str b)\/
  (∃ ds a xs m,n=m+1/\d=.tup ds/\x=.ref a/\SqT K H a xs/\HasL K W H ds xs/\∀ y∈ds,Qe m y=true)\/
  (∃ ds a xs m,n=m+1/\d=.lst ds/\x=.ref a/\SqL K H a xs/\HasL K W H ds xs/\∀ y∈ds,Qe m y=true):=by
 cases d with
 |non=>exact .inl ⟨rfl,h.non⟩
 |bl b=>exact .inr (.inl ⟨b,rfl,h.bl⟩)
 |int b=>exact .inr (.inr (.inl ⟨b,rfl,h.int⟩))
 |str b=>exact .inr (.inr (.inr (.inl ⟨b,rfl,h.str⟩)))
 |tup ds=>
  obtain⟨a,xs,e,q,r⟩:=h.tup;cases n with
  |zero=>simp[Qe]at hs
  |succ m=>
   rw[Qe,yi]at hs
   exact .inr (.inr (.inr (.inr (.inl ⟨ds,a,xs,m,rfl,rfl,e,q,r,hs⟩))))
 |lst ds=>
  obtain⟨a,xs,e,q,r⟩:=h.lst;cases n with
  |zero=>simp[Qe]at hs
  |succ m=>
   rw[Qe,yi]at hs
   exact .inr (.inr (.inr (.inr (.inr ⟨ds,a,xs,m,rfl,rfl,e,q,r,hs⟩))))
 |dct k ds=>cases n<;>simp[Qe]at hs
 |exc k ds=>cases n<;>simp[Qe]at hs
 |obj c k ds=>cases n<;>simp[Qe]at hs
theorem QN(I:Inv X pins σ H s):∀ (n:Nat) {d e:D} {x:V},HasT X.K W H d x->HasT X.K W H e x->Qe n d=true->Qe n e=true->Pj d e=true:=by
 intro n
 induction n with
 |zero=>
  intro d e x h1 h2 s1 s2;rcases h1.ref s1 with⟨rfl,rfl⟩|⟨b,rfl,rfl⟩|⟨b,rfl,rfl⟩|⟨b,rfl,rfl⟩|⟨_,_,_,m,z,_⟩|⟨_,_,_,m,z,_⟩<;>
  rcases h2.ref s2 with⟨rfl,e2⟩|⟨c,rfl,e2⟩|⟨c,rfl,e2⟩|⟨c,rfl,e2⟩|⟨_,_,_,m',z',_⟩|⟨_,_,_,m',z',_⟩<;>first|(cases z;done)|(cases z';done)|(cases e2;done)|(cases e2;simp[Pj])
 |succ n ih=>
  have lists:∀ {ds es:List D} {xs:List V},HasL X.K W H ds xs->HasL X.K W H es xs->(∀ y∈ds,Qe n y=true)->(∀ y∈es,Qe n y=true)->WG ds es=true:=by
   intro ds
   induction ds with
   |nil=>
    intro es xs h1 h2 _ _;have e1:=h1.length;have e2:=h2.length;cases es with
    |nil=>simp[WG]
    |cons=>simp at e1 e2;omega
   |cons d ds ih2=>
    intro es xs h1 h2 g1 g2;rw[HasL]at h1
    obtain⟨x,r,rfl,q,t⟩:=h1;cases es with
    |nil=>rw[HasL]at h2;cases h2
    |cons e es=>
     rw[HasL]at h2
     obtain⟨x',r',ee,q',t'⟩:=h2;cases ee;rw[WG,ih (.inl q) (.inl q') (g1 d kc) (g2 e kc),ih2 t t' (λy hy=>g1 y (ib _ hy)) λy hy=>g2 y (ib _ hy)];rfl
  intro d e x h1 h2 s1 s2;rcases h1.ref s1 with⟨rfl,rfl⟩|⟨b,rfl,rfl⟩|⟨b,rfl,rfl⟩|⟨b,rfl,rfl⟩|⟨ds,a,xs,m,z,rfl,rfl,q,r,g⟩|⟨ds,a,xs,m,z,rfl,rfl,q,r,g⟩<;>
  rcases h2.ref s2 with⟨rfl,e2⟩|⟨c,rfl,e2⟩|⟨c,rfl,e2⟩|⟨c,rfl,e2⟩|⟨es,a',ys,m',z',rfl,e2,q',r',g'⟩|⟨es,a',ys,m',z',rfl,e2,q',r',g'⟩<;>first|(cases e2;done)|(cases e2;simp[Pj];done)|skip
  .cases e2;cases z;cases z';have:=I.tuple_inj q q';subst this;rw[Pj];exact lists r r' g g'
  .cases e2;exact(Has.notup (K:=X.K) (W:=W) (H:=H) I q' q).elim
  .cases e2;exact(Has.notup (K:=X.K) (W:=W) (H:=H) I q q').elim
  .cases e2;cases z;cases z';have:=I.list_inj q q';subst this;rw[Pj];exact lists r r' g g'
theorem Ct(h:j<ds.length):ds[j]? =some (ds.getD j .non):=by
 rw[qh,qd h];rfl
theorem QI(r:Vals xs its){x:V}(e:xs[j]? =some x)(h:j<its.toArray.size):RelV x its.toArray[j]:=by
 obtain⟨u,h1,h2⟩:=r.get e;have:its.toArray[j]? =some u:=by simpa using h1
 rw[Array.getElem?_eq_getElem h]at this
 cases this;exact h2
theorem items_eqAt(n:Nat)(ih:∀ {d e:D} {x y:V} {v u:Da},HasT X.K W H d x->HasT X.K W H e y->RelV x v->RelV y u->Qe n d=true->Qe n e=true->EqAt A s v u (Pj d e)){its':List Da}(r:HasL X.K W H ds xs)(r':HasL X.K W H es ys)(v:Vals xs its)(v':Vals ys its')(g:∀ y∈ds,Qe n y=true)(g':∀ y∈es,Qe n y=true):
  ∀ j (h1:j<its.toArray.size) (h2:j<its'.toArray.size),EqAt A s its.toArray[j] its'.toArray[j] (Pj (ds.getD j .non) (es.getD j .non)):=by
 intro j h1 h2;have l1:j<ds.length:=by rw[r.length,v.length];simpa using h1
 have l2:j<es.length:=by rw[r'.length,v'.length];simpa using h2
 obtain⟨x,e1,q1⟩:=r.get (Ct l1);obtain⟨y,e2,q2⟩:=r'.get (Ct l2);exact ih (.inl q1) (.inl q2) (QI v e1 h1) (QI v' e2 h2) (g _ (mi (Ct l1))) (g' _ (mi (Ct l2)))
theorem HasT.view(I:Inv X pins σ H s){x:V}{v:Da}(h:HasT X.K W H d x)(rx:RelV x v)(hs:Qe n d=true):
  (d=.non/\v=.none)\/(∃ b,d=.bl b/\v=.bool b)\/(∃ b t,d=.int b/\v=.int b t)\/(∃ b t,d=.str b/\v=.str b t)\/
  (∃ ds a xs its m,n=m+1/\d=.tup ds/\x=.ref a/\v=.ref a/\HasL X.K W H ds xs/\Vals xs its/\s.heap.IsTuple a its.toArray/\∀ y∈ds,Qe m y=true)\/
  (∃ ds a xs its m,n=m+1/\d=.lst ds/\x=.ref a/\v=.ref a/\HasL X.K W H ds xs/\Vals xs its/\s.heap.IsList a its.toArray/\∀ y∈ds,Qe m y=true):=by
 rcases h.ref hs with⟨rfl,rfl⟩|⟨b,rfl,rfl⟩|⟨b,rfl,rfl⟩|⟨b,rfl,rfl⟩|⟨ds,a,xs,m,z,rfl,rfl,q,r,g⟩|⟨ds,a,xs,m,z,rfl,rfl,q,r,g⟩
 .exact .inl ⟨rfl,rx⟩
 .exact .inr (.inl ⟨b,rfl,rx⟩)
 .obtain⟨t,e⟩:=rx;exact .inr (.inr (.inl ⟨b,t,rfl,e⟩))
 .obtain⟨t,e⟩:=rx;exact .inr (.inr (.inr (.inl ⟨b,t,rfl,e⟩)))
 .obtain⟨its,rv,p,_⟩:=I.tuple q;exact .inr (.inr (.inr (.inr (.inl ⟨ds,a,xs,its,m,z,rfl,rfl,rx,r,rv,p,g⟩))))
 .obtain⟨its,rv,p,_⟩:=I.list q;exact .inr (.inr (.inr (.inr (.inr ⟨ds,a,xs,its,m,z,rfl,rfl,rx,r,rv,p.isList,g⟩))))
theorem PN(I:Inv X pins σ H s):∀ (n:Nat) (A:ye) {d e:D} {x y:V} {v u:Da},A.units+n<cLine->HasT X.K W H d x->HasT X.K W H e y->RelV x v->RelV y u->Qe n d=true->Qe n e=true->
  EqAt A s v u (Pj d e)/\RcAt A s v u (Pj d e)/\RcNeAt A s v u (!Pj d e):=by
 intro n
 induction n with
 |zero=>
  intro A d e x y v u hu h1 h2 rx ry s1 s2;rcases h1.view I rx s1 with⟨rfl,rfl⟩|⟨b,rfl,rfl⟩|⟨b,t,rfl,rfl⟩|⟨b,t,rfl,rfl⟩|⟨_,_,_,_,m,z,_⟩|⟨_,_,_,_,m,z,_⟩<;>
  rcases h2.view I ry s2 with⟨rfl,rfl⟩|⟨c,rfl,rfl⟩|⟨c,t',rfl,rfl⟩|⟨c,t',rfl,rfl⟩|⟨_,_,_,_,m',z',_⟩|⟨_,_,_,_,m',z',_⟩<;>first|(cases z;done)|(cases z';done)|skip
  .exact⟨EqAt.same _,RcAt.none_none,RcNeAt.none_none⟩
  .exact⟨EqAt.none_bool _,RcAt.none_bool _,RcNeAt.none_bool _⟩
  .exact⟨EqAt.none_int _ _,RcAt.none_int _ _,RcNeAt.none_int _ _⟩
  .exact⟨EqAt.none_str _ _,RcAt.none_str _ _,RcNeAt.none_str _ _⟩
  .exact⟨EqAt.bool_none _,RcAt.bool_none _,RcNeAt.bool_none _⟩
  .exact⟨EqAt.bool_bool _ _,RcAt.bool_bool _ _,RcNeAt.bool_bool _ _⟩
  .exact⟨EqAt.bool_int _ _ _,RcAt.bool_int _ _ _,RcNeAt.bool_int _ _ _⟩
  .exact⟨EqAt.bool_str _ _ _,RcAt.bool_str _ _ _,RcNeAt.bool_str _ _ _⟩
  .exact⟨EqAt.int_none _ _,RcAt.int_none _ _,RcNeAt.int_none _ _⟩
  .exact⟨EqAt.int_bool _ _ _,RcAt.int_bool _ _ _,RcNeAt.int_bool _ _ _⟩
  .exact⟨EqAt.int_int _ _ _ _,RcAt.int_int _ _ _ _,RcNeAt.int_int _ _ _ _⟩
  .exact⟨EqAt.int_str _ _ _ _,RcAt.int_str _ _ _ _,RcNeAt.int_str _ _ _ _⟩
  .exact⟨EqAt.str_none _ _,RcAt.str_none _ _,RcNeAt.str_none _ _⟩
  .exact⟨EqAt.str_bool _ _ _,RcAt.str_bool _ _ _,RcNeAt.str_bool _ _ _⟩
  .exact⟨EqAt.str_int _ _ _ _,RcAt.str_int _ _ _ _,RcNeAt.str_int _ _ _ _⟩
  .exact⟨EqAt.str_str _ _ _ _,RcAt.str_str _ _ _ _,RcNeAt.str_str _ _ _ _⟩
 |succ n ih=>
  intro A d e x y v u hu h1 h2 rx ry s1 s2;have hu0:A.units<cLine:=by omega
  have hu1:A.in1.units+n<cLine:=by show A.units+1+n<cLine;omega
  have same:=λ(ee:x=y)=>QN I (n+1) h1 (ee▸h2) s1 s2;rcases h1.view I rx s1 with⟨rfl,rfl⟩|⟨b,rfl,rfl⟩|⟨b,t,rfl,rfl⟩|⟨b,t,rfl,rfl⟩|⟨ds,a,xs,its,m,z,rfl,rfl,rfl,r,rv,p,g⟩|⟨ds,a,xs,its,m,z,rfl,rfl,rfl,r,rv,p,g⟩<;>
  rcases h2.view I ry s2 with⟨rfl,rfl⟩|⟨c,rfl,rfl⟩|⟨c,t',rfl,rfl⟩|⟨c,t',rfl,rfl⟩|⟨es,a',ys,its',m',z',rfl,rfl,rfl,r',rv',p2,g'⟩|⟨es,a',ys,its',m',z',rfl,rfl,rfl,r',rv',p2,g'⟩
  all_goals first|cases z|skip
  all_goals first|cases z'|skip
  .exact⟨EqAt.same _,RcAt.none_none,RcNeAt.none_none⟩
  .exact⟨EqAt.none_bool _,RcAt.none_bool _,RcNeAt.none_bool _⟩
  .exact⟨EqAt.none_int _ _,RcAt.none_int _ _,RcNeAt.none_int _ _⟩
  .exact⟨EqAt.none_str _ _,RcAt.none_str _ _,RcNeAt.none_str _ _⟩
  .exact⟨EqAt.none_tuple p2 hu0,RcAt.none_tuple p2 hu0,RcNeAt.none_tuple p2 hu0⟩
  .exact⟨EqAt.none_list p2 hu0,RcAt.none_list p2 hu0,RcNeAt.none_list p2 hu0⟩
  .exact⟨EqAt.bool_none _,RcAt.bool_none _,RcNeAt.bool_none _⟩
  .exact⟨EqAt.bool_bool _ _,RcAt.bool_bool _ _,RcNeAt.bool_bool _ _⟩
  .exact⟨EqAt.bool_int _ _ _,RcAt.bool_int _ _ _,RcNeAt.bool_int _ _ _⟩
  .exact⟨EqAt.bool_str _ _ _,RcAt.bool_str _ _ _,RcNeAt.bool_str _ _ _⟩
  .exact⟨EqAt.bool_tuple _ p2 hu0,RcAt.bool_tuple _ p2 hu0,RcNeAt.bool_tuple _ p2 hu0⟩
  .exact⟨EqAt.bool_list _ p2 hu0,RcAt.bool_list _ p2 hu0,RcNeAt.bool_list _ p2 hu0⟩
  .exact⟨EqAt.int_none _ _,RcAt.int_none _ _,RcNeAt.int_none _ _⟩
  .exact⟨EqAt.int_bool _ _ _,RcAt.int_bool _ _ _,RcNeAt.int_bool _ _ _⟩
  .exact⟨EqAt.int_int _ _ _ _,RcAt.int_int _ _ _ _,RcNeAt.int_int _ _ _ _⟩
  .exact⟨EqAt.int_str _ _ _ _,RcAt.int_str _ _ _ _,RcNeAt.int_str _ _ _ _⟩
  .exact⟨EqAt.int_tuple _ _ p2 hu0,RcAt.int_tuple _ _ p2 hu0,RcNeAt.int_tuple _ _ p2 hu0⟩
  .exact⟨EqAt.int_list _ _ p2 hu0,RcAt.int_list _ _ p2 hu0,RcNeAt.int_list _ _ p2 hu0⟩
  .exact⟨EqAt.str_none _ _,RcAt.str_none _ _,RcNeAt.str_none _ _⟩
  .exact⟨EqAt.str_bool _ _ _,RcAt.str_bool _ _ _,RcNeAt.str_bool _ _ _⟩
  .exact⟨EqAt.str_int _ _ _ _,RcAt.str_int _ _ _ _,RcNeAt.str_int _ _ _ _⟩
  .exact⟨EqAt.str_str _ _ _ _,RcAt.str_str _ _ _ _,RcNeAt.str_str _ _ _ _⟩
  .exact⟨EqAt.str_tuple _ _ p2 hu0,RcAt.str_tuple _ _ p2 hu0,RcNeAt.str_tuple _ _ p2 hu0⟩
  .exact⟨EqAt.str_list _ _ p2 hu0,RcAt.str_list _ _ p2 hu0,RcNeAt.str_list _ _ p2 hu0⟩
  .exact⟨EqAt.tuple_none p hu0,RcAt.tuple_none p hu0,RcNeAt.tuple_none p hu0⟩
  .exact⟨EqAt.tuple_bool _ p hu0,RcAt.tuple_bool _ p hu0,RcNeAt.tuple_bool _ p hu0⟩
  .exact⟨EqAt.tuple_int _ _ p hu0,RcAt.tuple_int _ _ p hu0,RcNeAt.tuple_int _ _ p hu0⟩
  .exact⟨EqAt.tuple_str _ _ p hu0,RcAt.tuple_str _ _ p hu0,RcNeAt.tuple_str _ _ p hu0⟩
  .have he:=items_eqAt (A:=A.in1) n (λh1 h2 rx ry s1 s2=>(ih A.in1 hu1 h1 h2 rx ry s1 s2).1) r r' rv rv' g g';have l1:its.toArray.size=ds.length:=by rw[qc,<-rv.length,r.length]
   have l2:its'.toArray.size=es.length:=by rw[qc,<-rv'.length,r'.length]
   have ee:((wo (min its.toArray.size its'.toArray.size)).all (λj=>Pj (ds.getD j .non) (es.getD j .non))&&its.toArray.size==its'.toArray.size)=Pj (.tup ds) (.tup es):=by
    rw[Pj,l1,l2];by_cases hl:ds.length=es.length
    .rw[Xq ds es hl,<-hl];simp
    .rw[Qy ds es hl];simp[hl]
   have rc:=RcAt.tuples p p2 hu0 he;rw[ee]at rc
   refine⟨?_,rc,?_⟩
   .by_cases ha:a=a'
    .subst ha;rw[same rfl];exact EqAt.same _
    .exact EqAt.of_refs ha rc
   .have rn:=RcNeAt.tuples p p2 hu0 he;rw[ee]at rn
    exact rn
  .exact⟨EqAt.tuple_list p p2 hu0,RcAt.tuple_list p p2 hu0,RcNeAt.tuple_list p p2 hu0⟩
  .exact⟨EqAt.list_none p hu0,RcAt.list_none p hu0,RcNeAt.list_none p hu0⟩
  .exact⟨EqAt.list_bool _ p hu0,RcAt.list_bool _ p hu0,RcNeAt.list_bool _ p hu0⟩
  .exact⟨EqAt.list_int _ _ p hu0,RcAt.list_int _ _ p hu0,RcNeAt.list_int _ _ p hu0⟩
  .exact⟨EqAt.list_str _ _ p hu0,RcAt.list_str _ _ p hu0,RcNeAt.list_str _ _ p hu0⟩
  .exact⟨EqAt.list_tuple p p2 hu0,RcAt.list_tuple p p2 hu0,RcNeAt.list_tuple p p2 hu0⟩
  .have he:=items_eqAt (A:=A.in1) n (λh1 h2 rx ry s1 s2=>(ih A.in1 hu1 h1 h2 rx ry s1 s2).1) r r' rv rv' g g';have l1:its.toArray.size=ds.length:=by rw[qc,<-rv.length,r.length]
   have l2:its'.toArray.size=es.length:=by rw[qc,<-rv'.length,r'.length]
   have both:RcAt A s (.ref a) (.ref a') (Pj (.lst ds) (.lst es))/\RcNeAt A s (.ref a) (.ref a') (!Pj (.lst ds) (.lst es)):=by
    by_cases hl:ds.length=es.length
    .have hsz:its.toArray.size=its'.toArray.size:=by rw[l1,l2,hl]
     have rc:=RcAt.lists p p2 hsz hu0 he;have rn:=RcNeAt.lists p p2 hsz hu0 he;rw[l1,<-Xq ds es hl]at rc rn
     rw[Pj];exact⟨rc,rn⟩
    .have hsz:(its.toArray.size != its'.toArray.size)=true:=by rw[l1,l2];simpa using hl
     rw[Pj,Qy ds es hl];exact⟨RcAt.lists_lengths p p2 hsz hu0,RcNeAt.lists_lengths p p2 hsz hu0⟩
   refine⟨?_,both⟩;by_cases ha:a=a'
   .subst ha;rw[same rfl];exact EqAt.same _
   .exact EqAt.of_refs ha both.1
theorem RE.int(h:RE K xw W H (.ok (.int i)) Q):Q (.int i) H:=h _ H (Same.refl H) (by rw[Has])
theorem RE.bl{i:Bool}(h:RE K xw W H (.ok (.bl i)) Q):Q (.bl i) H:=h _ H (Same.refl H) (by rw[Has])
theorem RE.str{i:ua}(h:RE K xw W H (.ok (.str i)) Q):Q (.str i) H:=h _ H (Same.refl H) (by rw[Has])
theorem RE.non(h:RE K xw W H (.ok .non) Q):Q .non H:=h _ H (Same.refl H) (by rw[Has])
theorem Ye{o:HO}(h:H a=none):Same H (Lb H a o):=λb u e=>by rw[Ea (Sa e h)];exact e
theorem RE.newT{p:ia}(h:RE K xw W H (.ok (.tup ds)) Q)(w:WL W H)(hp:H p=none)(q:HasL K W H ds xs):Q (.ref p) (Lb H p (.tup xs)):=
 h _ _ (Ye hp) (by rw[Has];exact⟨p,xs,rfl,.of Ta,q.same (Ye hp) w⟩)
theorem FW(w:WL W H)(h:H a=none):¬ W a:=λz=>by
 obtain⟨xs,e,_⟩:=w a z;rw[h]at e;cases e
variable{a c b:nc}{es:List nc}{r:R2}{R:V->Hp->Prop}{o o':CmpOp}{fa fb f:Ha->Res D}{ga:Ha->Res Bool}{lo hi:Option nc}{fl fh:Ha->Res (Option Int)}{p2:bh}{op op':D->D->Res D}
section
variable {fc:Ha->Res D}
theorem DE.p(h:DE X xw e f):DP X xw e f:=PE.weak h λσ H Q ⟨W₀,H₀,W,δ,st,q⟩=>⟨W₀,H₀,W,δ,st,by
 cases hf:f δ with
 |ok d=>rw[hf]at q;exact λv H' k h=>q v H' k (.inl h)
 |ex c fs=>rw[hf]at q;exact q
 |stuck=>rw[hf]at q;exact q⟩
theorem DF.de{f:Ha->Res (List D)}(h:DF X xw e f):DE X xw e (λδ=>(f δ).bind λds=>.ok (.lst ds)):=PE.weak h λσ H Q ⟨W₀,H₀,W,δ,st,q⟩=>⟨W₀,H₀,W,δ,st,by
 dsimp only at q;cases hf:f δ with
 |ok d=>
  rw[hf]at q
  refine λa xs H1 k n r=>q _ _ (k.trans (Ye n)) ?_;have w1:=st.fr.wl.same k;rw[Has];exact⟨a,xs,rfl,.inl ⟨Ta,FW w1 n⟩,r.same (Ye n) w1⟩
 |ex c fs=>rw[hf]at q;exact q
 |stuck=>rw[hf]at q;exact q⟩
def Ra(i:Nat)(δ:Ha):Res D:=match δ[i]? with
 |some (some (.d x))=>.ok x
 |_=>.stuck
def Ba(i:Nat)(δ:Ha):Res D:=match δ[i]? with
 |some (some (.d x))=>.ok x
 |some (some (.o ds))=>.ok (.lst ds)
 |_=>.stuck
theorem V0(i:Nat)(hN:X.N[i]? =some x:=by rfl)(hv:Jw X.env.scope x:=by first|exact Or.inl rfl|exact Or.inr (Or.inl rfl)|exact Or.inr (Or.inr rfl))(hd:(x==("__debug__":ua))=false:=by decide)(hcd:(x==("__classdict__":ua))=false:=by decide):DE X xw (.Name x pos) (Ra i):=PE.weak (Ph hN hv hd hcd) λσ H Q ⟨W₀,H₀,W,δ,st,q⟩=>by
 unfold Ra at q;split at q
 .rename_i d h;obtain⟨v,e,r⟩:=st.at' i _ h;exact⟨v,e,q v H (Same.refl H) r⟩
 .exact q.elim
theorem A1(i:Nat)(hN:X.N[i]? =some x:=by rfl)(hv:Jw X.env.scope x:=by first|exact Or.inl rfl|exact Or.inr (Or.inl rfl)|exact Or.inr (Or.inr rfl))(hd:(x==("__debug__":ua))=false:=by decide)(hcd:(x==("__classdict__":ua))=false:=by decide):DP X xw (.Name x pos) (Ba i):=PE.weak (Ph hN hv hd hcd) λσ H Q ⟨W₀,H₀,W,δ,st,q⟩=>by
 unfold Ba at q;split at q
 .rename_i d h;obtain⟨v,e,r⟩:=st.at' i _ h;exact⟨v,e,q v H (Same.refl H) (.inl r)⟩
 .rename_i ds h;obtain⟨v,e,a,xs,r1,r2,r3,r4,r5⟩:=st.at' i _ h;exact⟨v,e,q v H (Same.refl H) (.inr ⟨ds,a,xs,rfl,r1,r4,r5⟩)⟩
 .exact q.elim
theorem F0{j}:DE X xw (.Constant (.int i) j pos) (λ_=>.ok (.int i)):=PE.weak SQ λσ H Q ⟨_,_,_,_,_,q⟩=>q.int
theorem Z7{i:Bool}{j}:DE X xw (.Constant (.bool i) j pos) (λ_=>.ok (.bl i)):=PE.weak F9 λσ H Q ⟨_,_,_,_,_,q⟩=>q.bl
theorem Q0{i:ua}{j}:DE X xw (.Constant (.str i) j pos) (λ_=>.ok (.str i)):=PE.weak UQ λσ H Q ⟨_,_,_,_,_,q⟩=>q.str
theorem M0{j}:DE X xw (.Constant .none j pos) (λ_=>.ok .non):=PE.weak V4 λσ H Q ⟨_,_,_,_,_,q⟩=>q.non
theorem Py{u:Da}(hm:X.mg x=some u)(r:RelV v u)(hd:∀ W H,Has X.K W H d v)(hg:Gl X x:=by rfl)(hdb:(x==("__debug__":ua))=false:=by decide):DE X xw (.Name x pos) (λ_=>.ok d):=
 PE.weak (Mt hg hm r hdb) λσ H Q ⟨_,_,W,_,_,q⟩=>q v H (Same.refl H) (hd W H)
def N7(X:Cx)(xw:XW)(r:R2)(op:D->D->Res D):Prop:=∀ (W:WS) (H:Hp) (d e:D) (v u:V) (Q:VK),WL W H->HasT X.K W H d v->HasT X.K W H e u->RE X.K xw W H (op d e) Q->r v u H Q
theorem Wj{R:V->V->Hp->Prop}(st:StHas X.K W₀ H₀ W H σ δ)(q:RE X.K xw W H ((fa δ).bind λx=>(fb δ).bind λy=>op x y) Q)(h:∀ H2 d e v u,Same H H2->WL W H2->HasT X.K W H2 d v->HasT X.K W H2 e u->fa δ= .ok d->fb δ= .ok e->RE X.K xw W H2 (op d e) Q->R v u H2):
  MI X.K xw fa σ H λx H1=>MI X.K xw fb σ H1 λy H2=>R x y H2:=by
 refine⟨W₀,H₀,W,δ,st,?_⟩;cases h1:fa δ with
 |stuck=>rw[h1]at q;exact q
 |ex c fs=>rw[h1]at q;exact q
 |ok d=>
  rw[h1]at q
  intro v H1 k1 hv;refine⟨W₀,H₀,W,δ,st.same k1,?_⟩;have q':RE X.K xw W H ((fb δ).bind λy=>op d y) Q:=q;cases h2:fb δ with
  |stuck=>rw[h2]at q';exact q'
  |ex c fs=>rw[h2]at q';exact λH2 k2=>q' H2 (k1.trans k2)
  |ok e=>
   rw[h2]at q'
   intro u H2 k2 hu;have q2:RE X.K xw W H (op d e) Q:=q';exact h H2 d e v u (k1.trans k2) (st.fr.wl.same (k1.trans k2)) (hv.same k2 (st.fr.wl.same k1)) hu h1 h2 (q2.same (k1.trans k2))
theorem Wq{o:Operator}(ho:OpR X (yj o) r)(hr:N7 X xw r op)(ha:DP X xw a fa)(hb:DP X xw b fb):
  DE X xw (.BinOp a o b pos) (λδ=>(fa δ).bind λx=>(fb δ).bind λy=>op x y):=
 PE.weak (HZ ho ha hb) λσ H Q ⟨W₀,H₀,W,δ,st,q⟩=>Wj st q λH2 d e v u k w hv hu _ _ q2=>hr W H2 d e v u Q w hv hu q2
theorem JQ:OpR X (yj .Add) (λx y H Q=>∃ a b ys,x=.ref a/\y=.ref b/\SqT X.K H a []/\SqT X.K H b ys/\Q (.ref b) H):=by
 intro pins s σ H x y v u Q I rx ry h;obtain⟨a,b,ys,rfl,rfl,ha,hb,q⟩:=h;cases rx;cases ry;obtain⟨its,r1,p1,_⟩:=I.tuple ha;obtain⟨its2,r2,p2,_⟩:=I.tuple hb;have e0:its= []:=r1.nil_iff.mpr rfl;subst e0;obtain⟨⟨cls,dd,data,sl⟩,ho,hc,n,hd⟩:=id p1;obtain⟨⟨cls2,dd2,data2,sl2⟩,ho2,hc2,n2,hd2⟩:=id p2;simp only at hc hd hc2 hd2;subst hc hd hc2 hd2
 exact concat_meets ⟨_,ho,rfl⟩ ⟨_,ho2,rfl⟩ gu seq_tuple_add jo Go (bn _ _)
   (tuple_addW0 a b _ its2.toArray n n2 dd dd2 sl sl2 (by simp)) ⟨ho,ho2,⟨.ref b,H,I,rfl,q⟩⟩
def Wc:D->D->Res D
 | .int i,.int j=>.ok (.int (i+j))
 | .str x,.str y=>@ite (Res D) (x.length+y.length<=sizeLine) (uc _) (.ok (.str (x++y))) .stuck
 | .tup xs,.tup ys=>@ite (Res D) (xs.length+ys.length<=sizeLine) (uc _) (.ok (.tup (xs++ys))) .stuck
 |_,_=>.stuck
theorem A0(ha:DP X xw a fa)(hb:DP X xw b fb):DE X xw (.BinOp a .Add b pos) (λδ=>(fa δ).bind λx=>(fb δ).bind λy=>Wc x y):=by
 refine Wq ((E4.or CF).or (JQ.or MW)) (λW H d e v u Q w hv hu q=>?_) ha hb;unfold Wc at q;split at q
 .exact .inl (.inl ⟨_,_,hv.int,hu.int,q.int⟩)
 .split at q
  .rename_i hz;exact .inl (.inr ⟨_,_,hv.str,hu.str,hz,q.str⟩)
  .exact q.elim
 .rename_i ds es;split at q
  .rename_i hz;obtain⟨a1,xs,e1,s1,r1⟩:=hv.tup;obtain⟨a2,ys,e2,s2,r2⟩:=hu.tup;by_cases hx:xs= []
   .subst hx
    have hd:ds= []:=by
     have:=r1.length;exact zf (by simpa using this)
    subst hd;refine .inr (.inl ⟨a1,a2,ys,e1,e2,s1,s2,q _ H (Same.refl H) ?_⟩);rw[Has];exact⟨a2,ys,rfl,s2,r2⟩
   .refine .inr (.inr ⟨a1,a2,xs,ys,e1,e2,s1,s2,hx,by rw[<-r1.length,<-r2.length];exact hz,λhy=>?_,λ_ p hp=>q.newT w hp (r1.append r2)⟩);subst hy
    have he:es= []:=by
     have:=r2.length;exact zf (by simpa using this)
    subst he;refine q _ H (Same.refl H) ?_;rw[Has,kg];exact⟨a1,xs,rfl,s1,r1⟩
  .exact q.elim
 .exact q.elim
def JD:D->D->Res D
 | .int i,.int j=>.ok (.int (i-j))
 |_,_=>.stuck
theorem S0(ha:DP X xw a fa)(hb:DP X xw b fb):DE X xw (.BinOp a .Sub b pos) (λδ=>(fa δ).bind λx=>(fb δ).bind λy=>JD x y):=by
 refine Wq N4 (λW H d e v u Q w hv hu q=>?_) ha hb;unfold JD at q;split at q
 .exact⟨_,_,hv.int,hu.int,q.int⟩
 .exact q.elim
def Gf:D->D->Res D
 | .int i,.int j=>@ite (Res D) (0<j) (uc _) (.ok (.int (i%j))) .stuck
 |_,_=>.stuck
theorem K0(ha:DP X xw a fa)(hb:DP X xw b fb):DE X xw (.BinOp a .Mod b pos) (λδ=>(fa δ).bind λx=>(fb δ).bind λy=>Gf x y):=by
 refine Wq G4 (λW H d e v u Q w hv hu q=>?_) ha hb;unfold Gf at q;split at q
 .split at q
  .rename_i hj;exact⟨_,_,hv.int,hu.int,hj,q.int⟩
  .exact q.elim
 .exact q.elim
def Bj:D->D->Res D
 | .int i,.int j=>@ite (Res D) (0<j/\j<1073741824) (uc _) (.ok (.int (i / j))) .stuck
 |_,_=>.stuck
theorem MU(ha:DP X xw a fa)(hb:DP X xw b fb):DE X xw (.BinOp a .FloorDiv b pos) (λδ=>(fa δ).bind λx=>(fb δ).bind λy=>Bj x y):=by
 refine Wq NW (λW H d e v u Q w hv hu q=>?_) ha hb;unfold Bj at q;split at q
 .split at q
  .rename_i hj;exact⟨_,_,hv.int,hu.int,hj,q.int⟩
  .exact q.elim
 .exact q.elim
def ZQ:D->D->Res D
 | .int i,.int j=>@ite (Res D) (0<=j/\j<=1000/\i.natAbs<2^64) (uc _) (.ok (.int (i^j.toNat))) .stuck
 |_,_=>.stuck
theorem P0(ha:DP X xw a fa)(hb:DP X xw b fb):DE X xw (.BinOp a .Pow b pos) (λδ=>(fa δ).bind λx=>(fb δ).bind λy=>ZQ x y):=by
 refine Wq M4 (λW H d e v u Q w hv hu q=>?_) ha hb;unfold ZQ at q;split at q
 .split at q
  .rename_i hj;exact⟨_,_,hv.int,hu.int,⟨hj.1,by omega,hj.2.2⟩,q.int⟩
  .exact q.elim
 .exact q.elim
def Y8:D->D->Res D
 | .int i,.int j=>@ite (Res D) ((-(2^64)<i/\i<2^64)\/(-(2^64)<j/\j<2^64)) (uc _) (.ok (.int (i*j))) .stuck
 |_,_=>.stuck
def Ic0:D->Res D
 | .int i=>.ok (.int (-i))
 |_=>.stuck
theorem Ng{op:D->Res D}(st:StHas X.K W₀ H₀ W H σ δ)(q:RE X.K xw W H ((fa δ).bind op) Q)(h:∀ H2 d v,Same H H2->WL W H2->StHas X.K W₀ H₀ W H2 σ δ->HasT X.K W H2 d v->fa δ= .ok d->RE X.K xw W H2 (op d) Q->R v H2):
  MI X.K xw fa σ H λx H1=>R x H1:=by
 refine⟨W₀,H₀,W,δ,st,?_⟩;cases h1:fa δ with
 |stuck=>rw[h1]at q;exact q
 |ex c fs=>rw[h1]at q;exact q
 |ok d=>
  rw[h1]at q
  intro v H1 k1 hv;exact h H1 d v k1 (st.fr.wl.same k1) (st.same k1) hv h1 (RE.same (r:=op d) q k1)
def Kd(d e:D):Res D:=if(Qe 40 d&&Qe 40 e)=true then .ok (.bl (Pj d e)) else .stuck
def Nu(d e:D):Res D:=if(Qe 40 d&&Qe 40 e)=true then .ok (.bl (!Pj d e)) else .stuck
def NT:D->D->Res D
 | .int i,.int j=>.ok (.bl (decide (i<j)))
 |_,_=>.stuck
def Jx:D->D->Res D
 | .int i,.int j=>.ok (.bl (decide (i<=j)))
 |_,_=>.stuck
def Xy:D->D->Res D
 | .int i,.int j=>.ok (.bl (decide (j<i)))
 |_,_=>.stuck
def K2:D->D->Res D
 | .int i,.int j=>.ok (.bl (decide (j<=i)))
 |_,_=>.stuck
structure CmpR(X:Cx)(xw:XW)(o:CmpOp)(op:D->D->Res D):Prop where
 ex:∃ r,OpR X (yh o) r/\N7 X xw r op
 bl:∀ d e z,op d e=.ok z->∃ k,z=.bl k
 nm:o≠ .In/\o≠ .NotIn
theorem F4(hu:X.A.units+40<cLine):OpR X (yh .Eq) (λx y H Q=>∃ W d e,HasT X.K W H d x/\HasT X.K W H e y/\Qe 40 d=true/\Qe 40 e=true/\Q (.bl (Pj d e)) H):=by
 intro pins s σ H x y v u Q I rx ry h;obtain⟨W,d,e,h1,h2,s1,s2,q⟩:=h;exact(PN I 40 X.A hu h1 h2 rx ry s1 s2).2.1 _ _ _ _ ⟨.bl _,H,I,rfl,q⟩
theorem K4(hu:X.A.units+40<cLine):OpR X (yh .NotEq) (λx y H Q=>∃ W d e,HasT X.K W H d x/\HasT X.K W H e y/\Qe 40 d=true/\Qe 40 e=true/\Q (.bl (!Pj d e)) H):=by
 intro pins s σ H x y v u Q I rx ry h;obtain⟨W,d,e,h1,h2,s1,s2,q⟩:=h;exact(PN I 40 X.A hu h1 h2 rx ry s1 s2).2.2 _ _ _ _ ⟨.bl _,H,I,rfl,q⟩
theorem Ni(hu:X.A.units+40<cLine):CmpR X xw .Eq Kd:=⟨⟨_,F4 hu,λW H d e v u Q w hv hu q=>by
  unfold Kd at q;split at q
  .rename_i hs;rw[qf]at hs
   exact⟨W,d,e,hv,hu,hs.1,hs.2,q.bl⟩
  .exact q.elim⟩,λd e z h=>by unfold Kd at h;split at h<;>cases h;exact⟨_,rfl⟩,by decide,by decide⟩
theorem QM(hu:X.A.units+40<cLine):CmpR X xw .NotEq Nu:=⟨⟨_,K4 hu,λW H d e v u Q w hv hu q=>by
  unfold Nu at q;split at q
  .rename_i hs;rw[qf]at hs
   exact⟨W,d,e,hv,hu,hs.1,hs.2,q.bl⟩
  .exact q.elim⟩,λd e z h=>by unfold Nu at h;split at h<;>cases h;exact⟨_,rfl⟩,by decide,by decide⟩
theorem X7:CmpR X xw .Lt NT:=⟨⟨_,E9,λW H d e v u Q w hv hu q=>by
  unfold NT at q;split at q
  .exact⟨_,_,hv.int,hu.int,q.bl⟩
  .exact q.elim⟩,λd e z h=>by unfold NT at h;split at h<;>cases h;exact⟨_,rfl⟩,by decide,by decide⟩
theorem Ks:CmpR X xw .LtE Jx:=⟨⟨_,D9,λW H d e v u Q w hv hu q=>by
  unfold Jx at q;split at q
  .exact⟨_,_,hv.int,hu.int,q.bl⟩
  .exact q.elim⟩,λd e z h=>by unfold Jx at h;split at h<;>cases h;exact⟨_,rfl⟩,by decide,by decide⟩
theorem GJ:CmpR X xw .Gt Xy:=⟨⟨_,C9,λW H d e v u Q w hv hu q=>by
  unfold Xy at q;split at q
  .exact⟨_,_,hv.int,hu.int,q.bl⟩
  .exact q.elim⟩,λd e z h=>by unfold Xy at h;split at h<;>cases h;exact⟨_,rfl⟩,by decide,by decide⟩
theorem Ub0:CmpR X xw .GtE K2:=⟨⟨_,B9,λW H d e v u Q w hv hu q=>by
  unfold K2 at q;split at q
  .exact⟨_,_,hv.int,hu.int,q.bl⟩
  .exact q.elim⟩,λd e z h=>by unfold K2 at h;split at h<;>cases h;exact⟨_,rfl⟩,by decide,by decide⟩
def Qp(d:D):Res D:=match d with
 | .non=>.ok (.bl true)
 |_=>.ok (.bl false)
theorem HasT.isN(h:HasT K W H d v)(hd:d≠ .non):v≠ .non:=by
 rintro rfl;rcases h with h|⟨ds,a,xs,h1,h2,_⟩
 .cases d with
  |non=>exact hd rfl
  |bl b=>rw[Has]at h;cases h
  |int b=>rw[Has]at h;cases h
  |str b=>rw[Has]at h;cases h
  |tup b=>rw[Has]at h;obtain⟨_,_,z,_⟩:=h;cases z
  |lst b=>rw[Has]at h;obtain⟨_,_,z,_⟩:=h;cases z
  |dct k b=>rw[Has]at h;obtain⟨_,_,z,_⟩:=h;cases z
  |exc k b=>rw[Has]at h;obtain⟨_,_,_,z,_⟩:=h;cases z
  |obj c k b=>rw[Has]at h;obtain⟨_,_,_,_,z,_⟩:=h;cases z
 .cases h2
theorem D0(hc:CmpR X xw o op)(ha:DP X xw a fa)(hb:DP X xw b fb):DE X xw (.Compare a [o] [b] pos) (λδ=>(fa δ).bind λx=>(fb δ).bind λy=>op x y):=by
 obtain⟨⟨r,ho,hr⟩,_,h1,h2⟩:=hc;exact PE.weak (XH ho ha hb (CQ b h1 h2)) λσ H Q ⟨W₀,H₀,W,δ,st,q⟩=>Wj st q λH2 d e v u k w hv hu _ _ q2=>hr W H2 d e v u Q w hv hu q2
def Kp:D->Res Bool
 | .bl k=>.ok k
 |_=>.stuck
theorem DE.t_of(ht:PT X e (tB (OT X.K xw f))):DT X xw e (λδ=>(f δ).bind Kp):=PT.weak ht λσ H Q ⟨W₀,H₀,W,δ,st,q⟩=>by
 dsimp only at q;refine⟨W₀,H₀,W,δ,st,?_⟩;cases h1:f δ with
 |stuck=>rw[h1]at q;exact q
 |ex c fs=>rw[h1]at q;exact q
 |ok d=>
  rw[h1]at q
  intro v H1 k1 hv;have q':RT xw H (Kp d) Q:=q;unfold Kp at q';split at q'
  .rw[Has]at hv
   exact⟨_,hv,q' H1 k1⟩
  .exact q'.elim
theorem DE.t(h:DE X xw e f)(he:∀ whole,isTrue e X.env whole=(do let v <-whole;uu e.pos;mn [v] (truthy v)):=by intro _;rfl):DT X xw e (λδ=>(f δ).bind Kp):=DE.t_of (L5 h he)
theorem K1(hc:CmpR X xw o op)(ha:DP X xw a fa)(hb:DP X xw b fb):DT X xw (.Compare a [o] [b] pos) (λδ=>((fa δ).bind λx=>(fb δ).bind λy=>op x y).bind Kp):=by
 obtain⟨⟨r,ho,hr⟩,_,h1,h2⟩:=hc;refine DE.t_of (f:=λδ=>(fa δ).bind λx=>(fb δ).bind λy=>op x y) (PT.weak (Mz ho ha hb (CQ b h1 h2)) λσ H Q q=>?_);obtain⟨W₀,H₀,W,δ,st,q⟩:=q;exact Wj st q λH2 d e v u k w hv hu _ _ q2=>hr W H2 d e v u _ w hv hu q2
theorem M1{j pos'}(ha:DP X xw a fa):DT X xw (.Compare a [.Is] [.Constant .none j pos'] pos) (λδ=>((fa δ).bind Qp).bind Kp):=
 DE.t_of (f:=λδ=>(fa δ).bind Qp) (PT.weak (ER (Q4 ha)) λσ H Q q=>by
  obtain⟨W₀,H₀,W,δ,st,q⟩:=q
  exact Ng st q λH2 d v k w st2 hv _ q2=>by
   unfold Qp at q2;split at q2
   .rw[hv.non];exact q2.bl
   .rename_i hd
    rw[decide_eq_false (hv.isN hd)];exact q2.bl)
theorem DW.t{g:Ha->Res Bool}(h:DW X xw e g):DT X xw e g:=PW.pt h
def Nj(op op':D->D->Res D)(x y:D)(z:Res D):Res D:=(op x y).bind λk=>match k with
 | .bl true=>z.bind λw=>op' y w
 | .bl false=>.ok (.bl false)
 |_=>.stuck
theorem Wt{o o':CmpOp}{r':R2}(hr:N7 X xw r op)(hr':N7 X xw r' op')(hbl:∀ d e z,op d e=.ok z->∃ k,z=.bl k)(q:OT X.K xw (λδ=>(fa δ).bind λx=>(fb δ).bind λy=>Nj op op' x y (fc δ)) σ H Q):
  VF r r' (MI X.K xw fa) (MI X.K xw fb) (MI X.K xw fc) σ H Q:=by
 obtain⟨W₀,H₀,W,δ,st,q⟩:=q;refine Wj (op:=λx y=>Nj op op' x y (fc δ)) st q λH2 d e v u k w hv hu _ _ q2=>?_;refine hr W H2 d e v u _ w hv hu ?_;unfold Nj at q2;cases h1:op d e with
 |stuck=>rw[h1]at q2;exact q2
 |ex c fs=>rw[h1]at q2;exact q2
 |ok z=>
  obtain⟨k0,rfl⟩:=hbl _ _ _ h1;rw[h1]at q2
  intro v' H3 k3 hv';rw[Has]at hv'
  refine⟨k0,hv',?_⟩;cases k0 with
  |false=>
   have q3:RE X.K xw W H2 (.ok (.bl false)) Q:=q2;rw[if_neg xa];exact(q3.same k3).bl
  |true=>
   rw[if_pos rfl];have q3:RE X.K xw W H2 ((fc δ).bind λw=>op' e w) Q:=q2;refine⟨W₀,H₀,W,δ,(st.same k).same k3,?_⟩;cases h3:fc δ with
   |stuck=>rw[h3]at q3;exact q3
   |ex c fs=>rw[h3]at q3;exact λH' k'=>q3 H' (k3.trans k')
   |ok g=>
    rw[h3]at q3
    intro x4 H4 k4 h4;have q4:RE X.K xw W H2 (op' e g) Q:=q3;exact hr' W H4 e g u x4 Q ((w.same k3).same k4) ((hu.same k3 w).same k4 (w.same k3)) h4 (q4.same (k3.trans k4))
theorem CN(hc:CmpR X xw o op)(hc':CmpR X xw o' op')(ha:DP X xw a fa)(hb:DP X xw b fb)(hcc:DP X xw c fc)(hm:fu [o,o'] [b,c]=false:=by with_unfolding_all rfl):
  DE X xw (.Compare a [o,o'] [b,c] pos) (λδ=>(fa δ).bind λx=>(fb δ).bind λy=>Nj op op' x y (fc δ)):=by
 obtain⟨⟨r,ho,hr⟩,hbl,_⟩:=hc;obtain⟨⟨r',ho',hr'⟩,_,_⟩:=hc';exact PE.weak (NQ ho ho' ha hb hcc hm) λσ H Q q=>Wt (o:=o) (o':=o') hr hr' hbl q
theorem NN(hc:CmpR X xw o op)(hc':CmpR X xw o' op')(ha:DP X xw a fa)(hb:DP X xw b fb)(hcc:DP X xw c fc)(hm:fu [o,o'] [b,c]=false:=by with_unfolding_all rfl):
  DT X xw (.Compare a [o,o'] [b,c] pos) (λδ=>((fa δ).bind λx=>(fb δ).bind λy=>Nj op op' x y (fc δ)).bind Kp):=by
 obtain⟨⟨r,ho,hr⟩,hbl,_⟩:=hc;obtain⟨⟨r',ho',hr'⟩,_,_⟩:=hc';exact DE.t_of (f:=λδ=>(fa δ).bind λx=>(fb δ).bind λy=>Nj op op' x y (fc δ)) (PT.weak (DR ho ho' ha hb hcc hm) λσ H Q q=>Wt (o:=o) (o':=o') hr hr' hbl q)
def TZ(x:Res Bool)(y:Res Bool):Res Bool:=x.bind λk=>if k=true then y else .ok false
def orB(x:Res Bool)(y:Res Bool):Res Bool:=x.bind λk=>if k=true then .ok true else y
variable {gb:Ha->Res Bool}{rest:List nc}
theorem Ir{k:Bool->Res Bool}{Q:Bool->Hp->Prop}{R:Bool->Hp->Prop}(st:StHas X.K W₀ H₀ W H σ δ)(q:RT xw H ((ga δ).bind k) Q)(h:∀ H2 c,Same H H2->StHas X.K W₀ H₀ W H2 σ δ->ga δ= .ok c->RT xw H2 (k c) Q->R c H2):C7 X.K xw ga σ H R:=by
 refine⟨W₀,H₀,W,δ,st,?_⟩;cases h1:ga δ with
 |stuck=>rw[h1]at q;exact q
 |ex c fs=>rw[h1]at q;exact q
 |ok c=>
  rw[h1]at q
  exact λH1 k1=>h H1 c k1 (st.same k1) h1 (RT.same (r:=k c) q k1)
theorem XU(ha:DT X xw a ga):DW X xw (.BoolOp .And [a] pos) ga:=MX ha
theorem Q1(ha:DT X xw a ga):DW X xw (.BoolOp .Or [a] pos) ga:=N5 ha
theorem O1(ha:DT X xw a ga)(hb:DW X xw (.BoolOp .And (b::rest) pos) gb):DW X xw (.BoolOp .And (a::b::rest) pos) (λδ=>TZ (ga δ) (gb δ)):=
 PW.weak (M5 ha hb) λσ H Q ⟨W₀,H₀,W,δ,st,q⟩=>Ir st q λH2 c k st2 _ q2=>by
  cases c with
  |true=>rw[if_pos rfl]at q2 ⊢;exact⟨W₀,H₀,W,δ,st2,q2⟩
  |false=>rw[if_neg xa]at q2 ⊢;exact q2 H2 (Same.refl _)
theorem E8(ha:DT X xw a ga)(hb:DW X xw (.BoolOp .Or (b::rest) pos) gb):DW X xw (.BoolOp .Or (a::b::rest) pos) (λδ=>orB (ga δ) (gb δ)):=
 PW.weak (L9 ha hb) λσ H Q ⟨W₀,H₀,W,δ,st,q⟩=>Ir st q λH2 c k st2 _ q2=>by
  cases c with
  |true=>rw[if_pos rfl]at q2 ⊢;exact q2 H2 (Same.refl _)
  |false=>rw[if_neg xa]at q2 ⊢;exact⟨W₀,H₀,W,δ,st2,q2⟩
theorem N1(ha:DT X xw a ga):DT X xw (.UnaryOp .Not a pos) (λδ=>(ga δ).bind λk=>.ok (!k)):=
 PT.weak (K5 ha) λσ H Q ⟨W₀,H₀,W,δ,st,q⟩=>Ir st q λH2 c k st2 _ q2=>q2 H2 (Same.refl _)
def UZ(x:Res D)(y:Res D):Res D:=x.bind λk=>match k with
 | .bl true=>y
 | .bl false=>.ok (.bl false)
 |_=>.stuck
def orD(x:Res D)(y:Res D):Res D:=x.bind λk=>match k with
 | .bl true=>.ok (.bl true)
 | .bl false=>y
 |_=>.stuck
def DQ:D->Res D
 | .bl k=>.ok (.bl (!k))
 |_=>.stuck
theorem Zk{op:D->Res D}(st:StHas X.K W₀ H₀ W H σ δ)(q:RE X.K xw W H ((fa δ).bind op) Q)(h:∀ H2 d v,Same H H2->WL W H2->StHas X.K W₀ H₀ W H2 σ δ->Has X.K W H2 d v->fa δ= .ok d->RE X.K xw W H2 (op d) Q->R v H2):
  OT X.K xw fa σ H λx H1=>R x H1:=by
 refine⟨W₀,H₀,W,δ,st,?_⟩;cases h1:fa δ with
 |stuck=>rw[h1]at q;exact q
 |ex c fs=>rw[h1]at q;exact q
 |ok d=>
  rw[h1]at q
  intro v H1 k1 hv;exact h H1 d v k1 (st.fr.wl.same k1) (st.same k1) hv h1 (RE.same (r:=op d) q k1)
theorem O0{op}(h:DE X xw a fa):DE X xw (.BoolOp op [a] pos) fa:=X4 h
theorem C0(ha:DE X xw a fa)(hb:DE X xw (.BoolOp .And (b::rest) pos) fb):DE X xw (.BoolOp .And (a::b::rest) pos) (λδ=>UZ (fa δ) (fb δ)):=
 PE.weak (R4 ha hb) λσ H Q ⟨W₀,H₀,W,δ,st,q⟩=>Zk st q λH2 d v k w st2 hv _ q2=>by
  split at q2
  .rw[Has]at hv
   exact⟨true,hv,by rw[if_pos rfl];exact⟨W₀,H₀,W,δ,st2,q2⟩⟩
  .rw[Has]at hv
   exact⟨false,hv,by rw[if_neg xa];exact q2.bl⟩
  .exact q2.elim
theorem C8(ha:DE X xw a fa)(hb:DE X xw (.BoolOp .Or (b::rest) pos) fb):DE X xw (.BoolOp .Or (a::b::rest) pos) (λδ=>orD (fa δ) (fb δ)):=
 PE.weak (J9 ha hb) λσ H Q ⟨W₀,H₀,W,δ,st,q⟩=>Zk st q λH2 d v k w st2 hv _ q2=>by
  split at q2
  .rw[Has]at hv
   exact⟨true,hv,by rw[if_pos rfl];exact q2.bl⟩
  .rw[Has]at hv
   exact⟨false,hv,by rw[if_neg xa];exact⟨W₀,H₀,W,δ,st2,q2⟩⟩
  .exact q2.elim
theorem N0(ha:DE X xw a fa):DE X xw (.UnaryOp .Not a pos) (λδ=>(fa δ).bind DQ):=
 PE.weak (W4 ha) λσ H Q ⟨W₀,H₀,W,δ,st,q⟩=>Zk st q λH2 d v k w st2 hv _ q2=>by
  unfold DQ at q2;split at q2
  .rw[Has]at hv
   exact⟨_,hv,q2.bl⟩
  .exact q2.elim
theorem A8(hc:DT X xw c ga)(ha:DE X xw a fa)(hb:DE X xw b fb):DE X xw (.IfExp c a b pos) (λδ=>(ga δ).bind λk=>if k=true then fa δ else fb δ):=
 PE.weak (PQ hc ha hb) λσ H Q ⟨W₀,H₀,W,δ,st,q⟩=>by
  dsimp only at q;refine⟨W₀,H₀,W,δ,st,?_⟩;cases h1:ga δ with
  |stuck=>rw[h1]at q;exact q
  |ex c fs=>rw[h1]at q;exact q
  |ok k=>
   rw[h1]at q
   intro H1 k1;have q':RE X.K xw W H (if k=true then fa δ else fb δ) Q:=q;cases k with
   |true=>rw[if_pos rfl]at q' ⊢;exact⟨W₀,H₀,W,δ,st.same k1,q'.same k1⟩
   |false=>rw[if_neg xa]at q' ⊢;exact⟨W₀,H₀,W,δ,st.same k1,q'.same k1⟩
variable {fs:Ha->Res (List D)}
theorem ZZ:DA X xw [] (λ_=>.ok []):=PA.weak Zh λσ H Q ⟨W₀,H₀,W,δ,st,q⟩=>q [] H (Same.refl H) HasL.nil
def VG(x:Res D)(r:Res (List D)):Res (List D):=x.bind λd=>r.bind λds=>.ok (d::ds)
theorem JU(ha:DE X xw a fa)(hr:DA X xw es fs)(hs:Fa (a::es) X.env=(false,eval a X.env)::Fa es X.env:=by rfl):DA X xw (a::es) (λδ=>VG (fa δ) (fs δ)):=
 PA.weak (Ie ha hr hs) λσ H Q ⟨W₀,H₀,W,δ,st,q⟩=>by
  refine⟨W₀,H₀,W,δ,st,?_⟩;unfold VG at q;dsimp only at q;cases h1:fa δ with
  |stuck=>rw[h1]at q;exact q
  |ex c fs=>rw[h1]at q;exact q
  |ok d=>
   rw[h1]at q
   intro v H1 k1 hv;refine⟨W₀,H₀,W,δ,st.same k1,?_⟩;have q':RA X.K xw W H ((fs δ).bind λds=>.ok (d::ds)) Q:=q;cases h2:fs δ with
   |stuck=>rw[h2]at q';exact q'
   |ex c gs=>rw[h2]at q';exact λH2 k2=>q' H2 (k1.trans k2)
   |ok ds=>
    rw[h2]at q'
    intro vs H2 k2 hvs;have q2:RA X.K xw W H (.ok (d::ds)) Q:=q';exact q2 (v::vs) H2 (k1.trans k2) (HasL.cons (hv.same k2 (st.fr.wl.same k1)) hvs)
theorem Gk{op:List D->Res D}{R:List V->Hp->Prop}(st:StHas X.K W₀ H₀ W H σ δ)(q:RE X.K xw W H ((fs δ).bind op) Q)(h:∀ H2 ds vs,Same H H2->WL W H2->StHas X.K W₀ H₀ W H2 σ δ->HasL X.K W H2 ds vs->fs δ= .ok ds->RE X.K xw W H2 (op ds) Q->R vs H2):
  B7 X.K xw fs σ H λx H1=>R x H1:=by
 refine⟨W₀,H₀,W,δ,st,?_⟩;cases h1:fs δ with
 |stuck=>rw[h1]at q;exact q
 |ex c gs=>rw[h1]at q;exact q
 |ok d=>
  rw[h1]at q
  intro v H1 k1 hv;exact h H1 d v k1 (st.fr.wl.same k1) (st.same k1) hv h1 (RE.same (r:=op d) q k1)
def Ys(ds:List D):Res D:=@ite (Res D) (ds.length<=1000) (uc _) (.ok (.tup ds)) .stuck
theorem Km:(1000:Nat)<=sizeLine:=by rw[qe];decide
theorem U0{x1}(h:DA X xw es fs):DE X xw (.Tuple es x1 pos) (λδ=>(fs δ).bind Ys):=
 PE.weak (VQ h) λσ H Q ⟨W₀,H₀,W,δ,st,q⟩=>Gk st q λH2 ds vs k w st2 hv _ q2=>by
  unfold Ys at q2;split at q2
  .rename_i hz;exact⟨by rw[<-hv.length];exact bf hz Km,λp hp=>q2.newT w hp hv⟩
  .exact q2.elim
def Oc(ds:List D):Res (List D):=@ite (Res (List D)) (ds.length<=1000) (uc _) (.ok ds) .stuck
theorem W0(h:DA X xw es fs):DF X xw (.List es pos) (λδ=>(fs δ).bind Oc):=
 PE.weak (TQ h) λσ H Q ⟨W₀,H₀,W,δ,st,q⟩=>by
  dsimp only at q;refine⟨W₀,H₀,W,δ,st,?_⟩;cases h1:fs δ with
  |stuck=>rw[h1]at q;exact q
  |ex c gs=>rw[h1]at q;exact q
  |ok ds=>
   rw[h1]at q
   intro vs H1 k1 hv;have q':RF X.K xw W H (Oc ds) Q:=q;unfold Oc at q';split at q'
   .rename_i hz;exact⟨by rw[<-hv.length];exact bf hz Km,λp hp=>q' p vs H1 k1 hp hv⟩
   .exact q'.elim
def Xc:D->D->Res D
 | .tup ds,.int i=>match Ey ds i with
  |some d=>.ok d
  |none=>.stuck
 | .lst ds,.int i=>match Ey ds i with
  |some d=>.ok d
  |none=>.stuck
 | .str z,.int i=>@ite (Res D) (z.length<=sizeLine) (uc _) (match Ey z.cps.toList i with
  |some c=>.ok (.str ⟨#[c]⟩)
  |none=>.stuck) .stuck
 |_,_=>.stuck
theorem MG(r:HasL K W H ds xs)(h:Ey ds i=some d):∃ x,Ey xs i=some x/\Has K W H d x:=by
 unfold Ey at h ⊢;rw[r.length]at h
 cases e:DZ xs.length i with
 |none=>rw[e]at h;cases h
 |some j=>
  rw[e]at h
  obtain⟨x,h1,h2⟩:=r.get (show ds[j]? =some d from h);exact⟨x,h1,h2⟩
theorem B8(ha:DP X xw a fa)(hb:DP X xw b fb)(hs:Ki b:=by intro _ _;rfl):DE X xw (.Subscript a b pos) (λδ=>(fa δ).bind λx=>(fb δ).bind λy=>Xc x y):=
 PE.weak (G9 C3 ha hb hs) λσ H Q ⟨W₀,H₀,W,δ,st,q⟩=>Wj st q λH2 d e v u k w hv hu _ _ q2=>by
  unfold Xc at q2;split at q2
  .split at q2
   .rename_i d' hd;obtain⟨p,xs,e1,sq,r⟩:=hv.tup;obtain⟨x,h1,h2⟩:=MG r hd;exact .inr (.inl ⟨p,xs,_,x,e1,hu.int,sq,h1,q2 x H2 (Same.refl _) h2⟩)
   .exact q2.elim
  .split at q2
   .rename_i d' hd;obtain⟨p,xs,e1,sq,r⟩:=hv.lst;obtain⟨x,h1,h2⟩:=MG r hd;exact .inl ⟨p,xs,_,x,e1,hu.int,sq,h1,q2 x H2 (Same.refl _) h2⟩
   .exact q2.elim
  .split at q2
   .rename_i hz;split at q2
    .rename_i cc hc;exact .inr (.inr ⟨_,_,cc,hv.str,hu.int,hz,hc,q2.str⟩)
    .exact q2.elim
   .exact q2.elim
  .exact q2.elim
def DO(X:Cx)(xw:XW)(e:Option nc)(f:Ha->Res (Option Int)):Prop:=PO X e (λσ H Q=>∃ W₀ H₀ W δ,StHas X.K W₀ H₀ W H σ δ/\match f δ with
 | .ok o=>∀ H',Same H H'->Q o H'
 | .ex c fs=>∀ H',Same H H'->xw c fs H'
 | .stuck=>False)
theorem PO.weak{X:Cx}{e:Option nc}{t t':TO}(h:PO X e t)(k:∀ σ H Q,t' σ H Q->t σ H Q):PO X e t':=λpins s σ H Q I q=>h pins s σ H Q I (k σ H Q q)
theorem RU:DO X xw none (λ_=>.ok none):=PO.weak IX λσ H Q ⟨_,_,_,_,_,q⟩=>q H (Same.refl H)
def Oh:D->Res (Option Int)
 | .int i=>.ok (some i)
 |_=>.stuck
theorem SU(h:DE X xw e f):DO X xw (some e) (λδ=>(f δ).bind Oh):=PO.weak (JX h) λσ H Q ⟨W₀,H₀,W,δ,st,q⟩=>by
 dsimp only at q;refine⟨W₀,H₀,W,δ,st,?_⟩;cases h1:f δ with
 |stuck=>rw[h1]at q;exact q
 |ex c fs=>rw[h1]at q;exact q
 |ok d=>
  rw[h1]at q
  intro v H1 k1 hv;cases d with
  |int i=>rw[Has]at hv;exact⟨i,hv,q H1 k1⟩
  |_=>exact q.elim
def cutD(xs:List D)(lo hi:Option Int):List D:=(xs.drop (HT.sIx xs.length 0 lo)).take (HT.sIx xs.length xs.length hi-HT.sIx xs.length 0 lo)
theorem IU(r:HasL K W H ds xs)(lo hi:Option Int):HasL K W H (cutD ds lo hi) (RJ xs lo hi):=by
 unfold cutD RJ;rw[r.length];exact(r.drop _).take _
def whole(n:Nat)(lo hi:Option Int):Prop:=HT.sIx n 0 lo=0/\HT.sIx n n hi=n
instance {n:Nat}{lo hi:Option Int}:Decidable (whole n lo hi):=inferInstanceAs (Decidable (_/\_))
theorem JI{op:D->Option Int->Option Int->Res α}{R:V->Option Int->Option Int->Hp->Prop}{G:Hp->Res α->Prop}(st:StHas X.K W₀ H₀ W H σ δ)(hex:∀ H c gs,G H (.ex c gs)->∀ H',Same H H'->xw c gs H')(hst:∀ H,G H .stuck->False)(hG:∀ H H' r,Same H H'->G H r->G H' r)(q:G H ((fa δ).bind λx=>(fl δ).bind λl=>(fh δ).bind λu=>op x l u))(h:∀ H2 d v l u,Same H H2->WL W H2->HasT X.K W H2 d v->G H2 (op d l u)->R v l u H2):
  MI X.K xw fa σ H λx H1=>(λσ H Q=>∃ W₀ H₀ W δ,StHas X.K W₀ H₀ W H σ δ/\match fl δ with
 | .ok o=>∀ H',Same H H'->Q o H'
 | .ex c fs=>∀ H',Same H H'->xw c fs H'
 | .stuck=>False:TO) σ H1 λl H2=>(λσ H Q=>∃ W₀ H₀ W δ,StHas X.K W₀ H₀ W H σ δ/\match fh δ with
 | .ok o=>∀ H',Same H H'->Q o H'
 | .ex c fs=>∀ H',Same H H'->xw c fs H'
 | .stuck=>False:TO) σ H2 λu H3=>R x l u H3:=by
 refine⟨W₀,H₀,W,δ,st,?_⟩;cases h1:fa δ with
 |stuck=>rw[h1]at q;exact hst _ q
 |ex c fs=>rw[h1]at q;exact hex _ _ _ q
 |ok d=>
  rw[h1]at q
  intro v H1 k1 hv;refine⟨W₀,H₀,W,δ,st.same k1,?_⟩;have q':G H ((fl δ).bind λl=>(fh δ).bind λu=>op d l u):=q;cases h2:fl δ with
  |stuck=>rw[h2]at q';exact hst _ q'
  |ex c fs=>rw[h2]at q';exact λH2 k2=>hex _ _ _ q' H2 (k1.trans k2)
  |ok l=>
   rw[h2]at q'
   intro H2 k2;refine⟨W₀,H₀,W,δ,(st.same k1).same k2,?_⟩;have q2:G H ((fh δ).bind λu=>op d l u):=q';cases h3:fh δ with
   |stuck=>rw[h3]at q2;exact hst _ q2
   |ex c fs=>rw[h3]at q2;exact λH3 k3=>hex _ _ _ q2 H3 ((k1.trans k2).trans k3)
   |ok u=>
    rw[h3]at q2
    intro H3 k3;have w1:=st.fr.wl.same k1;exact h H3 d v l u ((k1.trans k2).trans k3) (st.fr.wl.same ((k1.trans k2).trans k3)) (hv.same (k2.trans k3) w1) (hG _ _ _ ((k1.trans k2).trans k3) q2)
def FD(d:D)(lo hi:Option Int):Res (List D):=match d with
 | .lst ds=>.ok (cutD ds lo hi)
 |_=>.stuck
theorem X0(ha:DP X xw a fa)(hl:DO X xw lo fl)(hh:DO X xw hi fh):DF X xw (.Subscript a (.Slice lo hi none p2) pos) (λδ=>(fa δ).bind λx=>(fl δ).bind λl=>(fh δ).bind λu=>FD x l u):=
 PE.weak (IC CY ha hl hh) λσ H Q ⟨W₀,H₀,W,δ,st,q⟩=>JI (G:=λH r=>RF X.K xw W H r Q) st (λ_ _ _ q=>q) (λ_ q=>q) (λ_ _ _ k q=>RF.same q k) q λH2 d v l u k w hv q2=>by
  unfold FD at q2;split at q2
  .obtain⟨a1,xs,e1,sq,r⟩:=hv.lst;exact⟨a1,xs,e1,sq,λp hp=>q2 p _ H2 (Same.refl _) hp (IU r l u)⟩
  .exact q2.elim
end
inductive Out where
 |nx (δ:Ha)|rt (d:D)|bk (δ:Ha)|ct (δ:Ha)|ex (c:ua) (fs:List D)|stuck
structure Step(W:WS)(H:Hp)(W':WS)(H':Hp):Prop where
 keep:Yj W H H'
 new:∀ b,W' b->W b\/H b=none
variable{W1:WS}{H2:Hp}
section
variable {W2:WS}
theorem Step.refl:Step W H W H:=⟨λ_ _ e _=>e,λ_ z=>.inl z⟩
theorem Step.same(k:Same H H1):Step W H W H1:=⟨Same.keep k,λ_ z=>.inl z⟩
theorem Step.trans(a:Step W H W1 H1)(b:Step W1 H1 W2 H2):Step W H W2 H2:=by
 refine⟨λc o e n=>b.keep c o (a.keep c o e n) λz=>?_,λc z=>?_⟩
 .rcases a.new c z with q|q
  .exact n q
  .rw[e]at q;cases q
 .rcases b.new c z with q|q
  .exact a.new c q
  .by_cases hw:W c
   .exact .inl hw
   .right;cases e:H c with
    |none=>rfl
    |some o=>rw[a.keep c o e hw]at q;cases q
end
section
variable (K:td)(xw:XW)
def RS(W₀:WS)(H₀:Hp)(W:WS)(H:Hp)(o:Out)(Dn:Ends):Prop:=match o with
 | .nx δ=>∀ W' H' σ,Step W H W' H'->StHas K W₀ H₀ W' H' σ δ->Dn.nx σ H'
 | .bk δ=>∀ W' H' σ,Step W H W' H'->StHas K W₀ H₀ W' H' σ δ->Dn.bk σ H'
 | .ct δ=>∀ W' H' σ,Step W H W' H'->StHas K W₀ H₀ W' H' σ δ->Dn.ct σ H'
 | .rt d=>∀ v H',Same H₀ H'->Has K W₀ H' d v->Dn.rt v H'
 | .ex c fs=>∀ H',Same H₀ H'->xw c fs H'
 | .stuck=>False
def QT(g:Ha->Out):TS:=λDn σ H=>∃ W₀ H₀ W δ,StHas K W₀ H₀ W H σ δ/\RS K xw W₀ H₀ W H (g δ) Dn
end
def DS(X:Cx)(xw:XW)(st:yf)(g:Ha->Out):Prop:=PS X st (QT X.K xw g)
def FT(X:Cx)(xw:XW)(sts:List yf)(g:Ha->Out):Prop:=PSs X sts (QT X.K xw g)
variable{t':TS}{st:yf}
theorem PS.weak{t:TS}(h:PS X st t)(k:∀ Dn σ H,t' Dn σ H->t Dn σ H):PS X st t':=λpins s σ H Dn I q=>h pins s σ H Dn I (k Dn σ H q)
theorem PSs.weak{st:List yf}{t:TS}(h:PSs X st t)(k:∀ Dn σ H,t' Dn σ H->t Dn σ H):PSs X st t':=λpins s σ H Dn I q=>h pins s σ H Dn I (k Dn σ H q)
variable{Dn:Ends}
section
variable {o:Out}
theorem RS.step(h:RS K xw W₀ H₀ W H o Dn)(k:Step W H W1 H1):RS K xw W₀ H₀ W1 H1 o Dn:=by
 cases o with
 |nx δ=>exact λW' H' σ k' st=>h W' H' σ (k.trans k') st
 |bk δ=>exact λW' H' σ k' st=>h W' H' σ (k.trans k') st
 |ct δ=>exact λW' H' σ k' st=>h W' H' σ (k.trans k') st
 |rt d=>exact h
 |ex c fs=>exact h
 |stuck=>exact h
end
def Pm(r:Res α)(k:α->Out):Out:=match r with
 | .ok a=>k a
 | .ex c fs=>.ex c fs
 | .stuck=>.stuck
def Bp(o:Out)(g:Ha->Out):Out:=match o with
 | .nx δ=>g δ
 |o=>o
variable{vs:List V}{k:Nat}{g:Ha->Out}{pos':bh}{ff fi:Ha->Res (List D)}
section
variable {sts:List yf}{g1 g2:Ha->Out}
theorem UU:FT X xw [] .nx:=PSs.weak BI λDn σ H ⟨W₀,H₀,W,δ,st,q⟩=>q W H σ Step.refl st
theorem MN(h1:DS X xw st g1)(h2:FT X xw sts g2):FT X xw (st::sts) (λδ=>Bp (g1 δ) g2):=PSs.weak (Av h1 h2) λDn σ H ⟨W₀,H₀,W,δ,st,q⟩=>by
 refine⟨W₀,H₀,W,δ,st,?_⟩;dsimp only at q;cases h:g1 δ with
 |nx δ'=>
  rw[h]at q
  exact λW' H' σ' k st'=>⟨W₀,H₀,W',δ',st',RS.step (o:=g2 δ') q k⟩
 |bk δ'=>rw[h]at q;exact q
 |ct δ'=>rw[h]at q;exact q
 |rt d=>rw[h]at q;exact q
 |ex c fs=>rw[h]at q;exact q
 |stuck=>rw[h]at q;exact q
theorem VU(h1:DS X xw st g1):FT X xw [st] g1:=Lz h1
theorem Wm{k:D->Out}(st:StHas X.K W₀ H₀ W H σ δ)(q:RS X.K xw W₀ H₀ W H (Pm (f δ) k) Dn)(h:∀ H2 d v,StHas X.K W₀ H₀ W H2 σ δ->Has X.K W H2 d v->RS X.K xw W₀ H₀ W H2 (k d) Dn->R v H2):OT X.K xw f σ H R:=by
 refine⟨W₀,H₀,W,δ,st,?_⟩;cases h1:f δ with
 |stuck=>rw[h1]at q;exact q
 |ex c fs=>rw[h1]at q;exact λH' k'=>q H' (st.fr.ext.trans k')
 |ok d=>
  rw[h1]at q
  exact λv H1 k1 hv=>h H1 d v (st.same k1) hv (RS.step (o:=k d) q (Step.same k1))
theorem F1(he:DE X xw e f):DS X xw (.Return (some e) pos) (λδ=>Pm (f δ) λd=>.rt d):=PS.weak (GF he) λDn σ H ⟨W₀,H₀,W,δ,st,q⟩=>
 Wm st q λH2 d v st2 hv q2=>q2 v H2 st2.fr.ext (Has.keep (λ_ _ e _=>e) st2.fr.wl (λb z=>.inl (st2.fr.sub b z)) hv)
theorem TU(i:Nat)(hN:X.N[i]? =some x:=by rfl)(hv:Jw X.env.scope x:=by first|exact Or.inl rfl|exact Or.inr (Or.inl rfl)|exact Or.inr (Or.inr rfl))(hd:(x==("__debug__":ua))=false:=by decide)(hcd:(x==("__classdict__":ua))=false:=by decide):DS X xw (.Return (some (.Name x pos')) pos) (λδ=>Pm (Ba i δ) λd=>.rt d):=PS.weak (GF (Ph hN hv hd hcd)) λDn σ H ⟨W₀,H₀,W,δ,st,q⟩=>by
 have up:∀ b,W₀ b->W b\/H b=none:=λb z=>.inl (st.fr.sub b z);unfold Ba at q;dsimp only at q;split at q
 .rename_i d h;obtain⟨v,e,r⟩:=st.at' i _ h;exact⟨v,e,q v H st.fr.ext (Has.keep (λ_ _ e _=>e) st.fr.wl up r)⟩
 .rename_i ds h;obtain⟨v,e,a,xs,r1,r2,r3,r4,r5⟩:=st.at' i _ h;refine⟨v,e,q v H st.fr.ext ?_⟩;rw[Has];refine⟨a,xs,r1,.inl ⟨r4,λz=>?_⟩,HasL.keep (λ_ _ e _=>e) st.fr.wl up r5⟩;obtain⟨ys,z',_⟩:=st.fr.wl0 a z;rw[r3]at z';cases z'
 .exact q.elim
theorem G1(i:Nat)(hN:X.N.Nodup)(he:DE X xw e f)(hi:X.N[i]? =some x:=by rfl)(hx:Loc X.env.scope x:=by first|exact Or.inl rfl|exact Or.inr rfl)(hs:ki e (some (.Name x pos')) pos.line X.env=pure false:=by rfl)(hf:X.fn x=true\/X.env.scope.names.lookup x=some .local:=by first|exact .inl rfl|exact .inr rfl|assumption):DS X xw (.Assign [.Name x pos'] e pos) (λδ=>Pm (f δ) λd=>.nx (δ.set i (some (.d d)))):=
 PS.weak (HF hN hi hx he hs hf) λDn σ H ⟨W₀,H₀,W,δ,st,q⟩=>Wm st q λH2 d v st2 hv q2=>q2 W H2 _ Step.refl (st2.set hv)
theorem VP{i:Nat}(st:StHas X.K W₀ H₀ W H σ δ)(q:RS X.K xw W₀ H₀ W H (Pm (ff δ) λds=>.nx (δ.set i (some (.o ds)))) Dn):
  tDF X.K xw ff σ H λx H1=>JO i x σ H1 Dn.nx:=by
 refine⟨W₀,H₀,W,δ,st,?_⟩;cases h1:ff δ with
 |stuck=>rw[h1]at q;exact q
 |ex c fs=>rw[h1]at q;exact λH' k'=>q H' (st.fr.ext.trans k')
 |ok ds=>
  rw[h1]at q
  intro a xs H1 k n r;have st1:=(st.same k).own (i:=i) n r;refine q _ _ _ ⟨λb o e nb=>?_,λb z=>z.elim .inl λz=>.inr (by rw[z];exact Same.free k n)⟩ st1;rw[Ea (Sa (k b o e) n)];exact k b o e
theorem E1(i:Nat)(hN:X.N.Nodup)(he:DF X xw e ff)(hi:X.N[i]? =some x:=by rfl)(hx:Loc X.env.scope x:=by first|exact Or.inl rfl|exact Or.inr rfl)(hs:ki e (some (.Name x pos')) pos.line X.env=pure false:=by rfl)(hf:X.fn x=true\/X.env.scope.names.lookup x=some .local:=by first|exact .inl rfl|exact .inr rfl|assumption):DS X xw (.Assign [.Name x pos'] e pos) (λδ=>Pm (ff δ) λds=>.nx (δ.set i (some (.o ds)))):=
 PS.weak (HF hN hi hx he hs hf) λDn σ H ⟨W₀,H₀,W,δ,st,q⟩=>VP st q
def ifO(c:Res Bool)(a b:Out):Out:=Pm c λk=>if k=true then a else b
variable {as bs:List yf}
theorem D8(hc:DT X xw c ga)(ha:FT X xw as g1)(hb:FT X xw bs g2):DS X xw (.If c as bs pos) (λδ=>ifO (ga δ) (g1 δ) (g2 δ)):=PS.weak (K9 hc ha hb) λDn σ H ⟨W₀,H₀,W,δ,st,q⟩=>by
 refine⟨W₀,H₀,W,δ,st,?_⟩;unfold ifO at q;dsimp only at q;cases h1:ga δ with
 |stuck=>rw[h1]at q;exact q
 |ex c fs=>rw[h1]at q;exact λH' k'=>q H' (st.fr.ext.trans k')
 |ok k=>
  rw[h1]at q
  intro H1 k1;have q':RS X.K xw W₀ H₀ W H (if k=true then g1 δ else g2 δ) Dn:=q;cases k with
  |true=>rw[if_pos rfl]at q' ⊢;exact⟨W₀,H₀,W,δ,st.same k1,q'.step (Step.same k1)⟩
  |false=>rw[if_neg xa]at q' ⊢;exact⟨W₀,H₀,W,δ,st.same k1,q'.step (Step.same k1)⟩
def tDG(K:td)(t:D->Ha->Res Ha):TG:=λv σ H Q=>∃ W₀ H₀ W δ d,StHas K W₀ H₀ W H σ δ/\Has K W H d v/\match t d δ with
 | .ok δ'=>∀ σ',StHas K W₀ H₀ W H σ' δ'->Q σ' H
 |_=>False
def DG(X:Cx)(tg:nc)(t:D->Ha->Res Ha):Prop:=PG X tg (tDG X.K t)
theorem PG.weak{X:Cx}{tg:nc}{t t':TG}(h:PG X tg t)(k:∀ v σ H Q,t' v σ H Q->t v σ H Q):PG X tg t':=λpins s σ H v u Q I r q=>h pins s σ H v u Q I r (k v σ H Q q)
def Cc(i:Nat)(d:D)(δ:Ha):Res Ha:=.ok (δ.set i (some (.d d)))
theorem OU(i:Nat)(hN:X.N.Nodup)(hi:X.N[i]? =some x:=by rfl)(hx:Loc X.env.scope x:=by first|exact Or.inl rfl|exact Or.inr rfl)(hf:X.fn x=true\/X.env.scope.names.lookup x=some .local:=by first|exact .inl rfl|exact .inr rfl|assumption):
  DG X (.Name x pos) (Cc i):=PG.weak (GX hN hi hx hf) λv σ H Q ⟨W₀,H₀,W,δ,d,st,hv,q⟩=>q _ (st.set hv)
def Cd0(K:td)(t:List D->Ha->Res Ha):VT:=λvs σ H Q=>∃ W₀ H₀ W δ ds,StHas K W₀ H₀ W H σ δ/\HasL K W H ds vs/\match t ds δ with
 | .ok δ'=>∀ σ',StHas K W₀ H₀ W H σ' δ'->Q σ' H
 |_=>False
def G7(X:Cx)(tgs:List nc)(t:List D->Ha->Res Ha):Prop:=PGs X tgs (Cd0 X.K t)
theorem PGs.weak{X:Cx}{tg:List nc}{t t':VT}(h:PGs X tg t)(k:∀ v σ H Q,t' v σ H Q->t v σ H Q):PGs X tg t':=λpins s σ H v u Q I r q=>h pins s σ H v u Q I r (k v σ H Q q)
def Fs(ds:List D)(δ:Ha):Res Ha:=match ds with
 | []=>.ok δ
 |_=>.stuck
def Ji(t:D->Ha->Res Ha)(r:List D->Ha->Res Ha)(ds:List D)(δ:Ha):Res Ha:=match ds with
 |d::ds=>(t d δ).bind λδ'=>r ds δ'
 | []=>.stuck
variable {tgs:List nc}{t:D->Ha->Res Ha}{ts:List D->Ha->Res Ha}
theorem PU:G7 X [] Fs:=PGs.weak HX λvs σ H Q ⟨W₀,H₀,W,δ,ds,st,hv,q⟩=>by
 unfold Fs at q;cases ds with
 |nil=>rw[HasL]at hv;exact⟨hv,q σ st⟩
 |cons=>exact q.elim
theorem HN(h1:DG X tg t)(h2:G7 X tgs ts)(hs:(gh (tg::tgs) X.env).map (·.2)=wu tg X.env::(gh tgs X.env).map (·.2):=by rfl):G7 X (tg::tgs) (Ji t ts):=
 PGs.weak (WQ h1 h2 hs) λvs σ H Q ⟨W₀,H₀,W,δ,ds,st,hv,q⟩=>by
  unfold Ji at q;cases ds with
  |nil=>exact q.elim
  |cons d ds=>
   rw[HasL]at hv
   obtain⟨x,r,e,h,hr⟩:=hv;refine⟨x,r,e,W₀,H₀,W,δ,d,st,h,?_⟩;dsimp only at q;cases h1:t d δ with
   |stuck=>rw[h1]at q;exact q
   |ex c fs=>rw[h1]at q;exact q
   |ok δ'=>
    rw[h1]at q
    exact λσ' st'=>⟨W₀,H₀,W,δ',ds,st',hr,q⟩
def Gs(n:Nat)(ts:List D->Ha->Res Ha)(d:D)(δ:Ha):Res Ha:=match d with
 | .tup ds=>if ds.length=n then ts ds δ else .stuck
 |_=>.stuck
theorem Y0(hc:X.calm=true)(h:G7 X tgs ts)(hn:(gh tgs X.env).length=n:=by rfl)(hst:(gh tgs X.env).findIdx? (·.1)=none:=by rfl):DG X (.Tuple tgs k pos) (Gs n ts):=
 PG.weak (A5 hc h hn hst) λv σ H Q ⟨W₀,H₀,W,δ,d,st,hv,q⟩=>by
  unfold Gs at q;cases d with
  |tup ds=>
   dsimp only at q;split at q
   .rename_i hl;split at hl
    .rename_i hl';rw[Has]at hv
     obtain⟨a,xs,e,sq,r⟩:=hv;refine⟨a,xs,e,sq,by rw[<-r.length];exact hl',W₀,H₀,W,δ,ds,st,r,?_⟩;rw[hl];exact q
    .cases hl
   .exact q.elim
  |_=>exact q.elim
def JM(K:td)(W:WS)(H:Hp)(J:It)(ds:List D):Prop:=∀ W' H2,Step W H W' H2->WL W' H2->
 (∀ i d,ds[i]? =some d->J.go i H2/\∀ x H3,J.yld i H2 x H3->Same H2 H3/\Has K W' H3 d x)/\J.stop ds.length H2
def tDI(K:td)(xw:XW)(f:Ha->Res (List D)):TI:=λσ H R=>∃ W₀ H₀ W δ,StHas K W₀ H₀ W H σ δ/\match f δ with
 | .ok ds=>∀ J H',Same H H'->JM K W H' J ds->R J H'
 | .ex c fs=>∀ H',Same H H'->xw c fs H'
 | .stuck=>False
def DI(X:Cx)(xw:XW)(tg iter:nc)(f:Ha->Res (List D)):Prop:=PI X tg iter (tDI X.K xw f)
theorem PI.weak{X:Cx}{tg:nc}{t t':TI}(h:PI X tg iter t)(k:∀ σ H R,t' σ H R->t σ H R):PI X tg iter t':=λpins s σ H R I q=>h pins s σ H R I (k σ H R q)
theorem SqL.lr{a:ia}(h:LR K W H a xs)(k:Step W H W' H2)(w:WL W H):LR K W' H2 a xs:=h.keep k.keep w k.new
theorem V2{a:ia}(w:WL W H)(h:LR K W H a xs)(r:HasL K W H ds xs):JM K W H (Itl K a) ds:=by
 intro W' H2 k w2;have h2:=(SqL.lr h k w).sq;refine⟨λi d e=>?_,xs,h2,by rw[r.length];exact Uf _⟩;obtain⟨x,e1,hx⟩:=r.get e;refine⟨⟨xs,x,h2,e1⟩,λy H3 z=>?_⟩;obtain⟨rfl,z⟩:=z
 have:y=x:=by
  have q:=z xs h2;rw[e1]at q;exact(jc q).symm
 subst this;exact⟨Same.refl _,Has.keep k.keep w k.new hx⟩
theorem B3{a:ia}(w:WL W H)(h:SqT K H a xs)(r:HasL K W H ds xs):JM K W H (Itt K a) ds:=by
 intro W' H2 k w2;have h2:=Lv k.keep w h;refine⟨λi d e=>?_,xs,h2,by rw[r.length];exact Uf _⟩;obtain⟨x,e1,hx⟩:=r.get e;refine⟨⟨xs,x,h2,e1⟩,λy H3 z=>?_⟩;obtain⟨rfl,z⟩:=z
 have:y=x:=by
  have q:=z xs h2;rw[e1]at q;exact(jc q).symm
 subst this;exact⟨Same.refl _,Has.keep k.keep w k.new hx⟩
def Zj(lo:Int)(n:Nat):List D:=(wo n).map λ(i:Nat)=>D.int (lo+i)
theorem Y2(lo:Int)(n:Nat):JM K W H (Itr lo n) (Zj lo n):=by
 intro W' H2 k w2;unfold Zj;refine⟨λi d e=>?_,by simp[Itr]⟩;rw[wg]at e
 have hi:i<n:=by
  refine bp λz=>?_;rw[yk (by simpa using z)]at e;cases e
 rw[nq hi]at e
 have e':D.int (lo+(i:Nat))=d:=jc e;subst e';refine⟨hi,λx H3 z=>?_⟩;obtain⟨rfl,rfl⟩:=z;exact⟨Same.refl _,by rw[Has]⟩
def Xe(ds:List D):Res (List D):=match ds with
 | [.int j]=>@ite (Res (List D)) (-(2^62)<=j/\j<2^62) (uc _) (.ok (Zj 0 j.toNat)) .stuck
 |_=>.stuck
theorem HasL.one(h:HasL K W H [.int i] vs):vs= [.int i]:=by
 rw[HasL]at h
 obtain⟨x,r,rfl,h1,h2⟩:=h;rw[HasL]at h2
 rw[Has]at h1
 rw[h1,h2]
variable {fs:Ha->Res (List D)}{p:bh}
theorem TJ(hm:X.mg "range"=none)(ha:DA X xw [a] fs)(hg:Gl X "range":=by rfl)(hs:Fa [a] X.env= [(false,eval a X.env)]:=by rfl):DI X xw tg (.Call (.Name "range" p) [a] [] pos) (λδ=>(fs δ).bind Xe):=
 PI.weak (ZK hg hm ha hs) λσ H R ⟨W₀,H₀,W,δ,st,q⟩=>by
  refine⟨W₀,H₀,W,δ,st,?_⟩;dsimp only at q;cases h1:fs δ with
  |stuck=>rw[h1]at q;exact q
  |ex c fs=>rw[h1]at q;exact q
  |ok ds=>
   rw[h1]at q
   intro vs H1 k1 hv;dsimp only[Res.bind]at q;unfold Xe at q;split at q
   .rename_i ds' hq;split at hq
    .rename_i j;split at hq
     .rename_i hj;have e':Zj 0 j.toNat=ds':=by cases hq;rfl
      subst e';exact⟨j,hv.one,hj.1,hj.2,q _ H1 k1 (Y2 0 _)⟩
     .cases hq
    .cases hq
   .rename_i hq;split at hq
    .split at hq<;>cases hq
    .cases hq
   .exact q.elim
def Te(t:D->Ha->Res Ha)(body:Ha->Out):List D->Ha->Out
 | [],δ=>.nx δ
 |d::ds,δ=>match t d δ with
  | .ok δ'=>match body δ' with
   | .nx δ2=>Te t body ds δ2
   | .ct δ2=>Te t body ds δ2
   | .bk δ2=>.nx δ2
   | .rt d=>.rt d
   | .ex c fs=>.ex c fs
   | .stuck=>.stuck
  |_=>.stuck
theorem D1(hp:PassesOwn (jb X.prog X.w) X.A X.env X.xe)(hc:X.calm=true)(hi:DI X xw tg iter fi)(hg:DG X tg t)(hb:FT X xw sts g)(hs:∀ x,rj iter X.env x=pure x:=by intro _;rfl):DS X xw (.For tg iter sts [] pos) (λδ=>Pm (fi δ) λds=>Te t g ds δ):=
 PS.weak (J5 hp hc hi hg hb hs) λDn σ H ⟨W₀,H₀,W,δ,st,q⟩=>by
  refine⟨W₀,H₀,W,δ,st,?_⟩;dsimp only at q;cases h1:fi δ with
  |stuck=>rw[h1]at q;exact q
  |ex c fs=>rw[h1]at q;exact λH' k'=>q H' (st.fr.ext.trans k')
  |ok ds=>
   rw[h1]at q
   intro J H1 k1 it;have q1:RS X.K xw W₀ H₀ W H1 (Te t g ds δ) Dn:=RS.step (o:=Te t g ds δ) q (Step.same k1)
   refine⟨λi m σ' H'=>∃ W' δ',m=ds.length-i/\i<=ds.length/\StHas X.K W₀ H₀ W' H' σ' δ'/\Step W H1 W' H'/\RS X.K xw W₀ H₀ W' H' (Te t g (ds.drop i) δ') Dn,
    ⟨_,W,δ,rfl,si _,st.same k1,Step.refl,q1⟩,?_⟩
   rintro i m σ' H' ⟨W',δ',rfl,hi,st',k',q'⟩;obtain⟨items,stop⟩:=it W' H' k' st'.fr.wl;by_cases hl:i<ds.length
   .right;have e:ds[i]? =some ds[i]:=qd hl;obtain⟨go,yld⟩:=items i _ e;have ed:ds.drop i=ds[i]::ds.drop (i+1):=yr hl;rw[ed]at q'
    unfold Te at q';refine⟨go,λσ2 H2=>∃ W2 δ2,StHas X.K W₀ H₀ W2 H2 σ2 δ2/\Step W H1 W2 H2/\RS X.K xw W₀ H₀ W2 H2 (Te t g (ds.drop (i+1)) δ2) Dn,λσ2 H2 ⟨W2,δ2,a1,a2,a3⟩=>⟨ds.length-(i+1),by omega,W2,δ2,rfl,hl,a1,a2,a3⟩,λx H3 z=>?_⟩;obtain⟨k3,hx⟩:=yld x H3 z;refine⟨W₀,H₀,W',δ',ds[i],st'.same k3,hx,?_⟩;cases h2:t ds[i] δ' with
    |stuck=>rw[h2]at q';exact q'
    |ex c fs=>rw[h2]at q';exact q'
    |ok δ2=>
     rw[h2]at q'
     intro σ2 st2;refine⟨W₀,H₀,W',δ2,st2,?_⟩;dsimp only at q';have kk:Step W' H' W' H3:=Step.same k3;cases h3:g δ2 with
     |nx δ3=>rw[h3]at q';exact λW3 H4 σ3 k4 st3=>⟨W3,δ3,st3,(k'.trans kk).trans k4,RS.step (o:=Te t g (ds.drop (i+1)) δ3) q' (kk.trans k4)⟩
     |ct δ3=>rw[h3]at q';exact λW3 H4 σ3 k4 st3=>⟨W3,δ3,st3,(k'.trans kk).trans k4,RS.step (o:=Te t g (ds.drop (i+1)) δ3) q' (kk.trans k4)⟩
     |bk δ3=>rw[h3]at q';exact λW3 H4 σ3 k4 st3=>q' W3 H4 σ3 (kk.trans k4) st3
     |rt d=>rw[h3]at q';exact q'
     |ex c fs=>rw[h3]at q';exact q'
     |stuck=>rw[h3]at q';exact q'
   .left;have ei:i=ds.length:=by omega
    subst ei;rw[List.drop_length]at q'
    exact⟨stop,q' W' H' σ' Step.refl st'⟩
def KG(c:Ha->Res Bool)(body:Ha->Out):Nat->Ha->Out
 |0,_=>.stuck
 |n+1,δ=>match c δ with
  | .ok true=>match body δ with
   | .nx δ2=>KG c body n δ2
   | .ct δ2=>KG c body n δ2
   | .bk δ2=>.nx δ2
   | .rt d=>.rt d
   | .ex c fs=>.ex c fs
   | .stuck=>.stuck
  | .ok false=>.nx δ
  | .ex c fs=>.ex c fs
  | .stuck=>.stuck
end
def noex:Res α->Res α
 | .ok a=>.ok a
 |_=>.stuck
def Ug(t:D->Ha->Res Ha)(c:Ha->Res Bool)(fe:Ha->Res D):List D->Ha->Res (List D)
 | [],_=>.ok []
 |d::ds,δ=>match t d δ with
  | .ok δ'=>(noex (c δ')).bind λk=>if k=true then(noex (fe δ')).bind λx=>(Ug t c fe ds δ').bind λr=>.ok (x::r) else Ug t c fe ds δ'
  |_=>.stuck
abbrev Nr:XW:=λ_ _ _=>False
section
variable {a:ia}
theorem StHas.acc(h:StHas K W₀ (Lb H₀ a (.lst xs)) W H σ δ)(ha:H a=some (.lst xs))(hW:W a):StHas K W₀ (Lb H₀ a (.lst ys)) W (Lb H a (.lst ys)) σ δ:=by
 have kk:Yj W H (Lb H a (.lst ys)):=λb o e n=>by
  rw[Ea (λz=>n (by rw[z];exact hW))];exact e
 have hw:∀ b,W b->W b\/H b=none:=λb z=>.inl z
 have fr':FrOk W₀ (Lb H₀ a (.lst ys)) W (Lb H a (.lst ys)):=by
  refine⟨λb o e=>?_,h.fr.sub,⟨λb z=>?_,λq hq=>by rw[Ea (h.fr.wl.noW hW hq)];exact h.fr.wl.tab q hq⟩,⟨λb z=>?_,λq hq=>by have:=h.fr.wl0.tab q hq;rw[Ea (h.fr.wl.noW hW hq)]at this ⊢;exact this⟩⟩
  .by_cases hb:b=a
   .subst hb;rw[Ta]at e ⊢;exact e
   .rw[Ea hb]at e ⊢
    exact h.fr.ext b o (by rw[Ea hb];exact e)
  .by_cases hb:b=a
   .rw[hb];exact⟨_,Ta,trivial⟩
   .rw[Ea hb];exact h.fr.wl b z
  .by_cases hb:b=a
   .rw[hb];exact⟨_,Ta,trivial⟩
   .have:=h.fr.wl0 b z;rw[Ea hb]at this ⊢;exact this
 have na:∀ (j:Nat) (s:S) (v:V) (b:ia),δ[j]? =some (some s)->σ[j]? =some (some v)->Owns H s v b->b≠a:=λj s v b e e' o z=>by
  obtain⟨v',h1,h2⟩:=h.at' j s e;rw[e']at h1;cases h1
  obtain⟨_,g,_⟩:=h2.owns o;rw[z,Ta]at g;cases g
 have bk:∀ (j:Nat) (s:S) (v:V) (b:ia),δ[j]? =some (some s)->σ[j]? =some (some v)->Owns (Lb H a (.lst ys)) s v b->Owns H s v b:=λj s v b e e' o=>by
  obtain⟨v',h1,h2⟩:=h.at' j s e;rw[e']at h1;cases h1
  refine Owns.back h2 (λc o ec z y=>?_) o;rcases y with⟨y,_⟩|⟨zs,y⟩
  .rw[Ea (na j _ _ c e e' y)];exact z
  .rw[Ea (λq=>by rw[q,ha]at z;cases z;cases y)];exact z
 refine⟨fr',h.len,λj s e=>?_,λi j s t u v b ij e1 e2 e3 e4 o1 o2=>h.ap i j s t u v b ij e1 e2 e3 e4 (bk i s u b e1 e3 o1) (bk j t v b e2 e4 o2)⟩;obtain⟨v,h1,h2⟩:=h.at' j s e;refine⟨v,h1,?_⟩;cases s with
 |d x=>exact Has.keep kk h.fr.wl hw h2
 |o ds'=>
  obtain⟨b,zs,e',g1,g2,g3,g4⟩:=h2
  have hb:b≠a:=λz=>by
   rw[z,Ta]at g2;cases g2
  rw[Ea hb]at g2
  exact⟨b,zs,e',g1,by rw[Ea hb];exact g2,by rw[Ea hb];exact g3,HasL.keep kk h.fr.wl hw g4⟩
 |q ks' ds'=>
  obtain⟨b,zs,e',g1,g2,g3,g4,g5⟩:=h2
  have hb:b≠a:=λz=>by
   rw[z,Ta]at g2;cases g2
  rw[Ea hb]at g2
  exact⟨b,zs,e',g1,by rw[Ea hb];exact g2,by rw[Ea hb];exact g3,g4,HasL.keep kk h.fr.wl hw g5⟩
 |w dss=>
  obtain⟨b,bs,e',g1,g2,g3,g4,g5,g6,g7⟩:=h2
  have hb:b≠a:=λz=>by
   rw[z,Ta]at g2;cases g2
  rw[Ea hb]at g2
  refine⟨b,bs,e',g1,by rw[Ea hb];exact g2,by rw[Ea hb];exact g3,g4,g5,g6,λi c ds e1 e2=>?_⟩;obtain⟨f1,f2,xs',f3,f4⟩:=g7 i c ds e1 e2
  have hc:c≠a:=λz=>by
   rw[z,Ta]at f2;cases f2
  rw[Ea hc]at f2
  exact⟨f1,by rw[Ea hc];exact f2,xs',by rw[Ea hc];exact f3,HasL.keep kk h.fr.wl hw f4⟩
 |m l=>
  obtain⟨b,e',g1,g2,g3⟩:=h2
  have hb:b≠a:=λz=>by
   rw[z,Ta]at g2;cases g2
  rw[Ea hb]at g2
  exact⟨b,e',g1,by rw[Ea hb];exact g2,by rw[Ea hb];exact g3⟩
 |k t cs=>
  obtain⟨b,ob,e',g1,g2,g3,g4,g5,g6⟩:=h2
  have hb:b≠a:=λz=>by
   by_cases m:WT t
   .have:=(g3 m).2;rw[z,Ta]at this;cases this
   .obtain⟨zs,rfl⟩:=g2.tup m;rw[z,ha]at g1;cases g1
  refine⟨b,ob,e',by rw[Ea hb];exact g1,g2,λm=>⟨(g3 m).1,by have:=(g3 m).2;rw[Ea hb]at this ⊢;exact this⟩,g4,g5,λi c x e1 e2=>?_⟩;have hc:=g6 i c x e1 e2;cases c with
  |d y=>exact Has.keep kk h.fr.wl hw hc
  |l ds'=>
   obtain⟨b,zs,e',g1,g2,g3,g4⟩:=hc
   have hb:b≠a:=λz=>by
    rw[z,Ta]at g2;cases g2
   rw[Ea hb]at g2
   exact⟨b,zs,e',g1,by rw[Ea hb];exact g2,by rw[Ea hb];exact g3,HasL.keep kk h.fr.wl hw g4⟩
  |q ks' ds'=>
   obtain⟨b,zs,e',g1,g2,g3,g4,g5⟩:=hc
   have hb:b≠a:=λz=>by
    rw[z,Ta]at g2;cases g2
   rw[Ea hb]at g2
   exact⟨b,zs,e',g1,by rw[Ea hb];exact g2,by rw[Ea hb];exact g3,g4,HasL.keep kk h.fr.wl hw g5⟩
theorem StHas.block(n:Nat)(h:StHas K W₀ H₀ W H σ δ)(ha:H a=none):StHas K W₀ (Lb H₀ a (.lst [])) (λb=>W b\/b=a) (Lb H a (.lst [])) (qb n none++σ) (qb n none++δ):=by
 have hw:∀ b,(W b\/b=a)->W b\/H b=none:=λb z=>z.elim .inl λz=>.inr (by rw[z];exact ha);have k:Same H (Lb H a (.lst [])):=Ye ha;have kk:Yj W H (Lb H a (.lst [])):=Same.keep k;have ha0:H₀ a=none:=Same.free h.fr.ext ha
 have fr':FrOk W₀ (Lb H₀ a (.lst [])) (λb=>W b\/b=a) (Lb H a (.lst [])):=by
  refine⟨λb o e=>?_,λb z=>.inl (h.fr.sub b z),⟨λb z=>z.elim ((h.fr.wl.same k).own b) λz=>by rw[z];exact⟨_,Ta,trivial⟩,(h.fr.wl.same k).tab⟩,h.fr.wl0.same (Ye ha0)⟩;by_cases hb:b=a
  .subst hb;rw[Ta]at e ⊢;exact e
  .rw[Ea hb]at e ⊢
   exact h.fr.ext b o e
 have idx:∀ {α:Type} (l:List (Option α)) (j:Nat) (x:α),(qb n none++l)[j]? =some (some x)->n<=j/\l[j-n]? =some (some x):=λl j x e=>by
  by_cases hj:j<n
  .rw[zg (by simpa using hj),Tk]at e
   split at e<;>cases e
  .refine⟨ju hj,?_⟩;rw[ng (by simpa using hj),ai]at e;exact e
 have back:∀ {α:Type} (l:List (Option α)) (j:Nat) (x:Option α),n<=j->l[j-n]? =some x->(qb n none++l)[j]? =some x:=λl j x hj e=>by
  rw[ng (by simpa using hj),ai];exact e
 refine⟨fr',by simp[h.len],λj s e=>?_,λi j s1 s2 u u' b hij e1 e2 e3 e4 os ot=>?_⟩
 .obtain⟨hj,e⟩:=idx _ _ _ e;obtain⟨v,h1,h2⟩:=h.at' _ s e;refine⟨v,back _ _ _ hj h1,?_⟩;cases s with
  |d x=>exact Has.keep kk h.fr.wl hw h2
  |o ds'=>
   obtain⟨b,ys,e',g1,g2,g3,g4⟩:=h2;have hb:b≠a:=Sa g3 ha;exact⟨b,ys,e',.inl g1,by rw[Ea hb];exact g2,k _ _ g3,HasL.keep kk h.fr.wl hw g4⟩
  |q ks' ds'=>
   obtain⟨b,ys,e',g1,g2,g3,g4,g5⟩:=h2;have hb:b≠a:=Sa g3 ha;exact⟨b,ys,e',.inl g1,by rw[Ea hb];exact g2,k _ _ g3,g4,HasL.keep kk h.fr.wl hw g5⟩
  |w dss=>
   obtain⟨b,bs,e',g1,g2,g3,g4,g5,g6,g7⟩:=h2;have hb:b≠a:=Sa g3 ha;refine⟨b,bs,e',.inl g1,by rw[Ea hb];exact g2,k _ _ g3,g4,g5,g6,λi c ds e1 e2=>?_⟩;obtain⟨f1,f2,xs',f3,f4⟩:=g7 i c ds e1 e2;have hc:c≠a:=Sa f3 ha;exact⟨.inl f1,by rw[Ea hc];exact f2,xs',k _ _ f3,HasL.keep kk h.fr.wl hw f4⟩
  |m l=>
   obtain⟨b,e',g1,g2,g3⟩:=h2;have hb:b≠a:=Sa g3 ha;exact⟨b,e',.inl g1,by rw[Ea hb];exact g2,k _ _ g3⟩
  |k t cs=>
   obtain⟨b,ob,e',g1,g2,g3,g4,g5,g6⟩:=h2;have hb:b≠a:=Sa g1 ha;refine⟨b,ob,e',k _ _ g1,g2,λm=>⟨.inl (g3 m).1,by rw[Ea hb];exact(g3 m).2⟩,g4,g5,λi c x e1 e2=>?_⟩;have hc:=g6 i c x e1 e2;cases c with
   |d y=>exact Has.keep kk h.fr.wl hw hc
   |l ds'=>
    obtain⟨b,ys,e',g1,g2,g3,g4⟩:=hc;have hb:b≠a:=Sa g3 ha;exact⟨b,ys,e',.inl g1,by rw[Ea hb];exact g2,k _ _ g3,HasL.keep kk h.fr.wl hw g4⟩
   |q ks' ds'=>
    obtain⟨b,ys,e',g1,g2,g3,g4,g5⟩:=hc;have hb:b≠a:=Sa g3 ha;exact⟨b,ys,e',.inl g1,by rw[Ea hb];exact g2,k _ _ g3,g4,HasL.keep kk h.fr.wl hw g5⟩
 .obtain⟨hi,e1⟩:=idx _ _ _ e1;obtain⟨hj,e2⟩:=idx _ _ _ e2;obtain⟨_,e3⟩:=idx _ _ _ e3;obtain⟨_,e4⟩:=idx _ _ _ e4
  have bk:∀ (j:Nat) (s:S) (v:V),δ[j]? =some (some s)->σ[j]? =some (some v)->Owns _ s v b->Owns H s v b:=λj s v e e' o=>by
   obtain⟨v',h1,h2⟩:=h.at' j s e;rw[e']at h1;cases h1
   exact Owns.back h2 (λc o _ z _=>k _ _ z) o
  exact h.ap (i-n) (j-n) s1 s2 u u' b (by omega) e1 e2 e3 e4 (bk _ _ _ e1 e3 os) (bk _ _ _ e2 e4 ot)
end
variable{N ps:List ua}{r:List V->Hp->VK->Prop}{op:D->Res D}{P:ic}{mg:ua->Option Da}{base:pd}{m:List D->Res D}{fd:lg}{C:String}
section
variable {t:D->Ha->Res Ha}{gc:Ha->Res Bool}{fe:Ha->Res D}
def Lf(n:Nat)(t:D->Ha->Res Ha)(gc:Ha->Res Bool)(fe:Ha->Res D)(δ:Ha)(ds:List D):Res (List D):=@ite (Res (List D)) (ds.length<=100000) (uc _) (noex (Ug t gc fe ds (qb n none++δ))) .stuck
def DTs(X:Cx)(ifs:List nc)(g:Ha->Res Bool):Prop:=PTs X ifs (C7 X.K Nr g)
theorem WU:DTs X [] (λ_=>.ok true):=λpins s σ H Q I ⟨_,_,_,_,_,q⟩=>LX pins s σ H Q I (q H (Same.refl H))
theorem QJ{Nc:Nat}(q:tDF X.K xw (λδ=>(fi δ).bind λds=>Lf Nc t gc fe δ ds) σ H Q):
  KZ Nc (tDI X.K xw fi) (tDG X.K t) (C7 X.K Nr gc) (OT X.K Nr fe) σ H Q:=by
 obtain⟨W₀,H₀,W,δ,st,q⟩:=q;refine⟨W₀,H₀,W,δ,st,?_⟩;dsimp only at q;cases h1:fi δ with
 |stuck=>rw[h1]at q;exact q
 |ex c fs=>rw[h1]at q;exact q
 |ok ds=>
  rw[h1]at q
  intro J H1 k1 it a ha;have q1:RF X.K xw W H (Lf Nc t gc fe δ ds) Q:=q;unfold Lf at q1;split at q1
  case isFalse=>exact q1.elim
  rename_i hlen;have st1:=st.same k1;cases hc:Ug t gc fe ds (qb Nc none++δ) with
  |stuck=>rw[hc]at q1;exact q1.elim
  |ex c fs=>rw[hc]at q1;exact q1.elim
  |ok all=>
  rw[hc]at q1
  have q2:∀ a xs H1,Same H H1->H1 a=none->HasL X.K W H1 all xs->Q (.ref a) (Lb H1 a (.lst xs)):=q1
  refine⟨λi m xs σ' H'=>∃ δ' acc rest,m=ds.length-i/\i<=ds.length/\StHas X.K W₀ (Lb H₀ a (.lst xs)) (λb=>W b\/b=a) H' σ' δ'/\H' a=some (.lst xs)/\(∀ b o,H1 b=some o->H' b=some o)/\
    HasL X.K (λb=>W b\/b=a) H' acc xs/\Ug t gc fe (ds.drop i) δ'=.ok rest/\acc++rest=all/\xs.length<=i,
   ⟨_,qb Nc none++δ,[],all,rfl,si _,st1.block Nc ha,Ta,λb o e=>by rw[Ea (Sa e ha)];exact e,HasL.nil,hc,rfl,si _⟩,?_⟩
  rintro i m xs σ' H' ⟨δ',acc,rest,rfl,hi,st',hxs,ks,hacc,hrest,hall,hxl⟩;refine⟨hxs,?_⟩;have k':Step W H1 (λb=>W b\/b=a) H':=⟨λb o e _=>ks b o e,λb z=>z.elim .inl λz=>.inr (by rw[z];exact ha)⟩
  obtain⟨items,stop⟩:=it _ H' k' st'.fr.wl;by_cases hl:i<ds.length
  .right;have e:ds[i]? =some ds[i]:=qd hl;obtain⟨go,yld⟩:=items i _ e;have ed:ds.drop i=ds[i]::ds.drop (i+1):=yr hl;rw[ed]at hrest
   unfold Ug at hrest;refine⟨go,λx H3 z=>?_⟩;obtain⟨k3,hx⟩:=yld x H3 z;refine⟨W₀,_,_,δ',ds[i],st'.same k3,hx,?_⟩;cases h2:t ds[i] δ' with
   |stuck=>rw[h2]at hrest;cases hrest
   |ex c fs=>rw[h2]at hrest;cases hrest
   |ok δ2=>
    rw[h2]at hrest
    dsimp only at hrest;intro σ2 st2;refine⟨W₀,_,_,δ2,st2,?_⟩;cases h3:gc δ2 with
    |stuck=>rw[h3]at hrest;cases hrest
    |ex c fs=>rw[h3]at hrest;cases hrest
    |ok k=>
     rw[h3]at hrest
     intro H4 k4;cases k with
     |false=>
      rw[if_neg xa];have hr':Ug t gc fe (ds.drop (i+1)) δ2=.ok rest:=hrest;exact⟨ds.length-(i+1),by omega,δ2,acc,rest,rfl,hl,st2.same k4,k4 _ _ (k3 _ _ hxs),λb o e=>k4 _ _ (k3 _ _ (ks b o e)),(hacc.same k3 st'.fr.wl).same k4 (st'.fr.wl.same k3),hr',hall,by omega⟩
     |true=>
      rw[if_pos rfl];have hr':(noex (fe δ2)).bind (λx=>(Ug t gc fe (ds.drop (i+1)) δ2).bind λr=>.ok (x::r))=.ok rest:=hrest;refine⟨W₀,_,_,δ2,st2.same k4,?_⟩;cases h5:fe δ2 with
      |stuck=>rw[h5]at hr';cases hr'
      |ex c fs=>rw[h5]at hr';cases hr'
      |ok y=>
       rw[h5]at hr'
       intro v H5 k5 hv;have hr2:(Ug t gc fe (ds.drop (i+1)) δ2).bind (λr=>.ok (y::r))=.ok rest:=hr';cases h6:Ug t gc fe (ds.drop (i+1)) δ2 with
       |stuck=>rw[h6]at hr2;cases hr2
       |ex c fs=>rw[h6]at hr2;cases hr2
       |ok r=>
        rw[h6]at hr2
        have er:y::r=rest:=by cases hr2;rfl
        have h5a:H5 a=some (.lst xs):=k5 _ _ (k4 _ _ (k3 _ _ hxs));have w3:=st'.fr.wl.same k3;have w4:=w3.same k4;have w5:=w4.same k5;have acc5:=((hacc.same k3 st'.fr.wl).same k4 w3).same k5 w4
        have kk:Yj (λb=>W b\/b=a) H5 (Lb H5 a (.lst (xs++ [v]))):=λb o e n=>by
         rw[Ea (λz=>n (.inr z))];exact e
        have sz:sizeLine=16777216:=qe;refine⟨h5a,by omega,ds.length-(i+1),by omega,δ2,acc++ [y],r,rfl,hl,((st2.same k4).same k5).acc h5a (.inr rfl),Ta,λb o e=>?_,HasL.keep kk w5 (λb z=>.inl z) (acc5.snoc hv),h6,?_,?_⟩
        .rw[Ea (Sa e ha)];exact k5 _ _ (k4 _ _ (k3 _ _ (ks b o e)))
        .rw[xg];show acc++(y::r)=all;rw[er];exact hall
        .rw[md,aj];omega
  .left;have ei:i=ds.length:=by omega
   subst ei;rw[List.drop_length]at hrest
   unfold Ug at hrest;have er:rest= []:=by cases hrest;rfl
   subst er;rw[kg]at hall
   subst hall;refine⟨stop,?_⟩;have hm:(λb=>if b=a then none else H' b:Hp) a=none:=if_pos rfl
   have eu:Lb (λb=>if b=a then none else H' b:Hp) a (.lst xs)=H':=by
    funext b;by_cases hb:b=a
    .rw[hb,Ta,hxs]
    .rw[Ea hb,if_neg hb]
   have r:=q2 a xs (λb=>if b=a then none else H' b) (λb o e=>by
    have e1:=k1 b o e;show(if b=a then none else H' b)=some o
    rw[if_neg (Sa e1 ha)];exact ks b o e1) hm (HasL.keep (W:=λb=>W b\/b=a) (W':=W) (λb o e n=>by show(if b=a then none else H' b)=some o;rw[if_neg (λz=>n (.inr z))];exact e) st'.fr.wl (λb z=>.inl (.inl z)) hacc)
   rw[eu]at r
   exact r
theorem NU(Nc Nx:List ua)(c:CompOk X scope Nc Nx)(hcalm:X.calm=true)(hi:DI X xw tg iter fi)(hY:∀ (C:ia) (fp:List ia) (pins:List (ia×mh)) (s:ka) (H:Hp),DG (Pd X scope Nc Nx C fp pins s H) tg t/\DTs (Pd X scope Nc Nx C fp pins s H) ifs gc/\DE (Pd X scope Nc Nx C fp pins s H) Nr elt fe)(hs:∀ x,rj iter X.env x=pure x:=by intro _;rfl):
  DF X xw (.ListComp elt [⟨tg,iter,ifs,0⟩] scope pos) (λδ=>(fi δ).bind λds=>Lf Nc.length t gc fe δ ds):=
 PE.weak (DX (g:=tDG X.K t) (tt:=C7 X.K Nr gc) (te:=OT X.K Nr fe) c hcalm hi hY hs) λσ H Q q=>QJ q
def OM(i:Nat)(δ:Ha)(r:Res D):Out:=match δ[i]? with
 |some (some (.o ds))=>@ite Out (ds.length<=100000) (uc _) (Pm r λd=>.nx (δ.set i (some (.o (ds++ [d]))))) .stuck
 |_=>.stuck
theorem UJ(i:Nat){p1 p3:bh}(he:DE X xw e f)(hN:X.N[i]? =some x:=by rfl)(hv:Jw X.env.scope x:=by first|exact Or.inl rfl|exact Or.inr (Or.inl rfl)|exact Or.inr (Or.inr rfl))(hd:(x==("__debug__":ua))=false:=by decide)(hcd:(x==("__classdict__":ua))=false:=by decide)(hsE:Fa [e] X.env=(false,eval e X.env)::Fa [] X.env:=by rfl)(hbase:dg (.Name x p1) "append" X.env (eval (.Name x p1) X.env)=eval (.Name x p1) X.env:=by rfl)(hfew:((yc p3 (Fa [e] X.env)).all (λx=> !x.1)&&(bj p3 (ig [] X.env)).all (λx=>x.1.isSome)
   &&decide (([e]:List nc).length+([]:List li).length+(if([]:List li).isEmpty then 0 else 1)<30))=true:=by rfl)(hline:(p2.endLine==p3.line)=true:=by rfl)(hplain:(yc p3 (Fa [] X.env)).any (·.1)=false:=by rfl)(hsw:ki (.Call (.Attribute (.Name x p1) "append" p2) [e] [] p3) none pos.line X.env=pure false:=by rfl):
  DS X xw (.Expr (.Call (.Attribute (.Name x p1) "append" p2) [e] [] p3) pos) (λδ=>OM i δ (f δ)):=
 PS.weak (Dq (As fk yt zt Br (Ph hN hv hd hcd) (Ie he Zh hsE) hbase hfew hline hsE hplain) hsw) λDn σ H ⟨W₀,H₀,W,δ,st,q⟩=>by
  unfold OM at q;dsimp only at q;split at q
  .rename_i ds h;split at q
   .rename_i hlen;obtain⟨v,e1,a,xs,rfl,r2,r3,r4,r5⟩:=st.at' i _ h;refine⟨_,e1,.inl ⟨rfl,xs,.of r4⟩,?_⟩;refine Wm st q λH2 d u st2 hu q2=>?_;obtain⟨v',e1',a',ys,e',r2',r3',r4',r5'⟩:=st2.at' i _ h;rw[e1]at e1'
    cases e1';cases e';have sz:sizeLine=16777216:=qe;refine⟨a,ys,u,rfl,rfl,r4',?_,?_⟩
    .rw[<-r5'.length];omega
    .refine q2 W _ σ ⟨λb o e n=>?_,λ_ z=>.inl z⟩ (st2.change h e1 r4' r2' (r5'.snoc hu));rw[Ea (λz=>n (by rw[z];exact r2'))];exact e
   .exact q.elim
  .exact q.elim
def F6(K:td)(n:Nat)(m:List D->Res D):Sp:=λvs H Q _=>vs.length=n/\∃ W ds,WL W H/\HasL K W H ds vs/\match m ds with
 | .ok d=>∀ v H',Same H H'->Has K W H' d v->Q v H'
 |_=>False
structure Fn(P:ic)(w:yd)(K:td)(mg:ua->Option Da)(base:pd)(k:Nat)(x:ua)(n:Nat)(m:List D->Res D):Prop where
 ex:∃ f fd ps,FnOk P w K mg base Fp k f fd ps (F6 K n m)/\mg x=some (.ref f)/\kf K (.ref f)=true/\Binds K fd ps []
theorem Fn.mono(F:Fn P w K mg base j x n m)(h:j<=k):Fn P w K mg base k x n m:=by
 obtain⟨f,fd,ps,a,b⟩:=F.ex;exact⟨f,fd,ps,a.mono h,b⟩
def Hb(n:Nat)(ds:List D):Ha:=ds.map (λd=>some (.d d))++qb (n-ds.length) none
def Hf(n:Nat)(g:Ha->Out)(ds:List D):Res D:=match g (Hb n ds) with
 | .rt d=>.ok d
 | .nx _=>.ok .non
 |_=>.stuck
theorem Qn(w:WL W H)(r:HasL K W H ds vs):StHas K W H W H (L2.start N vs) (Hb N.length ds):=by
 have hl:=r.length
 have idx:∀ {α:Type} (l:List α) (j:Nat) (x:α) (m:Nat),(l.map some++qb m none)[j]? =some (some x)->l[j]? =some x:=λl j x m e=>by
  by_cases hj:j<l.length
  .rw[zg (by simpa using hj),wg]at e
   cases q:l[j]? with
   |none=>rw[q]at e;cases e
   |some z=>rw[q]at e;cases e;rfl
  .rw[ng (by simpa using hj),Tk]at e
   split at e<;>cases e
 have eS:Hb N.length ds=(ds.map S.d).map some++qb (N.length-ds.length) none:=by
  unfold Hb;rw[gl];rfl
 refine⟨⟨Same.refl _,λ_ z=>z,w,w⟩,?_,λi s e=>?_,λi j s1 s2 u u' a _ e1 _ _ _ os _=>?_⟩
 .unfold L2.start Hb;simp[hl]
 .rw[eS]at e
  have e':=idx _ _ _ _ e;rw[wg]at e'
  cases q:ds[i]? with
  |none=>rw[q]at e';cases e'
  |some d=>
   rw[q]at e'
   cases e';obtain⟨x,h1,h2⟩:=r.get q;refine⟨x,?_,h2⟩;unfold L2.start;have hi:i<vs.length:=(pb.mp h1).1;rw[zg (by simpa using hi),wg,h1];rfl
 .rw[eS]at e1
  have e':=idx _ _ _ _ e1;rw[wg]at e'
  cases q:ds[i]? with
  |none=>rw[q]at e';cases e'
  |some d=>rw[q]at e';cases e';exact os
theorem GV{fa:ia}(F:Fun K x qual st fa fd)(S:FnScope N ps (Ca st))(hm:mg x=some (.ref fa))(hb:Binds K fd ps [])(body:∀ (cdv:Da) (A:ye) (outer:List cq) (s:ka) (H:Hp) (E:XK),Room k (A.deeper (zj qual (Ca st) s.heap.objs.size fa cdv))->
   FT (Xl Fp P w K mg base N qual (Ca st) fa cdv A outer s H E).nox Nr (Eb st) g):Fn P w K mg base (k+1) x ps.length (Hf N.length g):=by
 refine⟨fa,fd,ps,F.ok S (λvs H Q E h=>h.1) (λcdv A outer s H vs Q E hr h=>?_),hm,F.kp,hb⟩;obtain⟨hl,W,ds,hw,hd,q⟩:=h;refine⟨_,body cdv A outer s H E hr,W,H,W,Hb N.length ds,Qn hw hd,?_⟩;unfold Hf at q;cases h:g (Hb N.length ds) with
 |rt d=>rw[h]at q;exact λv H' k hv=>q v H' k hv
 |nx δ=>rw[h]at q;exact λW' H' σ' k st'=>q .non H' st'.fr.ext (by rw[Has])
 |bk δ=>rw[h]at q;exact q.elim
 |ct δ=>rw[h]at q;exact q.elim
 |ex c fs=>rw[h]at q;exact q.elim
 |stuck=>rw[h]at q;exact q.elim
def Pa(n:Nat)(m:List D->Res D)(ds:List D):Res D:=if ds.length=n then noex (m ds) else .stuck
theorem LU{a:nc}{fs:Ha->Res (List D)}{p:bh}(F:Fn X.prog X.w X.K X.mg X.base k x n m)(hr:Room k X.A)(ha:DA X xw (a::es) fs)(hg:Gl X x:=by rfl)(hdb:(x==("__debug__":ua))=false:=by decide)(he:Fa (a::es) X.env=(false,eval a X.env)::Fa es X.env:=by rfl)(hpl:(yc pos (Fa es X.env)).any (·.1)=false:=by rfl):
  DE X xw (.Call (.Name x p) (a::es) [] pos) (λδ=>(fs δ).bind λds=>Pa n m ds):=by
 obtain⟨fa,fd,ps,G,hm,hk,hb⟩:=F.ex;refine PE.weak (Kz G hr hg hm hk hb .nil GZ ha hdb he hpl) λσ H Q ⟨W₀,H₀,W,δ,st,q⟩=>?_;refine Gk st q λH2 ds vs k w st2 hv _ q2=>?_;unfold Pa at q2;split at q2
 .rename_i hn;rw[kg];refine⟨by rw[<-hv.length];exact hn,W,ds,w,hv,?_⟩;cases h:m ds with
  |ok d=>rw[h]at q2;exact q2
  |ex c fs=>rw[h]at q2;exact q2
  |stuck=>rw[h]at q2;exact q2
 .exact q2.elim
theorem Vq{a:nc}{fa:Ha->Res D}{id:String}{p:bh}(hc:CallR X (.builtin id) r)(hop:∀ W H d v Q,WL W H->HasT X.K W H d v->RE X.K xw W H (op d) Q->r [v] H Q)(hm:X.mg x=none)(hv:ug x=some (.builtin id))(ha:DP X xw a fa)(hg:Gl X x)(hn:x≠"__name__")(hdb:(x==("__debug__":ua))=false)(he:Fa [a] X.env=(false,eval a X.env)::Fa [] X.env)(hpl:(yc pos (Fa [] X.env)).any (·.1)=false):DE X xw (.Call (.Name x p) [a] [] pos) (λδ=>(fa δ).bind op):=
 PE.weak (Cq hc hg hm hv (Ie ha Zh he) hn hdb he hpl) λσ H Q ⟨W₀,H₀,W,δ,st,q⟩=>Ng st q λH2 d v k w st2 hv _ q2=>hop W H2 d v Q w hv q2
theorem En{a:nc}{fa:Ha->Res D}{id:String}{p:bh}(hc:CallR X (.type id) r)(hop:∀ W H d v Q,WL W H->HasT X.K W H d v->RE X.K xw W H (op d) Q->r [v] H Q)(hm:X.mg x=none)(hv:ug x=some (.type id))(ha:DP X xw a fa)(hg:Gl X x)(hn:x≠"__name__")(hdb:(x==("__debug__":ua))=false)(he:Fa [a] X.env=(false,eval a X.env)::Fa [] X.env)(hpl:(yc pos (Fa [] X.env)).any (·.1)=false):DE X xw (.Call (.Name x p) [a] [] pos) (λδ=>(fa δ).bind op):=
 PE.weak (Px hc hg hm hv (Ie ha Zh he) hn hdb he hpl) λσ H Q ⟨W₀,H₀,W,δ,st,q⟩=>Ng st q λH2 d v k w st2 hv _ q2=>hop W H2 d v Q w hv q2
def Gc:D->Res D
 | .tup ds=>.ok (.int ds.length)
 | .lst ds=>.ok (.int ds.length)
 | .str z=>@ite (Res D) (z.length<=sizeLine) (uc _) (.ok (.int z.length)) .stuck
 |_=>.stuck
variable {p:bh}
theorem J0(hm:X.mg "len"=none)(ha:DP X xw a fa)(hg:Gl X "len":=by rfl)(he:Fa [a] X.env=(false,eval a X.env)::Fa [] X.env:=by rfl)(hpl:(yc pos (Fa [] X.env)).any (·.1)=false:=by rfl):
  DE X xw (.Call (.Name "len" p) [a] [] pos) (λδ=>(fa δ).bind Gc):=
 Vq SM (λW H d v Q w hv q=>by
  unfold Gc at q;split at q
  .obtain⟨p,xs,e,sq,r⟩:=hv.tup;rw[e];exact⟨_,xs.length,rfl,.inr ⟨xs,sq,rfl⟩,by rw[<-r.length];exact q.int⟩
  .obtain⟨p,xs,e,sq,r⟩:=hv.lst;rw[e];exact⟨_,xs.length,rfl,.inl ⟨xs,sq,rfl⟩,by rw[<-r.length];exact q.int⟩
  .split at q
   .rename_i hz;rw[hv.str];exact⟨_,_,rfl,⟨hz,rfl⟩,q.int⟩
   .exact q.elim
  .exact q.elim) hm PySem.boot_len ha hg (by decide) (by decide) he hpl
def Yz:D->Option String
 | .non=>some "NoneType"
 | .bl _=>some "bool"
 | .int _=>some "int"
 | .str _=>some "str"
 | .tup _=>some "tuple"
 | .lst _=>some "list"
 | .dct _ _=>some "dict"
 | .exc _ _=>none
 | .obj _ _ _=>none
def Cu(T C:String):Bool:=T==C||(T=="bool"&&C=="int")
def We(C:String)(d:D):Res D:=match Yz d with
 |some T=>.ok (.bl (Cu T C))
 |none=>.stuck
def Du(C:String):Prop:=∀ (K:td),∀ T∈ ["NoneType","bool","int","str","tuple","list","dict"],kitOne K (.type T) (.type C)=some (Cu T C)
theorem OH:Du "int":=by intro K T hT;simp only[xc,mf,or_false]at hT;rcases hT with rfl|rfl|rfl|rfl|rfl|rfl|rfl<;>kernel_rfl
theorem QB:Du "bool":=by intro K T hT;simp only[xc,mf,or_false]at hT;rcases hT with rfl|rfl|rfl|rfl|rfl|rfl|rfl<;>kernel_rfl
theorem Ft:Du "str":=by intro K T hT;simp only[xc,mf,or_false]at hT;rcases hT with rfl|rfl|rfl|rfl|rfl|rfl|rfl<;>kernel_rfl
theorem HK:Du "tuple":=by intro K T hT;simp only[xc,mf,or_false]at hT;rcases hT with rfl|rfl|rfl|rfl|rfl|rfl|rfl<;>kernel_rfl
theorem RM(hC:Du C):CallR X (.builtin "isinstance") (λxs H Q=>∃ W d x T,xs= [x,.ty C]/\HasT X.K W H d x/\Yz d=some T/\Q (.bl (Cu T C)) H):=by
 intro pins s σ H xs us Q I r h;obtain⟨W,d,x,T,rfl,hd,ht,q⟩:=h;obtain⟨u,u2,rfl,rx,rc⟩:=r.two;obtain rfl:u2=Value.type C:=rc;have hk:=hC X.K T (by cases d<;>cases ht<;>simp);have fin:∀ tk,EP X pins σ Q (.bool (Cu T C)) {s with toks:=tk}:=λtk=>⟨.bl _,H,I.tok tk,rfl,q⟩;cases d with
 |non=>
  cases ht;have:=hd.non;subst this;cases (show u=Value.none from rx);exact bv PySem.W.kitx_none I.kIn True.intro hk (λz=>nomatch z) fin
 |bl b=>
  cases ht;have:=hd.bl;subst this;cases (show u=Value.bool b from rx);exact bv PySem.W.kitx_bool I.kIn True.intro hk (λz=>nomatch z) fin
 |int b=>
  cases ht;have:=hd.int;subst this;obtain⟨t,rfl⟩:=(show ∃ t,u=Value.int b t from rx)
  exact bv PySem.W.kitx_int I.kIn True.intro hk (λz=>nomatch z) fin
 |str b=>
  cases ht;have:=hd.str;subst this;obtain⟨t,rfl⟩:=(show ∃ t,u=Value.str b t from rx)
  exact bv PySem.W.kitx_str I.kIn True.intro hk (λz=>nomatch z) fin
 |tup ds=>
  cases ht;obtain⟨a,xs,rfl,sq,_⟩:=hd.tup;cases (show u=Value.ref a from rx);obtain⟨its,_,⟨o,h1,h2,_⟩,_⟩:=I.tuple sq;exact bv PySem.W.kitx_tuple I.kIn ⟨o,h1,h2⟩ hk (λz=>nomatch z) fin
 |lst ds=>
  cases ht;obtain⟨a,xs,rfl,sq,_⟩:=hd.lst;cases (show u=Value.ref a from rx);obtain⟨its,_,⟨o,n,h1,h2,_⟩,_⟩:=I.list sq;exact bv PySem.W.kitx_list I.kIn ⟨o,h1,h2⟩ hk (λz=>nomatch z) fin
 |dct ks ds=>
  cases ht;rcases hd with hd|⟨_,_,_,z,_⟩
  .rw[Has]at hd
   obtain⟨a,kvs,rfl,⟨ob,ea⟩,_⟩:=hd;cases (show u=Value.ref a from rx);obtain⟨_,_,_,vs,_,p⟩:=(show ObjOk X.prog X.w H s.heap a (.frz ob (.dK kvs)) from I.hok a _ ea)
   obtain⟨o,es,ep,h1,h2,_⟩:=p;exact bv PySem.W.kitx_dict I.kIn ⟨o,h1,h2.1⟩ hk (λz=>nomatch z) fin
  .cases z
 |exc c ds=>cases ht
 |obj c k ds=>cases ht
theorem G0{c:ua}(hC:Du C)(hbc:ug c=some (.type C))(hm:X.mg "isinstance"=none)(hmc:X.mg c=none)(ha:DP X xw a fa)(hg:Gl X "isinstance":=by rfl)(hgc:Gl X c:=by rfl)(hcn:c≠"__name__":=by decide)(hcd:(c==("__debug__":ua))=false:=by decide)(he:Fa [a, .Name c p2] X.env=(false,eval a X.env)::Fa [.Name c p2] X.env:=by rfl)(he2:Fa [.Name c p2] X.env=(false,eval (.Name c p2) X.env)::Fa [] X.env:=by rfl)(hpl:(yc pos (Fa [.Name c p2] X.env)).any (·.1)=false:=by rfl):
  DE X xw (.Call (.Name "isinstance" p) [a, .Name c p2] [] pos) (λδ=>(fa δ).bind (We C)):=
 PE.weak (Cq (RM hC) hg hm (by decide +kernel) (Ie ha (Ie (WH (v:=.ty C) hgc hmc hbc rfl hcn hcd) Zh he2) he) (by decide) (by decide) he hpl) λσ H Q ⟨W₀,H₀,W,δ,st,q⟩=>Ng st q λH2 d v k w st2 hv _ q2=>by
  unfold We at q2;split at q2
  .rename_i T hT;exact⟨W,d,v,T,rfl,hv,hT,q2.bl⟩
  .exact q2.elim
def Qb:List D->Option (List Bool)
 | []=>some []
 | .bl b::r=>(Qb r).map (b:: ·)
 |_=>none
def To:D->Res D
 | .lst ds=>match Qb ds with
  |some bs=>.ok (.bl (bs.all id))
  |none=>.stuck
 |_=>.stuck
theorem Bm:∀ {ds:List D} {bs:List Bool} {i:Nat} {d:D},Qb ds=some bs->ds[i]? =some d->∃ b,d=.bl b/\bs[i]? =some b
 | [],_,_,_,_,e=>by simp at e
 | .bl b::r,bs,i,d,h,e=>by
  rw[Qb]at h
  obtain⟨bs',h1,rfl⟩:=oj.mp h;cases i with
  |zero=>simp at e;subst e;exact⟨b,rfl,rfl⟩
  |succ i=>
   obtain⟨b',e1,e2⟩:=Bm h1 (by simpa using e);exact⟨b',e1,by simpa using e2⟩
 | .non::_,_,_,_,h,_=>by simp[Qb]at h
 | .int _::_,_,_,_,h,_=>by simp[Qb]at h
 | .str _::_,_,_,_,h,_=>by simp[Qb]at h
 | .tup _::_,_,_,_,h,_=>by simp[Qb]at h
 | .lst _::_,_,_,_,h,_=>by simp[Qb]at h
 | .dct _ _::_,_,_,_,h,_=>by simp[Qb]at h
 | .exc _ _::_,_,_,_,h,_=>by simp[Qb]at h
 | .obj _ _ _::_,_,_,_,h,_=>by simp[Qb]at h
theorem Cm:∀ {ds:List D} {bs:List Bool},Qb ds=some bs->bs.length=ds.length
 | [],_,h=>by rw[Qb]at h;cases h;rfl
 | .bl b::r,bs,h=>by
  rw[Qb]at h
  obtain⟨bs',h1,rfl⟩:=oj.mp h;rw[ba,ba,Cm h1]
 | .non::_,_,h=>by simp[Qb]at h
 | .int _::_,_,h=>by simp[Qb]at h
 | .str _::_,_,h=>by simp[Qb]at h
 | .tup _::_,_,h=>by simp[Qb]at h
 | .lst _::_,_,h=>by simp[Qb]at h
 | .dct _ _::_,_,h=>by simp[Qb]at h
 | .exc _ _::_,_,h=>by simp[Qb]at h
 | .obj _ _ _::_,_,h=>by simp[Qb]at h
theorem EL(bs:List Bool):(wo bs.length).all (λi=>bs.getD i false)=bs.all id:=by
 induction bs with
 |nil=>rfl
 |cons b bs ih=>
  rw[ba,qo,dn,all_map,dn,<-ih];rfl
theorem HJ(hc:X.calm=true):CallR X (.builtin "all") (λxs H Q=>∃ W ds bs v,xs= [v]/\HasT X.K W H (.lst ds) v/\Qb ds=some bs/\Q (.bl (bs.all id)) H):=by
 intro pins s σ H xs us Q I r h;obtain⟨W,ds,bs,v,rfl,hd,hb,q⟩:=h;obtain⟨u,rfl,rx⟩:=vals1 r;obtain⟨a,ys,rfl,sq,rl⟩:=hd.lst;cases (show u=Value.ref a from rx);obtain⟨its,rv,pl,hz⟩:=I.list sq;have hlt:a<s.heap.objs.size:=by obtain⟨_,e,_⟩:=pl.isList;exact sd e
 have hh:X.A.in1.handled=none:=I.ok.hd hc;refine call_all_walk (il pl.isList ?_);refine⟨s.heap.objs.size,_,_,_,_,_,λi=>bs.getD i false,rfl,Walks.list hh s.heap.objs.size a (ag hlt) its.toArray,⟨⟨_,ue _ rfl,rfl,rfl⟩,pl.isList.push _⟩,λi v s' Q' E' hP hQ'=>?_,λh' tk hk=>?_⟩
 .have hi:its[i]? =some v:=by simpa using hP
  have hil:i<ys.length:=by rw[rv.length];exact(pb.mp hi).1
  obtain⟨x,e1⟩:∃ x,ys[i]? =some x:=⟨_,qd hil⟩
  obtain⟨d,e2,hx⟩:=rl.at' e1;obtain⟨b,rfl,e3⟩:=Bm hb e2;rw[Has]at hx
  subst hx;obtain⟨w',e4,rw'⟩:=rv.get e1;rw[hi]at e4;cases e4
  cases (show v=Value.bool b from rw');refine cg ?_;have:bs.getD i false=b:=by rw[qh,e3];rfl
  dsimp only at hQ';rw[this]at hQ'
  exact hQ'
 .have e:its.toArray.size=bs.length:=by rw[qc,Cm hb,rl.length,rv.length]
  rw[e,EL];refine⟨.bl _,H,?_,rfl,q⟩;refine I.kept (λb o e=>hk b o ?_ (ya _ e));intro z;have:b=s.heap.objs.size:=by simpa using z
  exact absurd (sd e) (by rw[this];exact xh _)
theorem B0(hc:X.calm=true)(hm:X.mg "all"=none)(ha:DP X xw a fa)(hg:Gl X "all":=by rfl)(he:Fa [a] X.env=(false,eval a X.env)::Fa [] X.env:=by rfl)(hpl:(yc pos (Fa [] X.env)).any (·.1)=false:=by rfl):
  DE X xw (.Call (.Name "all" p) [a] [] pos) (λδ=>(fa δ).bind To):=
 Vq (HJ hc) (λW H d v Q w hv q=>by
  unfold To at q;split at q
  .split at q
   .rename_i hb;exact⟨W,_,_,v,rfl,hv,hb,q.bl⟩
   .exact q.elim
  .exact q.elim) hm PyProof.Rows.boot_all ha hg (by decide) (by decide) he hpl
end
def kD(d:D):Ha->Res D:=λ_=>.ok d
def b1(op:α->Res β)(f:Ha->Res α):Ha->Res β:=λδ=>(f δ).bind op
def b2(op:D->D->Res D)(f g:Ha->Res D):Ha->Res D:=λδ=>(f δ).bind λx=>(g δ).bind λy=>op x y
def b3(op:D->Option Int->Option Int->Res β)(f:Ha->Res D)(g h:Ha->Res (Option Int)):Ha->Res β:=λδ=>(f δ).bind λx=>(g δ).bind λl=>(h δ).bind λu=>op x l u
def EJ(op op':D->D->Res D)(fa fb fc:Ha->Res D):Ha->Res D:=λδ=>(fa δ).bind λx=>(fb δ).bind λy=>Nj op op' x y (fc δ)
def tR(f:Ha->Res D):Ha->Res Bool:=λδ=>(f δ).bind Kp
def Vj(a b:Ha->Res Bool):Ha->Res Bool:=λδ=>TZ (a δ) (b δ)
def Fe(a b:Ha->Res Bool):Ha->Res Bool:=λδ=>orB (a δ) (b δ)
def Fc(a:Ha->Res Bool):Ha->Res Bool:=λδ=>(a δ).bind λk=>.ok (!k)
def Ek(a b:Ha->Res D):Ha->Res D:=λδ=>UZ (a δ) (b δ)
def OI(a b:Ha->Res D):Ha->Res D:=λδ=>orD (a δ) (b δ)
def UT(c:Ha->Res Bool)(a b:Ha->Res D):Ha->Res D:=λδ=>(c δ).bind λk=>if k=true then a δ else b δ
def Ja:Ha->Res (List D):=λ_=>.ok []
def Aa(f:Ha->Res D)(fs:Ha->Res (List D)):Ha->Res (List D):=λδ=>VG (f δ) (fs δ)
def Se:Ha->Res (Option Int):=λ_=>.ok none
def Bd(f:Ha->Res (List D)):Ha->Res D:=λδ=>(f δ).bind λds=>.ok (.lst ds)
def Qc(n:Nat)(t:D->Ha->Res Ha)(gc:Ha->Res Bool)(fe:Ha->Res D)(fi:Ha->Res (List D)):Ha->Res (List D):=λδ=>(fi δ).bind λds=>Lf n t gc fe δ ds
def Ab(g1 g2:Ha->Out):Ha->Out:=λδ=>Bp (g1 δ) g2
def Rb(i:Nat)(f:Ha->Res D):Ha->Out:=λδ=>Pm (f δ) λd=>.nx (δ.set i (some (.d d)))
def Tj(i:Nat)(f:Ha->Res (List D)):Ha->Out:=λδ=>Pm (f δ) λds=>.nx (δ.set i (some (.o ds)))
def Nf(c:Ha->Res Bool)(a b:Ha->Out):Ha->Out:=λδ=>ifO (c δ) (a δ) (b δ)
def Aj(t:D->Ha->Res Ha)(g:Ha->Out)(fi:Ha->Res (List D)):Ha->Out:=λδ=>Pm (fi δ) λds=>Te t g ds δ
def Fv(n:Nat)(c:Ha->Res Bool)(g:Ha->Out):Ha->Out:=λδ=>KG c g n δ
def Ws(i:Nat)(f:Ha->Res D):Ha->Out:=λδ=>OM i δ (f δ)
def Gb(f:Ha->Res D):Ha->Out:=λδ=>Pm (f δ) λd=>.rt d
def VC:Ha->Out:=λ_=>.rt .non
def QC(f:Ha->Res D):Ha->Out:=λδ=>Pm (f δ) λ_=>.nx δ
def Tb0(t:D->Ha->Res Ha)(δ:Ha)(d:D):Out:=match t d δ with
 | .ok δ'=>.nx δ'
 |_=>.stuck
def MR(t:D->Ha->Res Ha)(f:Ha->Res D):Ha->Out:=λδ=>Pm (f δ) (Tb0 t δ)
section
variable {p:bh}{t:D->Ha->Res Ha}{fs:Ha->Res (List D)}
theorem DN(hm:∃ t,X.mg x=some (.int i t))(hg:Gl X x:=by rfl)(hdb:(x==("__debug__":ua))=false:=by decide):DE X xw (.Name x pos) (kD (.int i)):=by
 obtain⟨t,hm⟩:=hm;exact Py (v:=.int i) hm ⟨t,rfl⟩ (λW H=>by rw[Has]) hg hdb
theorem EN{y:ua}(hm:∃ t,X.mg x=some (.str y t))(hg:Gl X x:=by rfl)(hdb:(x==("__debug__":ua))=false:=by decide):DE X xw (.Name x pos) (kD (.str y)):=by
 obtain⟨t,hm⟩:=hm;exact Py (v:=.str y) hm ⟨t,rfl⟩ (λW H=>by rw[Has]) hg hdb
theorem WK{op:D->Res (List D)}(st:StHas X.K W₀ H₀ W H σ δ)(q:RF X.K xw W H ((fa δ).bind op) Q)(h:∀ H2 d v,Same H H2->WL W H2->StHas X.K W₀ H₀ W H2 σ δ->HasT X.K W H2 d v->fa δ= .ok d->RF X.K xw W H2 (op d) Q->R v H2):
  MI X.K xw fa σ H λx H1=>R x H1:=by
 refine⟨W₀,H₀,W,δ,st,?_⟩;cases h1:fa δ with
 |stuck=>rw[h1]at q;exact q
 |ex c fs=>rw[h1]at q;exact q
 |ok d=>
  rw[h1]at q
  intro v H1 k1 hv;exact h H1 d v k1 (st.fr.wl.same k1) (st.same k1) hv h1 (RF.same (r:=op d) q k1)
def Gi:D->Res (List D)
 | .tup ds=>.ok ds
 | .lst ds=>.ok ds
 |_=>.stuck
theorem SJ(hm:X.mg "list"=none)(ha:DP X xw a fa)(hg:Gl X "list":=by rfl)(he:Fa [a] X.env=(false,eval a X.env)::Fa [] X.env:=by rfl)(hpl:(yc pos (Fa [] X.env)).any (·.1)=false:=by rfl):
  DF X xw (.Call (.Name "list" p) [a] [] pos) (b1 Gi fa):=
 PE.weak (Px Hy hg hm (by decide +kernel) (Ie ha Zh he) (by decide) (by decide) he hpl) λσ H Q ⟨W₀,H₀,W,δ,st,q⟩=>WK st q λH2 d v k w st2 hv _ q2=>by
  unfold Gi at q2;split at q2
  .obtain⟨p,xs,e,sq,r⟩:=hv.tup;rw[e];exact⟨p,xs,rfl,.inr sq,λl hl=>q2 l xs H2 (Same.refl _) hl r⟩
  .obtain⟨p,xs,e,sq,r⟩:=hv.lst;rw[e];exact⟨p,xs,rfl,.inl sq,λl hl=>q2 l xs H2 (Same.refl _) hl r⟩
  .exact q2.elim
def Dp:D->Res D
 | .tup ds=>.ok (.tup ds)
 | .lst ds=>.ok (.tup ds)
 |_=>.stuck
theorem GN(hm:X.mg "tuple"=none)(ha:DP X xw a fa)(hg:Gl X "tuple":=by rfl)(he:Fa [a] X.env=(false,eval a X.env)::Fa [] X.env:=by rfl)(hpl:(yc pos (Fa [] X.env)).any (·.1)=false:=by rfl):
  DE X xw (.Call (.Name "tuple" p) [a] [] pos) (b1 Dp fa):=
 En Tv (λW H d v Q w hv q2=>by
  unfold Dp at q2;split at q2
  .obtain⟨p,xs,e,sq,r⟩:=hv.tup;rw[e];exact⟨p,xs,rfl,.inr ⟨sq,q2 _ H (Same.refl _) (by rw[Has];exact⟨p,xs,rfl,sq,r⟩)⟩⟩
  .obtain⟨p,xs,e,sq,r⟩:=hv.lst;rw[e];exact⟨p,xs,rfl,.inl ⟨sq,λl hl=>q2.newT w hl r⟩⟩
  .exact q2.elim) hm (by decide +kernel) ha hg (by decide) (by decide) he hpl
def Fc0:List D->Res D
 | [.int i,.int j]=>.ok (.int (max i j))
 |_=>.stuck
def Gc0:List D->Res D
 | [.int i,.int j]=>.ok (.int (min i j))
 |_=>.stuck
def Rb0:D->Res D
 | .int i=>.ok (.int (if i<0 then -i else i))
 |_=>.stuck
def Wv:D->Res D
 | .int i=>.ok (.int i)
 | .bl k=>.ok (.int (if k then 1 else 0))
 |_=>.stuck
theorem FN(hm:X.mg "int"=none)(ha:DP X xw a fa)(hg:Gl X "int":=by rfl)(he:Fa [a] X.env=(false,eval a X.env)::Fa [] X.env:=by rfl)(hpl:(yc pos (Fa [] X.env)).any (·.1)=false:=by rfl):
  DE X xw (.Call (.Name "int" p) [a] [] pos) (b1 Wv fa):=
 En Sw (λW H d v Q w hv q=>by
  unfold Wv at q;split at q
  .exact .inl ⟨_,by rw[hv.int],q.int⟩
  .exact .inr ⟨_,by rw[hv.bl],q.int⟩
  .exact q.elim) hm (by decide +kernel) ha hg (by decide) (by decide) he hpl
def slD(d:D)(lo hi:Option Int):Res D:=match d with
 | .tup ds=>if whole ds.length lo hi then .stuck else .ok (.tup (cutD ds lo hi))
 | .lst ds=>.ok (.lst (cutD ds lo hi))
 |_=>.stuck
def Cc0(K:td)(tl:TE):TI:=λσ H R=>tl σ H λx H1=>∃ a,x=.ref a/\(((∃ xs,SqL K H1 a xs)/\R (Itl K a) H1)\/((∃ xs,SqT K H1 a xs)/\R (Itt K a) H1))
theorem B5{l:nc}{tl:TE}(hl:PE X l tl):PI X tg l (Cc0 X.K tl):=by
 intro pins s σ H R I h;refine thn (hl pins s σ H _ I h) λv s1 ⟨x,H1,I1,r1,q1⟩=>?_;obtain⟨a,e,q1⟩:=q1;subst e;cases r1;rcases q1 with⟨⟨xs,hq⟩,q⟩|⟨⟨xs,hq⟩,q⟩
 .obtain⟨its,rv,p,hz⟩:=I1.list hq;refine il p.isList ?_;refine⟨s1.heap.objs.size,[s1.heap.objs.size],_,_,H1,rfl,I1.kept (t':=s1.toks) λb o e=>ya _ e,UL a _,⟨_,ue _ rfl,rfl,rfl⟩,λb hb=>?_,q⟩;have e:b=s1.heap.objs.size:=by simpa using hb
  subst e;exact I1.fpOk (Uf _) (I1.hok.fresh (Uf _))
 .obtain⟨its,rv,p,hz⟩:=I1.tuple hq;refine wpAny_pyIter_tuple (show s1.heap.IsTuple a its.toArray from p) ?_;refine⟨s1.heap.objs.size,[s1.heap.objs.size],_,_,H1,rfl,I1.kept (t':=s1.toks) λb o e=>ya _ e,EG a _,⟨_,ue _ rfl,rfl,rfl⟩,λb hb=>?_,q⟩;have e:b=s1.heap.objs.size:=by simpa using hb
  subst e;exact I1.fpOk (Uf _) (I1.hok.fresh (Uf _))
theorem Z0(h:DE X xw e f):DI X xw tg e (b1 Gi f):=PI.weak (B5 h) λσ H R ⟨W₀,H₀,W,δ,st,q⟩=>by
 refine⟨W₀,H₀,W,δ,st,?_⟩;simp only[b1]at q;cases h1:f δ with
 |stuck=>rw[h1]at q;exact q
 |ex c fs=>rw[h1]at q;exact q
 |ok d=>
  rw[h1]at q
  intro v H1 k1 hv;cases d with
  |lst ds=>
   rw[Has]at hv
   obtain⟨a,xs,e,sq,r⟩:=hv;exact⟨a,e,.inl ⟨⟨xs,sq.sq⟩,q _ H1 k1 (V2 (st.fr.wl.same k1) sq r)⟩⟩
  |tup ds=>
   rw[Has]at hv
   obtain⟨a,xs,e,sq,r⟩:=hv;exact⟨a,e,.inr ⟨⟨xs,sq⟩,q _ H1 k1 (B3 (st.fr.wl.same k1) sq r)⟩⟩
  |_=>exact q.elim
theorem JN(h:pd)(hb:jk<h.objs.size):ObjOk P w H (h.push {cls:=.type "dict",data:=.dict #[]}) h.objs.size (.dK []):=
 ⟨si _,beq_eq_false_iff_ne.mpr (jg (ag hb)),[],.nil,Heap.DictOf.new h⟩
end
def Zr(d:D):Res D:=match d with
 | .non=>.ok (.bl false)
 |_=>.ok (.bl true)
theorem ON{j pos'}(ha:DP X xw a fa):DT X xw (.Compare a [.IsNot] [.Constant .none j pos'] pos) (tR (b1 Zr fa)):=
 DE.t_of (f:=b1 Zr fa) (PT.weak (ER (BX ha)) λσ H Q q=>by
  obtain⟨W₀,H₀,W,δ,st,q⟩:=q
  exact Ng st q λH2 d v k w st2 hv _ q2=>by
   unfold Zr at q2;split at q2
   .rw[hv.non];exact q2.bl
   .rename_i hd
    rw[decide_eq_false (hv.isN hd)];exact q2.bl)
theorem Sg(hr:Room k A):A.units+40<cLine:=by have:=hr.units;omega
theorem EO{fa:ia}(F:Fun K x qual st fa fd)(S:FnScope N ps (Ca st))(body:∀ (cdv:Da) (A:ye) (outer:List cq) (s:ka) (H:Hp) (E:XK),Room k (A.deeper (zj qual (Ca st) s.heap.objs.size fa cdv))->
   FT (Xl Fp P w K mg base N qual (Ca st) fa cdv A outer s H E).nox Nr (Eb st) g):FnOk P w K mg base Fp (k+1) fa fd ps (F6 K ps.length (Hf N.length g)):=by
 refine F.ok S (λvs H Q E h=>h.1) (λcdv A outer s H vs Q E hr h=>?_);obtain⟨hl,W,ds,hw,hd,q⟩:=h;refine⟨_,body cdv A outer s H E hr,W,H,W,Hb N.length ds,Qn hw hd,?_⟩;unfold Hf at q;cases h:g (Hb N.length ds) with
 |rt d=>rw[h]at q;exact λv H' k hv=>q v H' k hv
 |nx δ=>rw[h]at q;exact λW' H' σ' k st'=>q .non H' st'.fr.ext (by rw[Has])
 |bk δ=>rw[h]at q;exact q.elim
 |ct δ=>rw[h]at q;exact q.elim
 |ex c fs=>rw[h]at q;exact q.elim
 |stuck=>rw[h]at q;exact q.elim
def R7(H:Hp):Prop:=∀ q∈J6,H q.1=some (.tab q.2.1 q.2.2)
def KI(K:td):Sp:=λvs H Q _=>∃ (a:ia) (ns:List Int),vs= [.ref a]/\SqL K H a (ns.map V.int)/\ns.length<=63/\R7 H/\∀ H',R7 H'->Q (.bl true) H'
theorem S3{f:ia}(G:FnOk P w K mg base Fp k f fd ps (F6 K 1 m))(h:∀ ns:List Int,ns.length<=63->m [.lst (ns.map D.int)]=.ok (.bl true)):FnOk P w K mg base Fp k f fd ps (KI K):=by
 refine G.imp λvs H Q E q=>?_;obtain⟨a,ns,rfl,sq,hl,tb,q⟩:=q;refine⟨rfl,λ_=>False,[.lst (ns.map D.int)],⟨λb z=>z.elim,tb⟩,HasL.cons ?_ HasL.nil,?_⟩
 .rw[Has];refine⟨a,_,rfl,?_,HasL.ints⟩;rcases sq with(z|z)|z
  .exact .inl ⟨z,λz=>z⟩
  .exact .inr (.inl z)
  .exact .inr (.inr z)
 .rw[h ns hl];intro v H' k hv;rw[Has]at hv
  rw[hv];exact q H' λz hz=>k _ _ (tb z hz)
end L3
namespace L3
open PySem
variable{prog:ic}{w:yd}{A:ye}{E Q:Da->ka->Prop}{s:ka}{it:ia}{i:Nat}{items:Array Da}{x:Da}
theorem YE{t:ia}(hi:s.heap.IsTupleIter it t i)(ht:s.heap.IsTuple t items)(hx:items[i]? =some x)(hQ:∀ h',h'.IsTupleIter it t (i+1)->tm it s.heap h'->Q x {s with heap:=h'}):cb (jb prog w) A (nj (.ref it)) Q E s:=by
 obtain⟨o,h1,h2,h3⟩:=id hi;obtain⟨u,g1,g2,m,g3⟩:=ht;unfold nj;refine ja (ku (name:=Str.ofString "__next__") hi.typeIs F.slot_tuple_iterator_next (bu F.slot_tuple_iterator_next hi.typeIs F.entry_tuple_iterator_next ?_ (F.args_tuple_iterator_next_1 _)));show cb _ _ (field (.ref it) 0 >>= _) _ _ s;refine ja (fm h1 h3 (x:=.ref t) rfl ?_);show cb _ _ (if(Value.ref t==Value.none)=true then _ else _) _ _ s;rw[if_neg (show ¬ ((Value.ref t==Value.none)=true) from xa)];show cb _ _ (field (.ref it) 1 >>= _) _ _ s;refine ja (fm h1 h3 (x:=.int i 0) rfl ?_);show cb _ _ (seqItems? (.ref t) >>= _) _ _ s;refine ja (wpAny_seqItems g1 g3 ?_);simp only[tj,hx];refine ja (gm h1 h3 (by simp) (kb ⟨x,rfl,kb (hQ _ ⟨_,zi _ h1 (xo (dj h3 _)),(Obj.cls_mapFields ..).trans h2,?_⟩ (tm.update ..))⟩));rw[dj h3];simp[rawInt]
theorem SK{t:ia}(hh:A.handled=none)(hi:s.heap.IsTupleIter it t i)(ht:s.heap.IsTuple t items)(hx:items[i]? =none)(hE:∀ h' e,Heap.ExtBut it s.heap h'->(∃ o,h'.get? e=some o/\o.cls=.type "StopIteration")->E (.ref e) {s with heap:=h'}):cb (jb prog w) A (nj (.ref it)) Q E s:=by
 obtain⟨o,h1,h2,h3⟩:=id hi;obtain⟨u,g1,g2,m,g3⟩:=ht;unfold nj;refine ja (ku (name:=Str.ofString "__next__") hi.typeIs F.slot_tuple_iterator_next (bu F.slot_tuple_iterator_next hi.typeIs F.entry_tuple_iterator_next ?_ (F.args_tuple_iterator_next_1 _)));show cb _ _ (field (.ref it) 0 >>= _) _ _ s;refine ja (fm h1 h3 (x:=.ref t) rfl ?_);show cb _ _ (if(Value.ref t==Value.none)=true then _ else _) _ _ s;rw[if_neg (show ¬ ((Value.ref t==Value.none)=true) from xa)];show cb _ _ (field (.ref it) 1 >>= _) _ _ s;refine ja (fm h1 h3 (x:=.int i 0) rfl ?_);show cb _ _ (seqItems? (.ref t) >>= _) _ _ s;refine ja (wpAny_seqItems g1 g3 ?_);simp only[tj,hx];refine ja (wpAny_rule (ja (gm h1 h3 (by simp) ?_)));show cb _ _ (newExc (.type "StopIteration") [] >>= _) _ _ _;refine ja ?_;simp only[newExc,newTuple];refine ja (qt ?_ (by size_fits));refine ja (m:=firstArgMember _ _) (wpAny_of_eq (a:=Value.none) (by first|rfl|(simp only[firstArgMember];rfl)) ?_);refine qt ?_ (by size_fits);simp only[raiseNew];refine ja (wpAny_handled ?_);first|rw[show A.in1.handled=none from hh]|rw[hh]
 refine ja (kb (wpAny_throw (hE _ _ (((tm.update ..).extBut.push _).push _) ⟨_,ue _ rfl,rfl⟩)))
theorem B1(hh:A.handled=none)(it t:ia)(hne:t≠it)(items:Array Da):Draws prog w A it [it,t] items.size (λi v=>items[i]? =some v) (λi h=>h.IsTupleIter it t i/\h.IsTuple t items) where
 live:=λ_ _ st=>let ⟨o,ho,_⟩:=st.1;⟨o,ho⟩
 frame:=λ_ _ _ st hk=>⟨let ⟨o,e,r⟩:=st.1;⟨o,hk it (by simp) o e,r⟩,let ⟨o,e,r⟩:=st.2;⟨o,hk t (by simp) o e,r⟩⟩
 item:=λi s Q E hi st hQ=>YE st.1 st.2 (x:=items[i]) (by simp[hi]) λh' z hs=>hQ _ h' s.toks (by simp[hi]) ⟨z,let ⟨o,e,r⟩:=st.2;⟨o,hs.extBut _ _ hne e,r⟩⟩ hs
 done:=λs Q E st hE=>SK hh st.1 st.2 (by simp) hE
structure ZA(z TI TO i1 i2:ia)(f1 f2:List ia):Prop where
 a1:TI≠z
 a2:TO≠z
 a3:TI≠TO
 m1:i1∈f1
 m2:i2∈f2
 z1:z∉f1
 z2:z∉f2
 o1:TO∉f1
 o2:TO∉f2
 t1:TI∉f1
 t2:TI∉f2
 x1:i2∉f1
 x2:i1∉f2
variable{z i1 i2:ia}{k:Nat}{a b:Da}
section
variable {TI TO:ia}{f1 f2:List ia}{n1 n2:Nat}{P1 P2:Nat->Da->Prop}{S1 S2:Nat->pd->Prop}
end
def IsSq(tup:Bool)(h:pd)(l:ia)(xs:Array Da):Prop:=match tup with
 |true=>h.IsTuple l xs
 |false=>h.IsList l xs
def itO(tup:Bool)(l:ia):mh:=match tup with
 |true=> {cls:=.type "tuple_iterator",data:=.fields #[.ref l,.int 0 0]}
 |false=> {cls:=.type "list_iterator",data:=.fields #[.ref l,.int 0 0]}
def SqI(tup:Bool)(h:pd)(i l:ia)(k:Nat):Prop:=match tup with
 |true=>h.IsTupleIter i l k
 |false=>h.IsListIter i l k
variable{i l:ia}{h':pd}
theorem SqI.at'{tup:Bool}{h:pd}(q:SqI tup h i l k)(f:∀ o,h.get? i=some o->h'.get? i=some o):SqI tup h' i l k:=by
 cases tup with
 |true=>obtain⟨o,e,r⟩:=q;exact⟨o,f o e,r⟩
 |false=>obtain⟨o,e,r⟩:=q;exact⟨o,f o e,r⟩
theorem SqI.rec{tup:Bool}{h:pd}(q:SqI tup h i l k):∃ o vs,h.get? i=some o/\o.data=.fields vs:=by
 cases tup with
 |true=>obtain⟨o,e,_,r⟩:=q;exact⟨o,_,e,r⟩
 |false=>obtain⟨o,e,_,r⟩:=q;exact⟨o,_,e,r⟩
variable{xs:Array Da}
theorem IsSq.lt{tup:Bool}{h:pd}(q:IsSq tup h l xs):l<h.objs.size:=by
 cases tup with
 |true=>obtain⟨o,e,_⟩:=q;exact sd e
 |false=>obtain⟨o,e,_⟩:=q;exact sd e
theorem KN(hh:A.handled=none)(tup:Bool)(it l:ia)(hne:l≠it)(xs:Array Da):Draws prog w A it [it,l] xs.size (λi v=>xs[i]? =some v) (λi h=>SqI tup h it l i/\IsSq tup h l xs):=by
 cases tup with
 |true=>exact B1 hh it l hne xs
 |false=>exact Draws.list hh it l hne xs
theorem Wz{tup:Bool}(q:IsSq tup s.heap l xs)(h:Q (.ref s.heap.objs.size) {s with heap:=s.heap.push (itO tup l)}):
  cb (jb prog w) A (pyIter (.ref l)) Q E s:=by
 cases tup with
 |true=>exact wpAny_pyIter_tuple q h
 |false=>exact il q h
section
variable {TI TO l1 l2:ia}{t1 t2:Bool}{ys:Array Da}{y:Da}
end
open PySem.Spec PyProof.Rows L2
def XY(t:Bool)(K:td)(H:Hp)(l:ia)(xs:List V):Prop:=match t with
 |true=>SqT K H l xs
 |false=>SqL K H l xs
variable{xs:List V}{X:Cx}{H:Hp}{t':Nat}{ch:List ia}
section
variable {pins:List (ia×mh)}{σ:L2.St}
theorem JE(I:Inv X pins σ H s){t:Bool}(h:XY t X.K H l xs):∃ its:List Da,Vals xs its/\IsSq t s.heap l its.toArray/\xs.length<=sizeLine:=by
 cases t with
 |true=>obtain⟨its,r,p,z⟩:=I.tuple h;exact⟨its,r,p,z⟩
 |false=>obtain⟨its,r,p,z⟩:=I.list h;exact⟨its,r,p.isList,z⟩
theorem ME(I:Inv X pins σ H s){t:Bool}{ys:List V}(h:XY t X.K H l xs)(h':XY t X.K H l ys):xs=ys:=by
 cases t with
 |true=>exact I.tuple_inj h h'
 |false=>exact I.list_inj h h'
theorem CK{n:ia}{its:List Da}(I:Inv X pins σ H s)(hf:∀ b∈ch,Qo X pins H b)(k:∀ b o,b∉ch->s.heap.get? b=some o->h'.get? b=some o)(hn:s.heap.objs.size<=n)(r:Vals xs its)(hz:xs.length<=sizeLine)(new:IsTup h' n its.toArray):Inv X pins σ (Lb H n (.tup xs)) {s with heap:=h',toks:=t'}:=by
 have hfree:=I.hok.fresh hn;have nch:∀ b u,H b=some u->b∉ch:=λb u e m=>by rw[(hf b m).1]at e;cases e
 have nn:∀ b o,s.heap.get? b=some o->b≠n:=λb o e=>ag (bd (sd e) hn)
 refine I.step (g':=s.gens) (d':=s.drawn) (ch:=ch) (λb hb=>⟨(hf b hb).2.2.2.1,(hf b hb).2.1,(hf b hb).2.2.2.2.1,(hf b hb).2.2.2.2.2⟩) (λb o _ _ hc e _=>k b o hc e) (λb o _ _ hc e _=>⟨o.slots,k b o hc e⟩)
  (λb o hc e q=>by rw[Ea (nn b o e)];exact q) (λb o hc e=>⟨o,k b o hc e⟩) (λb ys e=>by rw[Ea (Sa e hfree)];exact e) (λb o u e=>by rw[Ea (Sa e hfree)];exact e)
  (λb ps e=>⟨#[],by rw[Ea (Sa e hfree),e];simp⟩) (λm hm=>?_) (λb u e=>?_) I.bare
 .obtain⟨o,es,ep,ho,q⟩:=hm;exact⟨o,es,ep,k _ o (λz=>(hf _ z).2.1 rfl) ho,q⟩
 .by_cases hb:b=n
  .subst hb;rw[Ta]at e;cases e
   exact⟨hz,its,r,new⟩
  .rw[Ea hb]at e
   refine(I.hok b u e).stay (λc v hc q=>k c v ?_ q) (λc q=>by rw[Ea (Sa q hfree)];exact q) λc ys q=>by rw[Ea (Sa q hfree)];exact q
   rcases hc with z|z
   .rw[z];exact nch b u e
   .exact nch c _ z
theorem EK(I:Inv X pins σ H s)(hf:∀ b∈ch,Qo X pins H b)(k:∀ b o,b∉ch->s.heap.get? b=some o->h'.get? b=some o):Inv X pins σ H {s with heap:=h',toks:=t'}:=by
 have nch:∀ b u,H b=some u->b∉ch:=λb u e m=>by rw[(hf b m).1]at e;cases e
 refine I.step (g':=s.gens) (d':=s.drawn) (ch:=ch) (λb hb=>⟨(hf b hb).2.2.2.1,(hf b hb).2.1,(hf b hb).2.2.2.2.1,(hf b hb).2.2.2.2.2⟩) (λb o _ _ hc e _=>k b o hc e) (λb o _ _ hc e _=>⟨o.slots,k b o hc e⟩)
  (λ_ _ _ _ q=>q) (λb o hc e=>⟨o,k b o hc e⟩) (λ_ _ e=>e) (λ_ _ _ e=>e) (λb ps e=>⟨#[],by rw[e];simp⟩) (λm hm=>?_) (λb u e=>?_) I.bare
 .obtain⟨o,es,ep,ho,q⟩:=hm;exact⟨o,es,ep,k _ o (λz=>(hf _ z).2.1 rfl) ho,q⟩
 .refine(I.hok b u e).stay (λc v hc q=>k c v ?_ q) (λ_ q=>q) λ_ _ q=>q;rcases hc with z|z
  .rw[z];exact nch b u e
  .exact nch c _ z
end
variable{a b:nc}{xw:XW}{pos:bh}{K:td}
section
variable {elts:List nc}{kt:Nat}{pt p:bh}{fs:Ha->Res (List D)}
def ZO:D->Option (List D)
 | .tup ds=>some ds
 | .lst ds=>some ds
 |_=>none
theorem G6{W:WS}{d:D}{v:V}{ds:List D}(w:WL W H)(h:Has K W H d v)(e:ZO d=some ds):
  ∃ t l xs,v=.ref l/\HasL K W H ds xs/\∀ W' H2,Step W H W' H2->XY t K H2 l xs:=by
 cases d with
 |tup es=>
  cases e;rw[Has]at h
  obtain⟨a,xs,e1,sq,r⟩:=h;exact⟨true,a,xs,e1,r,λW' H2 k=>Lv k.keep w sq⟩
 |lst es=>
  cases e;rw[Has]at h
  obtain⟨a,xs,e1,sq,r⟩:=h;exact⟨false,a,xs,e1,r,λW' H2 k=>(sq.keep k.keep w k.new).sq⟩
 |_=>cases e
end
variable{i:Int}{α:Type}
section
variable {β:Type}
theorem Wa(a:α)(k:α->Out):Pm (.ok a) k=k a:=rfl
theorem Tu(c:ua)(fs:List D)(k:α->Out):Pm (.ex c fs) k=.ex c fs:=rfl
theorem Yk(k:α->Out):Pm .stuck k=.stuck:=rfl
theorem Ma(δ:Ha)(g:Ha->Out):Bp (.nx δ) g=g δ:=rfl
theorem Je(d:D)(g:Ha->Out):Bp (.rt d) g=.rt d:=rfl
theorem seqO_ex(c:ua)(fs:List D)(g:Ha->Out):Bp (.ex c fs) g=.ex c fs:=rfl
theorem Uj(g:Ha->Out):Bp .stuck g=.stuck:=rfl
theorem Hd(c:Bool)(a b:Out):ifO (.ok c) a b=if c=true then a else b:=rfl
theorem Cj(c:Bool)(y:Res Bool):TZ (.ok c) y=if c=true then y else .ok false:=rfl
theorem Qd(c:Bool)(y:Res Bool):orB (.ok c) y=if c=true then .ok true else y:=rfl
theorem Li(c:Bool)(y:Res D):UZ (.ok (.bl c)) y=if c=true then y else .ok (.bl false):=by cases c<;>rfl
theorem Ap(c:Bool)(y:Res D):orD (.ok (.bl c)) y=if c=true then .ok (.bl true) else y:=by cases c<;>rfl
theorem Ua(c:Bool):Kp (.bl c)=.ok c:=rfl
theorem Zp(c:Bool):DQ (.bl c)=.ok (.bl (!c)):=rfl
theorem Yi(i j:Int):Kd (.int i) (.int j)=.ok (.bl (i==j)):=by simp[Kd,Qe,Pj]
theorem Zo(i j:Int):Nu (.int i) (.int j)=.ok (.bl (!(i==j))):=by simp[Nu,Qe,Pj]
theorem Au(i j:Bool):Kd (.bl i) (.bl j)=.ok (.bl (i==j)):=by simp[Kd,Qe,Pj]
theorem Mm(i j:Int):NT (.int i) (.int j)=.ok (.bl (decide (i<j))):=rfl
theorem Lm(i j:Int):Jx (.int i) (.int j)=.ok (.bl (decide (i<=j))):=rfl
theorem Hm(i j:Int):Xy (.int i) (.int j)=.ok (.bl (decide (j<i))):=rfl
theorem Yq(i j:Int):K2 (.int i) (.int j)=.ok (.bl (decide (j<=i))):=rfl
theorem Kf(i j:Int):Wc (.int i) (.int j)=.ok (.int (i+j)):=rfl
theorem ZT(xs ys:List D):Wc (.tup xs) (.tup ys)=@ite (Res D) (xs.length+ys.length<=sizeLine) (uc _) (.ok (.tup (xs++ys))) .stuck:=rfl
theorem Kj(xs ys:List D)(h:xs.length+ys.length<=1000):Wc (.tup xs) (.tup ys)=.ok (.tup (xs++ys)):=by
 rw[ZT,if_pos (bf h Km)]
theorem Kq(i j:Int):JD (.int i) (.int j)=.ok (.int (i-j)):=rfl
theorem Ou(i:Int):Ic0 (.int i)=.ok (.int (-i)):=rfl
theorem Kn(i j:Int):Gf (.int i) (.int j)=@ite (Res D) (0<j) (uc _) (.ok (.int (i%j))) .stuck:=rfl
theorem Nk(i j:Int):Bj (.int i) (.int j)=@ite (Res D) (0<j/\j<1073741824) (uc _) (.ok (.int (i / j))) .stuck:=rfl
theorem Wp(i j:Int):Fc0 [.int i,.int j]=.ok (.int (max i j)):=rfl
theorem Yp(i j:Int):Gc0 [.int i,.int j]=.ok (.int (min i j)):=rfl
theorem Qt(i:Int):Rb0 (.int i)=.ok (.int (if i<0 then -i else i)):=rfl
theorem Ar(ds:List D):Gc (.tup ds)=.ok (.int ds.length):=rfl
theorem Zd(ds:List D):Gc (.lst ds)=.ok (.int ds.length):=rfl
theorem Er(ds:List D):Gi (.tup ds)=.ok ds:=rfl
theorem Dk(ds:List D):Gi (.lst ds)=.ok ds:=rfl
theorem Vm(ds:List D):Dp (.tup ds)=.ok (.tup ds):=rfl
theorem Um(ds:List D):Dp (.lst ds)=.ok (.tup ds):=rfl
theorem Mf(i:Int):Oh (.int i)=.ok (some i):=rfl
theorem Ka(d:D)(ds:List D):VG (.ok d) (.ok ds)=.ok (d::ds):=rfl
theorem Rl(a:α):noex (.ok a)=.ok a:=rfl
theorem ED(ds:List D)(lo hi:Option Int):slD (.lst ds) lo hi=.ok (.lst (cutD ds lo hi)):=rfl
theorem Ya(x:D)(l:Ha):Ra 0 (some (.d x)::l)=.ok x:=rfl
theorem Ob(n:Nat)(a:Option S)(l:Ha):Ra (n+1) (a::l)=Ra n l:=by simp[Ra]
theorem Oa(x:D)(l:Ha):Ba 0 (some (.d x)::l)=.ok x:=rfl
theorem Sh(x:List D)(l:Ha):Ba 0 (some (.o x)::l)=.ok (.lst x):=rfl
theorem Bb(n:Nat)(a:Option S)(l:Ha):Ba (n+1) (a::l)=Ba n l:=by simp[Ba]
theorem Za(n:Nat)(m:List D->Res D)(ds:List D)(d:D)(h:m ds=.ok d)(hn:ds.length=n):Pa n m ds=.ok d:=by
 unfold Pa;rw[if_pos hn,h];rfl
theorem RB(ds:List D)(i:Int)(d:D)(h:Ey ds i=some d):Xc (.lst ds) (.int i)=.ok d:=by show(match Ey ds i with|some d=>Res.ok d|none=>Res.stuck)=_;rw[h]
theorem Bn{xs:List α}{d:α}(h0:0<=i)(h:xs[i.toNat]? =some d):Ey xs i=some d:=by
 have hl:=(pb.mp h).1;unfold Ey DZ;rw[if_pos h0,if_pos (by omega)];exact h
theorem OD{xs:List α}(h0:0<=i)(h1:i<xs.length):∃ d,Ey xs i=some d/\d∈xs:=by
 have hl:i.toNat<xs.length:=by omega
 exact⟨xs[i.toNat],Bn h0 (qd hl),List.getElem_mem hl⟩
end
section
variable {t:D->Ha->Res Ha}{body:Ha->Out}
theorem Rk(d:D)(ds:List D)(δ δ':Ha)(h:t d δ= .ok δ'):Te t body (d::ds) δ=(match body δ' with
   | .nx δ2=>Te t body ds δ2
   | .ct δ2=>Te t body ds δ2
   | .bk δ2=>.nx δ2
   | .rt d=>.rt d
   | .ex c fs=>.ex c fs
   | .stuck=>.stuck):=by
 rw[Te,h]
 first|done|rfl|dsimp only
end
variable{fe:Ha->Res D}
section
variable {c:Ha->Res Bool}
theorem Vo(t:D->Ha->Res Ha)(d:D)(ds:List D)(δ δ':Ha)(h:t d δ= .ok δ'):Ug t c fe (d::ds) δ=((noex (c δ')).bind λk=>if k=true then(noex (fe δ')).bind λx=>(Ug t c fe ds δ').bind λr=>.ok (x::r) else Ug t c fe ds δ'):=by
 rw[Ug];rw[h]
theorem Ur(p:D->Bool)(f:D->D)(δ:Ha):∀ (ds:List D) (x:Option S),(∀ d∈ds,c (some (.d d)::δ)=.ok (p d)/\(p d=true->fe (some (.d d)::δ)=.ok (f d)))->Ug (Cc 0) c fe ds (x::δ)=.ok ((ds.filter p).map f)
 | [],_,_=>rfl
 |d::ds,x,h=>by
  obtain⟨h1,h2⟩:=h d kc;rw[Vo (Cc 0) d ds (x::δ) (some (.d d)::δ) rfl,h1];have ih:=Ur p f δ ds (some (.d d)) λy hy=>h y (ib _ hy);rw[ih];cases hp:p d with
  |false=>rw[List.filter_cons_of_neg (by rw[hp];exact xa)];rfl
  |true=>rw[List.filter_cons_of_pos hp,h2 hp];rfl
theorem Ke(f:D->D)(δ:Ha)(ds:List D)(x:Option S)(h:∀ d∈ds,fe (some (.d d)::δ)=.ok (f d)):Ug (Cc 0) (λ_=>.ok true) fe ds (x::δ)=.ok (ds.map f):=by
 rw[Ur (λ_=>true) f δ ds x λd hd=>⟨rfl,λ_=>h d hd⟩];rw[List.filter_eq_self.mpr λ_ _=>rfl]
end
theorem IA(f:α->Bool)(xs:List α):Qb (xs.map λx=>D.bl (f x))=some (xs.map f):=by
 induction xs with
 |nil=>rfl
 |cons x xs ih=>simp[Qb,ih]
theorem Rt(f:α->Bool)(xs:List α):To (.lst (xs.map λx=>D.bl (f x)))=.ok (.bl (xs.all f)):=by
 show(match Qb (xs.map λx=>D.bl (f x)) with|some bs=>Res.ok (D.bl (bs.all id))|none=>Res.stuck)=_;rw[IA];simp[all_map]
theorem IS(i:ua):(Yz (.str i)=none)=False:=by simp[Yz]
def isI:D->Bool
 | .int _=>true
 |_=>false
def isB:D->Bool
 | .bl _=>true
 |_=>false
def isS:D->Bool
 | .str _=>true
 |_=>false
def isT:D->Bool
 | .tup _=>true
 |_=>false
theorem YO(d:D)(h:Yz d≠none):We "int" d=.ok (.bl (isI d||isB d)):=by cases d<;>first|exact absurd rfl h|(simp[We,Yz,Cu,isI,isB])
theorem GK(d:D)(h:Yz d≠none):We "bool" d=.ok (.bl (isB d)):=by cases d<;>first|exact absurd rfl h|(simp[We,Yz,Cu,isB])
theorem Jm(d:D)(h:Yz d≠none):We "str" d=.ok (.bl (isS d)):=by cases d<;>first|exact absurd rfl h|(simp[We,Yz,Cu,isS])
theorem Fm(i j k:Int):Nj Jx Jx (.int i) (.int j) (.ok (.int k))=.ok (.bl (decide (i<=j/\j<=k))):=by
 unfold Nj;rw[Lm];by_cases h:i<=j
 .rw[decide_eq_true h];show Jx (.int j) (.int k)=_;rw[Lm];simp[h]
 .rw[decide_eq_false h];simp[h,Res.bind]
theorem Oj(i j k:Int):Nj Jx NT (.int i) (.int j) (.ok (.int k))=.ok (.bl (decide (i<=j/\j<k))):=by
 unfold Nj;rw[Lm];by_cases h:i<=j
 .rw[decide_eq_true h];show NT (.int j) (.int k)=_;rw[Mm];simp[h]
 .rw[decide_eq_false h];simp[h,Res.bind]
def Np:Out->Res D
 | .rt d=>.ok d
 | .nx _=>.ok .non
 |_=>.stuck
theorem Nb(n:Nat)(g:Ha->Out)(ds:List D):Hf n g ds=Np (g (Hb n ds)):=by
 unfold Hf Np;cases g (Hb n ds)<;>rfl
theorem Tb(d:D):Np (.rt d)=.ok d:=rfl
theorem Pp(δ:Ha):Np (.nx δ)=.ok .non:=rfl
open SeqAt
structure XE(X:Cx)(xw:XW)(e:nc)(f:Ha->Res D):Prop where
 h:DE X xw e f
structure XP(X:Cx)(xw:XW)(e:nc)(f:Ha->Res D):Prop where
 h:DP X xw e f
structure XF(X:Cx)(xw:XW)(e:nc)(f:Ha->Res (List D)):Prop where
 h:DF X xw e f
structure XT(X:Cx)(xw:XW)(e:nc)(f:Ha->Res Bool):Prop where
 h:DT X xw e f
structure XW'(X:Cx)(xw:XW)(e:nc)(f:Ha->Res Bool):Prop where
 h:DW X xw e f
structure XA(X:Cx)(xw:XW)(e:List nc)(f:Ha->Res (List D)):Prop where
 h:DA X xw e f
structure XO(X:Cx)(xw:XW)(e:Option nc)(f:Ha->Res (Option Int)):Prop where
 h:DO X xw e f
structure XG(X:Cx)(e:nc)(f:D->Ha->Res Ha):Prop where
 h:DG X e f
structure XGs(X:Cx)(e:List nc)(f:List D->Ha->Res Ha):Prop where
 h:G7 X e f
structure XTs(X:Cx)(e:List nc)(f:Ha->Res Bool):Prop where
 h:DTs X e f
structure XS(X:Cx)(xw:XW)(e:yf)(f:Ha->Out):Prop where
 h:DS X xw e f
structure XSs(X:Cx)(xw:XW)(e:List yf)(f:Ha->Out):Prop where
 h:FT X xw e f
structure XI(X:Cx)(xw:XW)(tg e:nc)(f:Ha->Res (List D)):Prop where
 h:DI X xw tg e f
variable{x:ua}{n:Nat}{st:yf}{g:Ha->Out}{tgs:List nc}{ts:List D->Ha->Res Ha}{o o':CmpOp}{op op':D->D->Res D}{pos':bh}
section
variable {e c:nc}{f fa fb fc:Ha->Res D}{p p2:bh}{sts as bs:List yf}{tg iter elt:nc}{t:D->Ha->Res Ha}{fs:Ha->Res (List D)}{es rest:List nc}{ga gb gc:Ha->Res Bool}{g1 g2:Ha->Out}{lo hi:Option nc}{fl fh:Ha->Res (Option Int)}{fi:Ha->Res (List D)}{scope:io}{ifs:List nc}
theorem Ib(i:Nat)(hN:X.N[i]? =some x:=by rfl)(hv:Jw X.env.scope x:=by first|exact Or.inl rfl|exact Or.inr (Or.inl rfl)|exact Or.inr (Or.inr rfl))(hd:(x==("__debug__":ua))=false:=by decide)(hcd:(x==("__classdict__":ua))=false:=by decide):XE X xw (.Name x pos) (Ra i):=⟨V0 i hN hv hd hcd⟩
theorem Na(i:Nat)(hN:X.N[i]? =some x:=by rfl)(hv:Jw X.env.scope x:=by first|exact Or.inl rfl|exact Or.inr (Or.inl rfl)|exact Or.inr (Or.inr rfl))(hd:(x==("__debug__":ua))=false:=by decide)(hcd:(x==("__classdict__":ua))=false:=by decide):XP X xw (.Name x pos) (Ba i):=⟨A1 i hN hv hd hcd⟩
theorem Ia(h:XE X xw e f):XP X xw e f:=⟨DE.p h.h⟩
theorem Sn(hm:∃ t,X.mg x=some (.int i t))(hg:Gl X x:=by rfl)(hdb:(x==("__debug__":ua))=false:=by decide):XE X xw (.Name x pos) (kD (.int i)):=⟨DN hm hg hdb⟩
theorem YI{y:ua}(hm:∃ t,X.mg x=some (.str y t))(hg:Gl X x:=by rfl)(hdb:(x==("__debug__":ua))=false:=by decide):XE X xw (.Name x pos) (kD (.str y)):=⟨EN hm hg hdb⟩
theorem An{op}(h:XE X xw a fa):XE X xw (.BoolOp op [a] pos) fa:=⟨O0 h.h⟩
theorem IG(ha:XT X xw a ga):XW' X xw (.BoolOp .And [a] pos) ga:=⟨XU ha.h⟩
theorem Xm(ha:XT X xw a ga):XW' X xw (.BoolOp .Or [a] pos) ga:=⟨Q1 ha.h⟩
theorem AJ(h:XW' X xw e ga):XT X xw e ga:=⟨DW.t h.h⟩
theorem V6{j pos'}(ha:XP X xw a fa):XT X xw (.Compare a [.IsNot] [.Constant .none j pos'] pos) (tR (b1 Zr fa)):=⟨ON ha.h⟩
theorem CB(hm:X.mg "list"=none)(ha:XP X xw a fa)(hg:Gl X "list":=by rfl)(he:Fa [a] X.env=(false,eval a X.env)::Fa [] X.env:=by rfl)(hpl:(yc pos (Fa [] X.env)).any (·.1)=false:=by rfl):
  XF X xw (.Call (.Name "list" p) [a] [] pos) (b1 Gi fa):=⟨SJ hm ha.h hg he hpl⟩
theorem RY(hm:X.mg "tuple"=none)(ha:XP X xw a fa)(hg:Gl X "tuple":=by rfl)(he:Fa [a] X.env=(false,eval a X.env)::Fa [] X.env:=by rfl)(hpl:(yc pos (Fa [] X.env)).any (·.1)=false:=by rfl):
  XE X xw (.Call (.Name "tuple" p) [a] [] pos) (b1 Dp fa):=⟨GN hm ha.h hg he hpl⟩
theorem CA(hm:X.mg "int"=none)(ha:XP X xw a fa)(hg:Gl X "int":=by rfl)(he:Fa [a] X.env=(false,eval a X.env)::Fa [] X.env:=by rfl)(hpl:(yc pos (Fa [] X.env)).any (·.1)=false:=by rfl):
  XE X xw (.Call (.Name "int" p) [a] [] pos) (b1 Wv fa):=⟨FN hm ha.h hg he hpl⟩
theorem Im(h:XE X xw e f):XI X xw tg e (b1 Gi f):=⟨Z0 h.h⟩
theorem Cd(i:Nat)(hN:X.N.Nodup)(hi:X.N[i]? =some x:=by rfl)(hx:Loc X.env.scope x:=by first|exact Or.inl rfl|exact Or.inr rfl)(hf:X.fn x=true\/X.env.scope.names.lookup x=some .local:=by first|exact .inl rfl|exact .inr rfl|assumption):
  XG X (.Name x pos) (Cc i):=⟨OU i hN hi hx hf⟩
theorem BZ:XGs X [] Fs:=⟨PU⟩
theorem Vy(h1:XG X tg t)(h2:XGs X tgs ts)(hs:(gh (tg::tgs) X.env).map (·.2)=wu tg X.env::(gh tgs X.env).map (·.2):=by rfl):XGs X (tg::tgs) (Ji t ts):=⟨HN h1.h h2.h hs⟩
theorem CZ(hc:X.calm=true)(h:XGs X tgs ts)(hn:(gh tgs X.env).length=n:=by rfl)(hst:(gh tgs X.env).findIdx? (·.1)=none:=by rfl):XG X (.Tuple tgs k pos) (Gs n ts):=⟨Y0 hc h.h hn hst⟩
theorem Ti:XTs X [] (λ_=>.ok true):=⟨WU⟩
theorem Bc:XSs X xw [] .nx:=⟨UU⟩
theorem Va(h1:XS X xw st g1):XSs X xw [st] g1:=⟨VU h1.h⟩
theorem La{j}:XE X xw (.Constant (.int i) j pos) (kD (.int i)):=⟨F0⟩
theorem DM{i:Bool}{j}:XE X xw (.Constant (.bool i) j pos) (kD (.bl i)):=⟨Z7⟩
theorem Xb{i:ua}{j}:XE X xw (.Constant (.str i) j pos) (kD (.str i)):=⟨Q0⟩
theorem Zm{j}:XE X xw (.Constant .none j pos) (kD .non):=⟨M0⟩
theorem Ge(ha:XP X xw a fa)(hb:XP X xw b fb):XE X xw (.BinOp a .Add b pos) (b2 Wc fa fb):=⟨A0 ha.h hb.h⟩
theorem NZ(ha:XP X xw a fa)(hb:XP X xw b fb):XE X xw (.BinOp a .Sub b pos) (b2 JD fa fb):=⟨S0 ha.h hb.h⟩
theorem Th(ha:XP X xw a fa)(hb:XP X xw b fb):XE X xw (.BinOp a .Mod b pos) (b2 Gf fa fb):=⟨K0 ha.h hb.h⟩
theorem Ym(ha:XP X xw a fa)(hb:XP X xw b fb):XE X xw (.BinOp a .FloorDiv b pos) (b2 Bj fa fb):=⟨MU ha.h hb.h⟩
theorem Pa0(ha:XP X xw a fa)(hb:XP X xw b fb):XE X xw (.BinOp a .Pow b pos) (b2 ZQ fa fb):=⟨P0 ha.h hb.h⟩
theorem Oa0(ha:XE X xw a fa):XE X xw (.UnaryOp .Not a pos) (b1 DQ fa):=⟨N0 ha.h⟩
theorem Js(ha:XE X xw a fa)(hb:XE X xw (.BoolOp .And (b::rest) pos) fb):XE X xw (.BoolOp .And (a::b::rest) pos) (Ek fa fb):=⟨C0 ha.h hb.h⟩
theorem PY(ha:XE X xw a fa)(hb:XE X xw (.BoolOp .Or (b::rest) pos) fb):XE X xw (.BoolOp .Or (a::b::rest) pos) (OI fa fb):=⟨C8 ha.h hb.h⟩
theorem Vh(hc:CmpR X xw o op)(ha:XP X xw a fa)(hb:XP X xw b fb):XE X xw (.Compare a [o] [b] pos) (b2 op fa fb):=⟨D0 hc ha.h hb.h⟩
theorem Fg(hc:CmpR X xw o op)(ha:XP X xw a fa)(hb:XP X xw b fb):XT X xw (.Compare a [o] [b] pos) (tR (b2 op fa fb)):=⟨K1 hc ha.h hb.h⟩
theorem AA(hc:CmpR X xw o op)(hc':CmpR X xw o' op')(ha:XP X xw a fa)(hb:XP X xw b fb)(hcc:XP X xw c fc)(hm:fu [o,o'] [b,c]=false:=by with_unfolding_all rfl):
  XE X xw (.Compare a [o,o'] [b,c] pos) (EJ op op' fa fb fc):=⟨CN hc hc' ha.h hb.h hcc.h hm⟩
theorem GA(hc:CmpR X xw o op)(hc':CmpR X xw o' op')(ha:XP X xw a fa)(hb:XP X xw b fb)(hcc:XP X xw c fc)(hm:fu [o,o'] [b,c]=false:=by with_unfolding_all rfl):
  XT X xw (.Compare a [o,o'] [b,c] pos) (tR (EJ op op' fa fb fc)):=⟨NN hc hc' ha.h hb.h hcc.h hm⟩
theorem Ta0{j pos'}(ha:XP X xw a fa):XT X xw (.Compare a [.Is] [.Constant .none j pos'] pos) (tR (b1 Qp fa)):=⟨M1 ha.h⟩
theorem Fh(h:XE X xw e f)(he:∀ whole,isTrue e X.env whole=(do let v <-whole;uu e.pos;mn [v] (truthy v)):=by intro _;rfl):XT X xw e (tR f):=⟨DE.t h.h he⟩
theorem Ui(ha:XT X xw a ga):XT X xw (.UnaryOp .Not a pos) (Fc ga):=⟨N1 ha.h⟩
theorem w_and(ha:XT X xw a ga)(hb:XW' X xw (.BoolOp .And (b::rest) pos) gb):XW' X xw (.BoolOp .And (a::b::rest) pos) (Vj ga gb):=⟨O1 ha.h hb.h⟩
theorem w_or(ha:XT X xw a ga)(hb:XW' X xw (.BoolOp .Or (b::rest) pos) gb):XW' X xw (.BoolOp .Or (a::b::rest) pos) (Fe ga gb):=⟨E8 ha.h hb.h⟩
theorem Sd0(hc:XT X xw c ga)(ha:XE X xw a fa)(hb:XE X xw b fb):XE X xw (.IfExp c a b pos) (UT ga fa fb):=⟨A8 hc.h ha.h hb.h⟩
theorem Xa:XA X xw [] Ja:=⟨ZZ⟩
theorem Ga(ha:XE X xw a fa)(hr:XA X xw es fs)(hs:Fa (a::es) X.env=(false,eval a X.env)::Fa es X.env:=by rfl):XA X xw (a::es) (Aa fa fs):=⟨JU ha.h hr.h hs⟩
theorem OZ{x1}(h:XA X xw es fs):XE X xw (.Tuple es x1 pos) (b1 Ys fs):=⟨U0 h.h⟩
theorem Dg(h:XA X xw es fs):XF X xw (.List es pos) (b1 Oc fs):=⟨W0 h.h⟩
theorem Hc(h:XF X xw e fs):XE X xw e (Bd fs):=⟨DF.de h.h⟩
theorem Pe(ha:XP X xw a fa)(hb:XP X xw b fb)(hs:Ki b:=by intro _ _;rfl):XE X xw (.Subscript a b pos) (b2 Xc fa fb):=⟨B8 ha.h hb.h hs⟩
theorem Cr:XO X xw none Se:=⟨RU⟩
theorem Om(h:XE X xw e f):XO X xw (some e) (b1 Oh f):=⟨SU h.h⟩
theorem CH(ha:XP X xw a fa)(hl:XO X xw lo fl)(hh:XO X xw hi fh):XF X xw (.Subscript a (.Slice lo hi none p2) pos) (b3 FD fa fl fh):=⟨X0 ha.h hl.h hh.h⟩
theorem Eh(hm:X.mg "len"=none)(ha:XP X xw a fa)(hg:Gl X "len":=by rfl)(he:Fa [a] X.env=(false,eval a X.env)::Fa [] X.env:=by rfl)(hpl:(yc pos (Fa [] X.env)).any (·.1)=false:=by rfl):
  XE X xw (.Call (.Name "len" p) [a] [] pos) (b1 Gc fa):=⟨J0 hm ha.h hg he hpl⟩
theorem UI(hc:X.calm=true)(hm:X.mg "all"=none)(ha:XP X xw a fa)(hg:Gl X "all":=by rfl)(he:Fa [a] X.env=(false,eval a X.env)::Fa [] X.env:=by rfl)(hpl:(yc pos (Fa [] X.env)).any (·.1)=false:=by rfl):
  XE X xw (.Call (.Name "all" p) [a] [] pos) (b1 To fa):=⟨B0 hc hm ha.h hg he hpl⟩
theorem Rq{C:String}{c:ua}{p2:bh}(hC:Du C)(hbc:ug c=some (.type C))(hm:X.mg "isinstance"=none)(hmc:X.mg c=none)(ha:XP X xw a fa)(hg:Gl X "isinstance":=by rfl)(hgc:Gl X c:=by rfl)(hcn:c≠"__name__":=by decide)(hcd:(c==("__debug__":ua))=false:=by decide)(he:Fa [a, .Name c p2] X.env=(false,eval a X.env)::Fa [.Name c p2] X.env:=by rfl)(he2:Fa [.Name c p2] X.env=(false,eval (.Name c p2) X.env)::Fa [] X.env:=by rfl)(hpl:(yc pos (Fa [.Name c p2] X.env)).any (·.1)=false:=by rfl):
  XE X xw (.Call (.Name "isinstance" p) [a, .Name c p2] [] pos) (b1 (We C) fa):=⟨G0 hC hbc hm hmc ha.h hg hgc hcn hcd he he2 hpl⟩
theorem Yb{m:List D->Res D}(F:Fn X.prog X.w X.K X.mg X.base k x n m)(hr:Room k X.A)(ha:XA X xw (a::es) fs)(hg:Gl X x:=by rfl)(hdb:(x==("__debug__":ua))=false:=by decide)(he:Fa (a::es) X.env=(false,eval a X.env)::Fa es X.env:=by rfl)(hpl:(yc pos (Fa es X.env)).any (·.1)=false:=by rfl):
  XE X xw (.Call (.Name x p) (a::es) [] pos) (b1 (Pa n m) fs):=⟨LU F hr ha.h hg hdb he hpl⟩
theorem Pf(Nc Nx:List ua)(c:CompOk X scope Nc Nx)(hcalm:X.calm=true)(hi:XI X xw tg iter fi)(hY:∀ (C:ia) (fp:List ia) (pins:List (ia×mh)) (s:ka) (H:Hp),XG (Pd X scope Nc Nx C fp pins s H) tg t/\XTs (Pd X scope Nc Nx C fp pins s H) ifs gc/\XE (Pd X scope Nc Nx C fp pins s H) Nr elt fe)(hs:∀ x,rj iter X.env x=pure x:=by intro _;rfl):
  XF X xw (.ListComp elt [⟨tg,iter,ifs,0⟩] scope pos) (Qc Nc.length t gc fe fi):=⟨NU Nc Nx c hcalm hi.h (λC fp pins s H=>⟨(hY C fp pins s H).1.h,(hY C fp pins s H).2.1.h,(hY C fp pins s H).2.2.h⟩) hs⟩
theorem Kg(hm:X.mg "range"=none)(ha:XA X xw [a] fs)(hg:Gl X "range":=by rfl)(hs:Fa [a] X.env= [(false,eval a X.env)]:=by rfl):XI X xw tg (.Call (.Name "range" p) [a] [] pos) (b1 Xe fs):=⟨TJ hm ha.h hg hs⟩
theorem Qa(h1:XS X xw st g1)(h2:XSs X xw sts g2):XSs X xw (st::sts) (Ab g1 g2):=⟨MN h1.h h2.h⟩
theorem Ub(he:XE X xw e f):XS X xw (.Return (some e) pos) (Gb f):=⟨F1 he.h⟩
theorem LF(i:Nat)(hN:X.N[i]? =some x:=by rfl)(hv:Jw X.env.scope x:=by first|exact Or.inl rfl|exact Or.inr (Or.inl rfl)|exact Or.inr (Or.inr rfl))(hd:(x==("__debug__":ua))=false:=by decide)(hcd:(x==("__classdict__":ua))=false:=by decide):XS X xw (.Return (some (.Name x pos')) pos) (Gb (Ba i)):=⟨TU i hN hv hd hcd⟩
theorem Wd(i:Nat)(hN:X.N.Nodup)(he:XE X xw e f)(hi:X.N[i]? =some x:=by rfl)(hx:Loc X.env.scope x:=by first|exact Or.inl rfl|exact Or.inr rfl)(hs:ki e (some (.Name x pos')) pos.line X.env=pure false:=by rfl)(hf:X.fn x=true\/X.env.scope.names.lookup x=some .local:=by first|exact .inl rfl|exact .inr rfl|assumption):XS X xw (.Assign [.Name x pos'] e pos) (Rb i f):=⟨G1 i hN he.h hi hx hs hf⟩
theorem Sx(i:Nat){ff:Ha->Res (List D)}(hN:X.N.Nodup)(he:XF X xw e ff)(hi:X.N[i]? =some x:=by rfl)(hx:Loc X.env.scope x:=by first|exact Or.inl rfl|exact Or.inr rfl)(hs:ki e (some (.Name x pos')) pos.line X.env=pure false:=by rfl)(hf:X.fn x=true\/X.env.scope.names.lookup x=some .local:=by first|exact .inl rfl|exact .inr rfl|assumption):XS X xw (.Assign [.Name x pos'] e pos) (Tj i ff):=⟨E1 i hN he.h hi hx hs hf⟩
theorem Hg(hc:XT X xw c ga)(ha:XSs X xw as g1)(hb:XSs X xw bs g2):XS X xw (.If c as bs pos) (Nf ga g1 g2):=⟨D8 hc.h ha.h hb.h⟩
theorem Rx(hp:PassesOwn (jb X.prog X.w) X.A X.env X.xe)(hc:X.calm=true)(hi:XI X xw tg iter fi)(hg:XG X tg t)(hb:XSs X xw sts g)(hs:∀ x,rj iter X.env x=pure x:=by intro _;rfl):XS X xw (.For tg iter sts [] pos) (Aj t g fi):=⟨D1 hp hc hi.h hg.h hb.h hs⟩
theorem Gv(i:Nat){p1 p2 p3:bh}(he:XE X xw e f)(hN:X.N[i]? =some x:=by rfl)(hv:Jw X.env.scope x:=by first|exact Or.inl rfl|exact Or.inr (Or.inl rfl)|exact Or.inr (Or.inr rfl))(hd:(x==("__debug__":ua))=false:=by decide)(hcd:(x==("__classdict__":ua))=false:=by decide)(hsE:Fa [e] X.env=(false,eval e X.env)::Fa [] X.env:=by rfl)(hbase:dg (.Name x p1) "append" X.env (eval (.Name x p1) X.env)=eval (.Name x p1) X.env:=by rfl)(hfew:((yc p3 (Fa [e] X.env)).all (λx=> !x.1)&&(bj p3 (ig [] X.env)).all (λx=>x.1.isSome)
   &&decide (([e]:List nc).length+([]:List li).length+(if([]:List li).isEmpty then 0 else 1)<30))=true:=by rfl)(hline:(p2.endLine==p3.line)=true:=by rfl)(hplain:(yc p3 (Fa [] X.env)).any (·.1)=false:=by rfl)(hsw:ki (.Call (.Attribute (.Name x p1) "append" p2) [e] [] p3) none pos.line X.env=pure false:=by rfl):
  XS X xw (.Expr (.Call (.Attribute (.Name x p1) "append" p2) [e] [] p3) pos) (Ws i f):=⟨UJ i he.h hN hv hd hcd hsE hbase hfew hline hplain hsw⟩
end
variable{fa:ia}{P:ic}{mg:ua->Option Da}{base:pd}{qual:ua}{fd:lg}{N ps:List ua}
theorem Mc(F:Fun K x qual st fa fd)(S:FnScope N ps (Ca st))(hm:mg x=some (.ref fa))(hb:Binds K fd ps [])(body:∀ (cdv:Da) (A:ye) (outer:List cq) (s:ka) (H:Hp) (E:XK),Room k (A.deeper (zj qual (Ca st) s.heap.objs.size fa cdv))->
   XSs (Xl Fp P w K mg base N qual (Ca st) fa cdv A outer s H E).nox Nr (Eb st) g):Fn P w K mg base (k+1) x ps.length (Hf N.length g):=
 GV F S hm hb λcdv A outer s H E hr=>(body cdv A outer s H E hr).h
theorem B2(F:Fun K x qual st fa fd)(S:FnScope N ps (Ca st))(body:∀ (cdv:Da) (A:ye) (outer:List cq) (s:ka) (H:Hp) (E:XK),Room k (A.deeper (zj qual (Ca st) s.heap.objs.size fa cdv))->
   XSs (Xl Fp P w K mg base N qual (Ca st) fa cdv A outer s H E).nox Nr (Eb st) g):FnOk P w K mg base Fp (k+1) fa fd ps (F6 K ps.length (Hf N.length g)):=
 EO F S λcdv A outer s H E hr=>(body cdv A outer s H E hr).h
end L3
namespace L3
open PySem PySem.Spec PyProof.Rows L2
section
variable {t:D->Ha->Res Ha}{body:Ha->Out}
theorem Bt(I:Nat->Ha->Prop)(ds:List D)(δ:Ha)(hb:∀ i d δ,ds[i]? =some d->I i δ->∃ δ',t d δ= .ok δ'/\∃ δ2,(body δ'=.nx δ2\/body δ'=.ct δ2)/\I (i+1) δ2)(h:I 0 δ):∃ δ2,Te t body ds δ= .nx δ2/\I ds.length δ2:=by
 induction ds generalizing I δ with
 |nil=>exact⟨δ,rfl,h⟩
 |cons d ds ih=>
  obtain⟨δ',e1,δ2,e2,h2⟩:=hb 0 d δ rfl h;obtain⟨δ3,e3,h3⟩:=ih (λi=>I (i+1)) δ2 (λi x δ hx hI=>hb (i+1) x δ (by simpa using hx) hI) h2;refine⟨δ3,?_,h3⟩;rw[Rk d ds δ δ' e1];rcases e2 with e2|e2<;> · rw[e2];exact e3
end
variable{n:Nat}
section
variable {fe:Ha->Res D}{c:Ha->Res Bool}
abbrev un2:D->Ha->Res Ha:=Gs 2 (Ji (Cc 0) (Ji (Cc 1) Fs))
theorem Nd{t:D->Ha->Res Ha}{δ:Ha}{ds r:List D}(h:Ug t c fe ds (qb n none++δ)=.ok r)(hl:ds.length<=100000):Lf n t c fe δ ds=.ok r:=by
 unfold Lf;rw[if_pos hl,h];rfl
end
theorem Nz(n:Nat)(h:n<100000):Xe [.int n]=.ok (Zj 0 n):=by
 unfold Xe;simp only;rw[if_pos (by omega)];simp
theorem HR(j:Int)(h0:0<=j)(h:j<100000):Xe [.int j]=.ok (Zj 0 j.toNat):=by
 unfold Xe;simp only;rw[if_pos (by omega)]
theorem MC{lo:Int}{i:Nat}{d:D}(h:(Zj lo n)[i]? =some d):i<n/\d=.int (lo+i):=by
 unfold Zj at h;rw[wg]at h
 have hi:i<n:=by
  refine bp λz=>?_;rw[yk (by simpa using z)]at h;cases h
 rw[nq hi]at h
 exact⟨hi,(jc h).symm⟩
theorem NC(lo:Int)(n:Nat):(Zj lo n).length=n:=by simp[Zj]
theorem Dy(i:Nat)(δ:Ha)(ds:List D)(d:D)(h:δ[i]? =some (some (.o ds)))(hl:ds.length<=100000):OM i δ (.ok d)=.nx (δ.set i (some (.o (ds++ [d])))):=by
 unfold OM;rw[h];show(@ite Out (ds.length<=100000) (uc _) _ _)=_;rw[if_pos hl];rfl
end L3
namespace L3
open PySem
theorem GY:fillsNumberSlot (.type "tuple") "mul"=pure false:=fillsNumberSlot_seq (id:="tuple.__mul__") (r:=some (.builtin "tuple.__rmul__")) F.slot_tuple_mul.lookup (by decide +kernel) F.slot_tuple_rmul.lookup (by decide +kernel)
theorem L6:seqRepeat? (.type "tuple")=pure (some (.builtin "tuple.__mul__")):=by
 unfold seqRepeat?;rw[seqSlot_of (T:="tuple") (name:="__mul__") (id:="tuple.__mul__") F.slot_tuple_mul.lookup (by decide +kernel),seqSlot_of (T:="tuple") (name:="__rmul__") (id:="tuple.__rmul__") F.slot_tuple_rmul.lookup (by decide +kernel)];rfl
theorem Ma0(a:Int)(t:Tok)(l:ia)(items:Array Da)(n:Nat)(dd:Option ia)(sl:Array (Option Da)):
  Meets (nk.«int.__rmul__» ⟨[.int a t,.ref l],[]⟩) (λ_ R s=>s.heap.get? l=some {cls:=.type "tuple",dict:=dd,data:=.seq items n,slots:=sl}/\R (.ok (.ret Value.notImplemented)) s):=
 .of_wp λprog w A R s h=>by
  obtain⟨hp,g,d,tk,os⟩:=s;obtain⟨hl,h⟩:=h;wp_walk;exact⟨_,rfl,h⟩
theorem K6(l:ia)(items:Array Da)(n:Nat)(dd:Option ia)(sl:Array (Option Da))(u:Tok):
  Meets (nk.«tuple.__mul__» ⟨[.ref l,.int 1 u],[]⟩) (λ_ R s=>s.heap.get? l=some {cls:=.type "tuple",dict:=dd,data:=.seq items n,slots:=sl}/\R (.ok (.ret (Value.ref l))) s):=
 .of_wp λprog w A R s h=>by
  obtain⟨hp,g,d,tk,os⟩:=s;obtain⟨hl,h⟩:=h;wp_walk;exact⟨_,rfl,h⟩
theorem HY(l:ia)(items:Array Da)(n:Nat)(dd:Option ia)(sl:Array (Option Da))(k:Int)(u:Tok)(h0:(decide (k< -2^63)||decide (k>=2^63))=false)(h1:(items.isEmpty||k==1)=false)(h2:(decide (k<=0)||items.isEmpty)=false)(h3:¬ (items.size*k>(2^63-1) / 8))(h4:nr (items.size*k)=false)(h5:((qb k.toNat items).foldl (· ++ ·) #[]).size<=sizeLine):
  Meets (nk.«tuple.__mul__» ⟨[.ref l,.int k u],[]⟩) (λ_ R s=>s.heap.get? l=some {cls:=.type "tuple",dict:=dd,data:=.seq items n,slots:=sl}/\R (.ok (.ret (Value.ref s.heap.objs.size))) {s with heap:=s.heap.push {cls:=.type "tuple",data:=.seq ((qb k.toNat items).foldl (· ++ ·) #[])}}):=
 .of_wp λprog w A R s h=>by
  obtain⟨hp,g,d,tk,os⟩:=s;obtain⟨hl,h⟩:=h;wp_walk;refine wpAny_ite_false (by rw[h0];rfl) ?_;wp_walk;refine wpAny_ite_false (decide_eq_false h3) ?_;wp_walk;exact⟨_,rfl,h⟩
open PySem.Spec PyProof.Rows L2 SeqAt
variable{X:Cx}{xw:XW}{a b:nc}{fa fb:Ha->Res D}{pos:bh}{K:td}{W:WS}{H:Hp}{ds:List D}{k:Nat}
section
variable {p:bh}
theorem QW:OpR X (yj .Mult) (λx y H Q=>∃ l k xs,x=.ref l/\y=.int k/\SqT X.K H l xs/\xs≠ []/\1<=k/\k<=1000/\xs.length<=1000/\(k=1->Q (.ref l) H)/\(k≠1->∀ p,H p=none->Q (.ref p) (Lb H p (.tup (qb k.toNat xs).flatten)))):=by
 intro pins s σ H x y v u Q I rx ry h;obtain⟨l,k,xs,rfl,rfl,sq,hne,h1,h2,hl,q1,q2⟩:=h;cases rx;obtain⟨t,rfl⟩:=ry;obtain⟨its,r,⟨⟨cls,dd,data,sl⟩,ho,hc,n,hd⟩,hz⟩:=I.tuple sq;simp only at hc hd;subst hc hd;have hlen:=r.length;have hi:its≠ []:=λe=>hne (by rw[e]at hlen;exact zf hlen)
 have he:its.toArray.isEmpty=false:=by cases its with
  |nil=>exact absurd rfl hi
  |cons=>simp
 have hsz:(its.toArray.size:Int)*k<=1000000:=by
  rw[qc,<-hlen];have h3:(xs.length:Int)*k<=1000*1000:=Int.mul_le_mul (by omega) h2 (by omega) (by decide);omega
 have hsz':(its.length:Int)*k<=1000000:=by simpa using hsz
 refine wpAny_binaryOp_repeat_ref (T:="tuple") (U:="int") (by decide) ⟨_,ho,rfl⟩ (λs'=>typeIs_int s' k t) GY F.fills_int_mul F.slot_int_rmul L6 F.slot_int_index.lookup
  (cj F.slot_int_rmul (typeIs_int s k t) F.entry_int_rmul (F.args_int_rmul_2 _ _) (Ma0 k t l its.toArray n dd sl) ⟨ho,rfl,⟨_,ho,rfl⟩,?_⟩)
 by_cases hk:k=1
 .subst hk;exact cj F.slot_tuple_mul ⟨_,ho,rfl⟩ F.entry_tuple_mul (F.args_tuple_mul_2 _ _) (K6 l its.toArray n dd sl t) ⟨ho,⟨.ref l,H,I,rfl,q1 rfl⟩⟩
 .have hfl:(qb k.toNat its.toArray).foldl (λx1 x2=>x1++x2) #[]=(qb k.toNat its).flatten.toArray:=by
   have:=foldl_rep its k.toNat [];rw[Re]at this
   exact this
  have hfz:(qb k.toNat its).flatten.length<=sizeLine:=by
   rw[SH,qe];have h3:its.length*k.toNat<=1000*1000:=Nat.mul_le_mul (by omega) (by omega);rw[Nat.mul_comm];omega
  refine cj F.slot_tuple_mul ⟨_,ho,rfl⟩ F.entry_tuple_mul (F.args_tuple_mul_2 _ _) (HY l its.toArray n dd sl k t ?_ ?_ ?_ ?_ ?_ ?_) ⟨ho,?_⟩
  .simp only[Bool.or_eq_false_iff,decide_eq_false_iff_not];omega
  .rw[he];simpa using hk
  .rw[he];simp;omega
  .omega
  .unfold nr;have:((sizeLine:Nat):Int)=16777216:=by rw[qe];rfl
   rw[this];simp;omega
  .rw[hfl,qc];exact hfz
  .rw[hfl];refine⟨.ref s.heap.objs.size,_,I.laid (a:=s.heap.objs.size) (o:=.tup (qb k.toNat xs).flatten) (t':=s.toks) (λ_ _ e=>ya _ e) (Uf _) ⟨?_,_,r.rep k.toNat,IsTup.new _ _⟩,rfl,q2 hk _ I.fresh⟩;rw[SH,qe];have h3:xs.length*k.toNat<=1000*1000:=Nat.mul_le_mul (by omega) (by omega);rw[Nat.mul_comm];omega
def Mu:D->D->Res D
 | .int i,.int j=>Y8 (.int i) (.int j)
 | .tup xs,.int k=>@ite (Res D) (xs≠ []/\1<=k/\k<=1000/\xs.length<=1000) (uc _) (.ok (.tup (qb k.toNat xs).flatten)) .stuck
 |_,_=>.stuck
theorem Fj(i j:Int):Mu (.int i) (.int j)=@ite (Res D) ((-18446744073709551616<i/\i<18446744073709551616)\/(-18446744073709551616<j/\j<18446744073709551616)) (uc _) (.ok (.int (i*j))) .stuck:=rfl
theorem HasL.rep{xs:List V}(h:HasL K W H ds xs):∀ k:Nat,HasL K W H (qb k ds).flatten (qb k xs).flatten
 |0=>by simp[HasL]
 |k+1=>by
  rw[ak,ko,ak,ko];exact h.append (HasL.rep h k)
theorem FA(ha:XP X xw a fa)(hb:XP X xw b fb):XE X xw (.BinOp a .Mult b pos) (b2 Mu fa fb):=⟨by
 refine Wq (J4.or QW) (λW H d e v u Q w hv hu q=>?_) ha.h hb.h;unfold Mu at q;split at q
 .unfold Y8 at q;dsimp only at q;split at q
  .rename_i hj;exact .inl ⟨_,_,hv.int,hu.int,hj,q.int⟩
  .exact q.elim
 .split at q
  .rename_i xs k hj;obtain⟨l,ys,e,sq,r⟩:=hv.tup;refine .inr ⟨l,k,ys,e,hu.int,sq,?_,hj.2.1,hj.2.2.1,by rw[<-r.length];exact hj.2.2.2,λhk=>?_,λ_ p hp=>q.newT w hp (r.rep _)⟩
   .intro z;subst z;exact hj.1 (zf (by simpa using r.length))
   .subst hk;refine q _ H (Same.refl _) ?_;rw[Has];exact⟨l,ys,rfl,sq,by simpa using r⟩
  .exact q.elim
 .exact q.elim⟩
def Xh:List D->Option (List Int)
 | []=>some []
 | .int i::r=>(Xh r).map (i:: ·)
 |_=>none
theorem Bx:∀ {ds:List D} {ns:List Int},Xh ds=some ns->ds=ns.map D.int
 | [],ns,h=>by rw[Xh]at h;cases h;rfl
 | .int i::r,ns,h=>by
  rw[Xh]at h
  obtain⟨ms,h1,rfl⟩:=oj.mp h;rw[db,Bx h1]
 | .non::_,_,h=>by simp[Xh]at h
 | .bl _::_,_,h=>by simp[Xh]at h
 | .str _::_,_,h=>by simp[Xh]at h
 | .tup _::_,_,h=>by simp[Xh]at h
 | .lst _::_,_,h=>by simp[Xh]at h
 | .dct _ _::_,_,h=>by simp[Xh]at h
 | .exc _ _::_,_,h=>by simp[Xh]at h
 | .obj _ _ _::_,_,h=>by simp[Xh]at h
def GS(ns:List Int):ua:=(PyData.tuple (ns.map PyData.int)).shown
theorem readsAll_ints{h:pd}:∀ {us:List Da} {ns:List Int},et us ns->ReadsAll h us (ns.map PyData.int) []
 |_,_,.nil=>.nil
 |_,_,.cons n t r=>.cons (.int n t) (readsAll_ints r)
theorem LJ(hr:Room k X.A):CallR X (.type "str") (λxs H Q=>∃ a ns,xs= [.ref a]/\SqT X.K H a (ns.map V.int)/\(PyData.tuple (ns.map PyData.int)).showable=true/\(GS ns).length<=sizeLine/\Q (.str (GS ns)) H):=by
 intro pins s σ H xs us Q I r h;obtain⟨a,ns,rfl,sq,hs,hz,q⟩:=h;obtain⟨u,rfl,rx⟩:=vals1 r;cases (show u=Value.ref a from rx);obtain⟨its,rv,⟨o,ho,hc,n,hd⟩,_⟩:=I.tuple sq;have hI:et its ns:=intsAre_of rv;have rd:Reads s.heap (.ref a) (.tuple (ns.map PyData.int)) []:=.tuple ho hc hd (by simpa using readsAll_ints hI)
 have hdict:∀ ms:List Int,PyData.hasDictAll (ms.map PyData.int)=false:=λms=>by
  induction ms with
  |nil=>rfl
  |cons m ms ih=>rw[db,PyData.hasDictAll,ih];rfl
 have hdep:∀ ms:List Int,sv (ms.map PyData.int)<=1:=λms=>by
  induction ms with
  |nil=>simp[sv]
  |cons m ms ih=>rw[db,sv];simp[PyData.depth];omega
 refine str_of_reads rd hs (λz=>by rw[PyData.hasDict,hdict]at z;cases z) hr.gd ?_ (λ_ _ e=>e) (λh' u tk hk=>⟨.str (GS ns),H,I.kept (t':=tk) hk,⟨u,rfl⟩,q⟩) hz;have:=hr.units;have:=hdep ns;rw[PyData.depth];omega
def RL:D->Res D
 | .int i=>@ite (Res D) (i.natAbs.log2<1920) (uc _) (.ok (.str (toString i))) .stuck
 | .tup ds=>match Xh ds with
  |some ns=>@ite (Res D) ((PyData.tuple (ns.map PyData.int)).showable=true/\(GS ns).length<=sizeLine) (uc _) (.ok (.str (GS ns))) .stuck
  |none=>.stuck
 |_=>.stuck
theorem QY(hr:Room k X.A)(hm:X.mg "str"=none)(ha:XP X xw a fa)(hg:Gl X "str":=by rfl)(he:Fa [a] X.env=(false,eval a X.env)::Fa [] X.env:=by rfl)(hpl:(yc pos (Fa [] X.env)).any (·.1)=false:=by rfl):
  XE X xw (.Call (.Name "str" p) [a] [] pos) (b1 RL fa):=⟨
 En (Iy.or (LJ hr)) (λW H d v Q w hv q=>by
  unfold RL at q;split at q
  .split at q
   .rename_i i hi;exact .inl ⟨i,by rw[hv.int],hi,q.str⟩
   .exact q.elim
  .split at q
   .rename_i ns hn;split at q
    .rename_i hz;obtain⟨a,xs,e,sq,r⟩:=hv.tup;rw[Bx hn]at r
     have ex:xs=ns.map V.int:=by
      clear sq q hz hn
      induction ns generalizing xs with
      |nil=>rw[tf,HasL]at r;exact r
      |cons n ns ih=>
       rw[db,HasL]at r
       obtain⟨x,r',rfl,h1,h2⟩:=r;rw[Has]at h1
       rw[h1,ih _ h2];rfl
     rw[ex]at sq
     exact .inr ⟨a,ns,by rw[e],sq,hz.1,hz.2,q.str⟩
    .exact q.elim
   .exact q.elim
  .exact q.elim) hm (by decide +kernel) ha.h hg (by decide) (by decide) he hpl⟩
end
variable{W₀:WS}{H₀ H':Hp}{σ:L2.St}{δ:Ha}
theorem StHas.freeze{i:Nat}{a:ia}(h:StHas K W₀ H₀ W H σ δ)(hi:δ[i]? =some (some (.o ds)))(hs:σ[i]? =some (some (.ref a))):
  StHas K W₀ H₀ (λb=>W b/\b≠a) H σ (δ.set i (some (.d (.lst ds))))/\Has K (λb=>W b/\b≠a) H (.lst ds) (.ref a):=by
 obtain⟨v,h1,b,xs,e',hW,h0,h3,h4⟩:=h.at' i _ hi;rw[hs]at h1
 cases h1;cases e'
 have hd:Has K (λb=>W b/\b≠a) H (.lst ds) (.ref a):=by
  rw[Has];exact⟨a,xs,rfl,.inl ⟨h3,λz=>z.2 rfl⟩,HasL.keep (λ_ _ e _=>e) h.fr.wl (λb z=>.inl z.1) h4⟩
 exact⟨h.freezeG (owo ds) hi hs hd,hd⟩
variable{p2:bh}{tg c:nc}
section
variable {p:bh}{fs:Ha->Res (List D)}
def OG(op:D->D->Res (List D))(f g:Ha->Res D):Ha->Res (List D):=λδ=>(f δ).bind λx=>(g δ).bind λy=>op x y
def Vt:D->D->Res (List D)
 | .lst xs,.lst ys=>@ite (Res (List D)) (xs.length+ys.length<=sizeLine) (uc _) (.ok (xs++ys)) .stuck
 |_,_=>.stuck
theorem LW:OpR X (yj .Add) (λx y H Q=>∃ l b xs zs,x=.ref l/\y=.ref b/\SqL X.K H l xs/\SqL X.K H b zs/\xs.length+zs.length<=sizeLine/\∀ p,H p=none->Q (.ref p) (Lb H p (.lst (xs++zs)))):=by
 intro pins s σ H x y v u Q I rx ry h;obtain⟨l,b,xs,zs,rfl,rfl,hH,hB,hz,q⟩:=h;cases rx;cases ry;obtain⟨its,r,⟨⟨cls,dd,data,sl⟩,n,e,hc,hd,hs⟩,hz1⟩:=I.list hH;obtain⟨its2,r2,⟨⟨cls2,dd2,data2,sl2⟩,n2,e2,hc2,hd2,hs2⟩,hz2⟩:=I.list hB;simp only at hc hd hs hc2 hd2 hs2;subst hc hd hs hc2 hd2 hs2;have hl:=r.length;have hl2:=r2.length;refine concat_meets ⟨_,e,rfl⟩ ⟨_,e2,rfl⟩ noFill_list_add seq_list_add PySem.F.slot_list_add PySem.F.entry_list_add (PySem.F.args_list_add_2 _ _) (list_addW l b its.toArray its2.toArray n n2 none none sl sl2 (by rw[qc,qc];omega)) ⟨e,e2,?_⟩;have ea:its.toArray++its2.toArray=(its++its2).toArray:=by simp
 rw[ea];exact⟨.ref _,_,I.lnew (t':=s.toks) (r.append r2) (by rw[md];omega),rfl,q _ I.fresh⟩
theorem ZL{op:D->D->Res (List D)}{Q:VK}{R:V->V->Hp->Prop}(st:StHas X.K W₀ H₀ W H σ δ)(q:RF X.K xw W H ((fa δ).bind λx=>(fb δ).bind λy=>op x y) Q)(h:∀ H2 d e v u,Same H H2->WL W H2->HasT X.K W H2 d v->HasT X.K W H2 e u->RF X.K xw W H2 (op d e) Q->R v u H2):
  MI X.K xw fa σ H λx H1=>MI X.K xw fb σ H1 λy H2=>R x y H2:=by
 refine⟨W₀,H₀,W,δ,st,?_⟩;cases h1:fa δ with
 |stuck=>rw[h1]at q;exact q
 |ex c fs=>rw[h1]at q;exact q
 |ok d=>
  rw[h1]at q
  intro v H1 k1 hv;refine⟨W₀,H₀,W,δ,st.same k1,?_⟩;have q':RF X.K xw W H ((fb δ).bind λy=>op d y) Q:=q;cases h2:fb δ with
  |stuck=>rw[h2]at q';exact q'
  |ex c fs=>rw[h2]at q';exact λH2 k2=>q' H2 (k1.trans k2)
  |ok e=>
   rw[h2]at q'
   intro u H2 k2 hu;have q2:RF X.K xw W H (op d e) Q:=q';exact h H2 d e v u (k1.trans k2) (st.fr.wl.same (k1.trans k2)) (hv.same k2 (st.fr.wl.same k1)) hu (RF.same q2 (k1.trans k2))
theorem BH(ha:XP X xw a fa)(hb:XP X xw b fb):XF X xw (.BinOp a .Add b pos) (OG Vt fa fb):=
 ⟨PE.weak (HZ LW ha.h hb.h) λσ H Q ⟨W₀,H₀,W,δ,st,q⟩=>ZL st q λH2 d e v u k w hv hu q2=>by
  unfold Vt at q2;split at q2
  .split at q2
   .rename_i hz;obtain⟨a1,xs,e1,s1,r1⟩:=hv.lst;obtain⟨a2,ys,e2,s2,r2⟩:=hu.lst;exact⟨a1,a2,xs,ys,e1,e2,s1,s2,by rw[<-r1.length,<-r2.length];exact hz,λp hp=>q2 p _ H2 (Same.refl _) hp (r1.append r2)⟩
   .exact q2.elim
  .exact q2.elim⟩
end
def Qf:D->Bool
 | .non=>true
 | .bl _=>true
 | .int _=>true
 | .str _=>true
 |_=>false
variable{d:D}{v:V}
theorem Gm(h:Has K W H d v)(f:Qf d=true):Ak v=true:=by
 cases d with
 |non=>rw[Has]at h;subst h;rfl
 |bl b=>rw[Has]at h;subst h;rfl
 |int i=>rw[Has]at h;subst h;rfl
 |str x=>rw[Has]at h;subst h;rfl
 |_=>cases f
theorem TN{e:D}{u:V}(h:Has K W H d v)(g:Has K W H e u)(f:Qf d=true)(f2:Qf e=true):BB v u=Pj d e:=by
 cases d with
 |non=>rw[Has]at h;subst h;cases e<;>first|exact absurd (show false=true from f2) xa|(rw[Has]at g;subst g;simp[BB,Pj])
 |bl b=>rw[Has]at h;subst h;cases e<;>first|exact absurd (show false=true from f2) xa|(rw[Has]at g;subst g;simp[BB,Pj])
 |int i=>rw[Has]at h;subst h;cases e<;>first|exact absurd (show false=true from f2) xa|(rw[Has]at g;subst g;simp[BB,Pj])
 |str x=>rw[Has]at h;subst h;cases e<;>first|exact absurd (show false=true from f2) xa|(rw[Has]at g;subst g;simp[BB,Pj])
 |_=>cases f
theorem IE{d:D}{v:V}(h:Has K W H d v)(f:Qf d=true):∀ {ds:List D} {xs:List V},HasL K W H ds xs->ds.all Qf=true->xs.all Ak=true/\inV v xs=ds.any (λy=>Pj y d)
 | [],_,r,_=>by rw[HasL]at r;subst r;exact⟨rfl,rfl⟩
 |e::ds,_,r,fs=>by
  rw[HasL]at r
  obtain⟨x,q,rfl,hx,hq⟩:=r;rw[dn,qf]at fs
  obtain⟨h1,h2⟩:=IE h f hq fs.2;refine⟨by rw[dn,Gm hx fs.1,h1];rfl,?_⟩;show(BB x v||inV v q)=(Pj e d||ds.any λy=>Pj y d)
  rw[TN hx h fs.1 f,h2]
def TF(i j:ua):Bool:= !(yn j i 0 j.length 1).isEmpty
def inB(d:D)(ds:List D):Bool:=ds.any λy=>Pj y d
def inR:D->D->Res D
 | .str i,.str j=>.ok (.bl (TF i j))
 |d,.tup ds=>if(Qf d&&ds.all Qf)=true then .ok (.bl (inB d ds)) else .stuck
 |d,.lst ds=>if(Qf d&&ds.all Qf)=true then .ok (.bl (inB d ds)) else .stuck
 |_,_=>.stuck
variable{P:ic}{w:yd}
section
variable {p:bh}{e:nc}{f:Ha->Res D}{fs:Ha->Res (List D)}
theorem EH(h:HasT K W H d v)(f:Qf d=true):Has K W H d v:=by
 rcases h with h|⟨ds,_,_,rfl,_⟩
 .exact h
 .cases f
theorem IQ:N7 X xw (λx y H Q=>(∃ i j,x=.str i/\y=.str j/\Q (.bl (!(yn j i 0 j.length 1).isEmpty)) H)\/rIn X.K false x y H Q) inR:=by
 intro W H d e v u Q w hv hu q;unfold inR at q;split at q
 .exact .inl ⟨_,_,hv.str,hu.str,q.bl⟩
 .split at q
  .rename_i hf;rw[qf]at hf
   obtain⟨a1,xs,e1,sq,r⟩:=hu.tup;obtain⟨h1,h2⟩:=IE (EH hv hf.1) hf.1 r hf.2;exact .inr ⟨a1,xs,e1,.inr sq,Gm (EH hv hf.1) hf.1,h1,by rw[if_neg xa,h2];exact q.bl⟩
  .exact q.elim
 .split at q
  .rename_i hf;rw[qf]at hf
   obtain⟨a1,xs,e1,sq,r⟩:=hu.lst;obtain⟨h1,h2⟩:=IE (EH hv hf.1) hf.1 r hf.2;exact .inr ⟨a1,xs,e1,.inl sq,Gm (EH hv hf.1) hf.1,h1,by rw[if_neg xa,h2];exact q.bl⟩
  .exact q.elim
 .exact q.elim
theorem Td0(ha:XP X xw a fa)(hb:XP X xw b fb)(hm:gi .In b=false:=by rfl):XE X xw (.Compare a [.In] [b] pos) (b2 inR fa fb):=
 ⟨PE.weak (XH (Mx.or Lx) ha.h hb.h hm) λσ H Q ⟨W₀,H₀,W,δ,st,q⟩=>Wj st q λH2 d e v u k w hv hu _ _ q2=>IQ W H2 d e v u Q w hv hu q2⟩
theorem Sa0(ha:XP X xw a fa)(hb:XP X xw b fb)(hm:gi .In b=false:=by rfl):XT X xw (.Compare a [.In] [b] pos) (tR (b2 inR fa fb)):=
 ⟨DE.t_of (f:=b2 inR fa fb) (PT.weak (Mz (Mx.or Lx) ha.h hb.h hm) λσ H Q ⟨W₀,H₀,W,δ,st,q⟩=>Wj st q λH2 d e v u k w hv hu _ _ q2=>IQ W H2 d e v u _ w hv hu q2)⟩
def W6(x:ua):It:=⟨λi _=>i<x.cps.size,λi H v H'=>H'=H/\∃ c,x.cps[i]? =some c/\v=.str ⟨#[c]⟩,λi _=>i=x.cps.size⟩
theorem VL{tg:nc}(it:ia)(x:ua)(t:Tok):Turn P w K tg (W6 x) [it] it (λi h=>h.IsStrIter it "str_ascii_iterator" x t i) where
 mem:=by simp
 obj:=λi h st b hb=>by
  have e:b=it:=by simpa using hb
  subst e;obtain⟨o,e,c,d⟩:=st;exact⟨o,e,λv z=>by rw[d]at z;cases z⟩
 keep:=λi h h' st k=>let ⟨o,ho,r⟩:=st;⟨o,k it (by simp) o ho,r⟩
 item:=by
  intro X hP hw hK hc i pins s σ H E I hf st hg;subst hP hw hK;obtain⟨f0,f1,f2,f3,f4,f5⟩:=hf it (by simp);have W:=Walks.strAscii (prog:=X.prog) (w:=X.w) (I.ok.hd hc) it x t;refine W.item i s _ _ hg st λv h' tk hv st' kk=>?_;obtain⟨c,u,hcx,rfl⟩:=hv;have I1:Inv X pins σ H {s with heap:=h',toks:=tk}:=I.turned (λb o hb e=>kk b o (by simpa using hb) e) f0 f1 f3 f4 f5;obtain⟨o,e,cc,d⟩:=id st';exact⟨_,rfl,JB (s:= {s with heap:=h',toks:=tk}) e cc d (by decide) ⟨.str ⟨#[c]⟩,H,I1,⟨u,rfl⟩,⟨rfl,c,hcx,rfl⟩,st',λb hb=>(hf b hb).1⟩⟩
 done:=by
  intro X hP hw hK hc i pins s σ H E I hf st hg;subst hP hw hK;have hi:i=x.cps.size:=hg;subst hi;obtain⟨f0,f1,f2,f3,f4,f5⟩:=hf it (by simp);have W:=Walks.strAscii (prog:=X.prog) (w:=X.w) (I.ok.hd hc) it x t;exact W.done s _ _ st λh' tk eb=>⟨rfl,I.turned (λb o hb e=>eb b o (by simpa using hb) e) f0 f1 f3 f4 f5⟩
 self:=λ_ _ _ _ _ st h=>wpAny_pyIter_striter_ascii st h
theorem YL{tg:nc}(it:ia)(x:ua)(t:Tok):Turn P w K tg (W6 x) [it] it (λi h=>h.IsStrIter it "str_iterator" x t i) where
 mem:=by simp
 obj:=λi h st b hb=>by
  have e:b=it:=by simpa using hb
  subst e;obtain⟨o,e,c,d⟩:=st;exact⟨o,e,λv z=>by rw[d]at z;cases z⟩
 keep:=λi h h' st k=>let ⟨o,ho,r⟩:=st;⟨o,k it (by simp) o ho,r⟩
 item:=by
  intro X hP hw hK hc i pins s σ H E I hf st hg;subst hP hw hK;obtain⟨f0,f1,f2,f3,f4,f5⟩:=hf it (by simp);have W:=Walks.strWide (prog:=X.prog) (w:=X.w) (I.ok.hd hc) it x t;refine W.item i s _ _ hg st λv h' tk hv st' kk=>?_;obtain⟨c,u,hcx,rfl⟩:=hv;have I1:Inv X pins σ H {s with heap:=h',toks:=tk}:=I.turned (λb o hb e=>kk b o (by simpa using hb) e) f0 f1 f3 f4 f5;obtain⟨o,e,cc,d⟩:=id st';exact⟨_,rfl,JB (s:= {s with heap:=h',toks:=tk}) e cc d (by decide) ⟨.str ⟨#[c]⟩,H,I1,⟨u,rfl⟩,⟨rfl,c,hcx,rfl⟩,st',λb hb=>(hf b hb).1⟩⟩
 done:=by
  intro X hP hw hK hc i pins s σ H E I hf st hg;subst hP hw hK;have hi:i=x.cps.size:=hg;subst hi;obtain⟨f0,f1,f2,f3,f4,f5⟩:=hf it (by simp);have W:=Walks.strWide (prog:=X.prog) (w:=X.w) (I.ok.hd hc) it x t;exact W.done s _ _ st λh' tk eb=>⟨rfl,I.turned (λb o hb e=>eb b o (by simpa using hb) e) f0 f1 f3 f4 f5⟩
 self:=λ_ _ _ _ _ st h=>wpAny_pyIter_striter_wide st h
def Dc0(tl:TE):TI:=λσ H R=>tl σ H λv H1=>∃ x,v=.str x/\R (W6 x) H1
theorem D5{l:nc}{tl:TE}(hl:PE X l tl):PI X tg l (Dc0 tl):=by
 intro pins s σ H R I h;refine thn (hl pins s σ H _ I h) λv s1 ⟨x,H1,I1,r1,q1⟩=>?_;obtain⟨y,e,q⟩:=q1;subst e;obtain⟨t,rfl⟩:=r1
 have key:∀ (T:String) (o:mh),(s1.heap.push o).IsStrIter s1.heap.objs.size T y t 0->Turn X.prog X.w X.K tg (W6 y) [s1.heap.objs.size] s1.heap.objs.size (λi h=>h.IsStrIter s1.heap.objs.size T y t i)->PIE X pins σ tg R (.ref s1.heap.objs.size) {s1 with heap:=s1.heap.push o}:=λT o h1 h2=>by
  refine⟨s1.heap.objs.size,[s1.heap.objs.size],_,_,H1,rfl,I1.kept (t':=s1.toks) λb o e=>ya _ e,h2,h1,λb hb=>?_,q⟩;have e:b=s1.heap.objs.size:=by simpa using hb
  subst e;exact I1.fpOk (Uf _) (I1.hok.fresh (Uf _))
 cases ha:y.cps.all (· <128)
 .exact wpAny_pyIter_wide ha (key _ _ ⟨_,ue _ rfl,rfl,rfl⟩ (YL _ _ _))
 .exact wpAny_pyIter_ascii ha (key _ _ ⟨_,ue _ rfl,rfl,rfl⟩ (VL _ _ _))
def Sf(x:ua):List D:=x.cps.toList.map λc=>D.str ⟨#[c]⟩
def HI:D->Res (List D)
 | .str x=>.ok (Sf x)
 |_=>.stuck
theorem A3(x:ua):JM K W H (W6 x) (Sf x):=by
 intro W' H2 k w2;unfold Sf;refine⟨λi d e=>?_,by simp[W6]⟩;rw[wg]at e
 obtain⟨c,hc,rfl⟩:=oj.mp e;have hc':x.cps[i]? =some c:=by simpa using hc
 have hi:i<x.cps.size:=by
  refine bp λz=>?_;rw[Array.getElem?_eq_none z]at hc';cases hc'
 refine⟨hi,λv H3 z=>?_⟩;obtain⟨rfl,c',e',rfl⟩:=z;rw[hc']at e'
 cases e';exact⟨Same.refl _,by rw[Has]⟩
theorem V8(h:XE X xw e f):XI X xw tg e (b1 HI f):=⟨PI.weak (D5 h.h) λσ H R ⟨W₀,H₀,W,δ,st,q⟩=>by
 refine⟨W₀,H₀,W,δ,st,?_⟩;unfold b1 at q;cases h1:f δ with
 |stuck=>rw[h1]at q;exact q
 |ex c fs=>rw[h1]at q;exact q
 |ok d=>
  rw[h1]at q
  intro v H1 k1 hv;cases d with
  |str x=>
   rw[Has]at hv
   exact⟨x,hv,q _ H1 k1 (A3 x)⟩
  |_=>exact q.elim⟩
def Uc0:V->Option Int->Option Int->Hp->VK->Prop:=λx lo hi H Q=>∃ z,x=.str z/\z.length<=sizeLine/\Q (.str (we z lo hi)) H
theorem part_of{v:Da}{o:Option Int}(h:IsPart v o):∃ l:Option (Int×Tok),v=partValue l/\l.map (·.1)=o:=by
 cases h with
 |none=>exact⟨none,rfl,rfl⟩
 |int i t=>exact⟨some (i,t),rfl,rfl⟩
theorem B6:SlR X Uc0:=by
 intro pins s σ H x v vl vu lo hi sl Q I rx hs pl pu h;obtain⟨z,rfl,hz,q⟩:=h;obtain⟨t,rfl⟩:=rx;obtain⟨l,rfl,rfl⟩:=part_of pl;obtain⟨u,rfl,rfl⟩:=part_of pu;refine⟨"str",_,F.slot_str_getitem.lookup,dm _ _ _,wpAny_getItem_str_slice (l:=l) (u:=u) (st:=none) hs rfl ?_⟩;exact post_val_or_str ⟨bf (PySem.Txt.slice_le z _ _) hz,λt' k=>⟨.str _,H,I.tok _,⟨t',rfl⟩,q⟩⟩
def NL(d:D)(lo hi:Option Int):Res D:=match d with
 | .str z=>@ite (Res D) (z.length<=sizeLine) (uc _) (.ok (.str (we z lo hi))) .stuck
 |_=>.stuck
variable {lo hi:Option nc}{fl fh:Ha->Res (Option Int)}
theorem US(ha:XP X xw a fa)(hl:XO X xw lo fl)(hh:XO X xw hi fh):XE X xw (.Subscript a (.Slice lo hi none p2) pos) (b3 NL fa fl fh):=
 ⟨PE.weak (IC B6 ha.h hl.h hh.h) λσ H Q ⟨W₀,H₀,W,δ,st,q⟩=>JI (G:=λH r=>RE X.K xw W H r Q) st (λ_ _ _ q=>q) (λ_ q=>q) (λ_ _ _ k q=>RE.same q k) q λH2 d v l u k w hv q2=>by
  unfold NL at q2;split at q2
  .split at q2
   .rename_i hz;exact⟨_,hv.str,hz,q2.str⟩
   .exact q2.elim
  .exact q2.elim⟩
theorem Oq(xs:List ua):HasL K W H (xs.map D.str) (xs.map V.str):=by
 induction xs with
 |nil=>exact HasL.nil
 |cons x xs ih=>exact HasL.cons (by rw[Has]) ih
structure GlobT(K:td)(mg:ua->Option Da)(x:ua)(xs:List ua):Prop where
 h:∃ (ad:ia) (o:mh) (its:Array Da) (n:Nat),mg x=some (.ref ad)/\K.lookup ad=some o/\o.cls=.type "tuple"/\o.data=.seq its n/\its.size<=sizeLine/\Vals (xs.map V.str) its.toList
theorem OY{x:ua}{xs:List ua}(hm:GlobT X.K X.mg x xs)(hg:Gl X x:=by rfl)(hdb:(x==("__debug__":ua))=false:=by decide):XE X xw (.Name x pos) (kD (.tup (xs.map D.str))):=by
 obtain⟨ad,o,its,n,h1,h2,h3,h4,h5,h6⟩:=hm.h;refine⟨Py (v:=.ref ad) h1 rfl (λW H=>?_) hg hdb⟩;rw[Has];exact⟨ad,xs.map V.str,rfl,.inr ⟨o,its,n,h2,h3,h4,h5,h6⟩,Oq xs⟩
theorem Ot{k:Jd}{u:Da}(r:RelV (kV k) u):(Od P w).is k u=true:=by
 cases k with
 |inl i=>obtain⟨t,rfl⟩:=r;exact YB P w i t
 |inr x=>obtain⟨t,rfl⟩:=r;exact Yr P w x t
def TV:D->Option Jd
 | .str x=>some (.inr x)
 | .int i=>some (.inl i)
 |_=>none
theorem CO{W':WS}(h:Has K W H d v)(f:Qf d=true):Has K W' H' d v:=by
 cases d with
 |non=>rw[Has]at h ⊢;exact h
 |bl b=>rw[Has]at h ⊢;exact h
 |int i=>rw[Has]at h ⊢;exact h
 |str x=>rw[Has]at h ⊢;exact h
 |_=>cases f
end
end L3
namespace L3
open PySem PySem.Spec PyProof.Rows L2 SeqAt
open Builtin Builtin.Str
theorem Fk:∀ (tk:Nat) (xs:List ua),Vals (xs.map V.str) (strsFrom tk xs)
 |_,[]=>.nil
 |tk,x::r=>.cons ⟨tk,rfl⟩ (Fk (tk+1) r)
theorem split_len(x y:ua)(h:(vm x (ik x y 0 x.length (x.length+1)) y.length).length<=1000):(yb x y).length<=1000:=by
 unfold yb;split
 .simp
 .split
  .simp
  .exact h
section
variable {X:Cx}{xw:XW}{pos p p2 apos cpos:bh}{tg a b c e o:nc}{es:List nc}{f fa fb:Ha->Res D}{fs:Ha->Res (List D)}
def O5:V->List V->Hp->VK->Prop:=λx vs H Q=>∃ z y,x=.str z/\vs= [.str y]/\(y.length==0)=false/\z.length<=1000/\(vm z (ik z y 0 z.length (z.length+1)) y.length).length<=1000/\
 ∀ p,H p=none->Q (.ref p) (Lb H p (.lst ((yb z y).map V.str)))
theorem OP:PZ X "str.split" O5:=by
 intro pins s σ H x vs v us Q I rx rv h;obtain⟨z,y,rfl,rfl,hy,hz,hp,q⟩:=h;obtain⟨t,rfl⟩:=rx;obtain⟨u',rfl,ru⟩:=rv.one;obtain⟨u,rfl⟩:=ru;have hz':z.length<=sizeLine:=bf hz Km;have hp':=bf hp Km;have hs:=bf (split_len z y hp) Km
 have one:yb z y= [z]->∀ tk,EP X pins σ Q (.ref s.heap.objs.size) {s with heap:=s.heap.push {cls:=.type "list",data:=.seq [Value.str z t].toArray},toks:=tk}:=λe tk=>by
  rw[e]at q
  exact⟨.ref _,_,I.lnew (t':=tk) (ys:= [.str z]) (its:= [.str z t]) (.cons ⟨t,rfl⟩ .nil) (by rw[qe,aj];decide),rfl,q _ I.fresh⟩
 cases h1:(decide (z.length<y.length)||decide (strKind z<strKind y))
 .cases hf:(ik z y 0 z.length (z.length+1)).isEmpty
  .refine cj F.slot_str_split (dm _ _ _) F.entry_str_split (F.args_str_split_2 _ _) (meets_str_split_sep z y t u h1 hy hf hz' hp') ?_;have e:yb z y=vm z (ik z y 0 z.length (z.length+1)) y.length:=(if_neg (ne_true_of_eq_false h1)).trans (if_neg (ne_true_of_eq_false hf));rw[e]at q hs
   exact⟨.ref _,_,I.lnew (Fk s.toks _) (by rw[Db];exact hs),rfl,q _ I.fresh⟩
  .exact cj F.slot_str_split (dm _ _ _) F.entry_str_split (F.args_str_split_2 _ _) (zr z y t u h1 hy hf) (one ((if_neg (ne_true_of_eq_false h1)).trans (if_pos hf)) s.toks)
 .exact cj F.slot_str_split (dm _ _ _) F.entry_str_split (F.args_str_split_2 _ _) (lq z y t u h1) (one (if_pos h1) s.toks)
def bM{α:Type}(op:ua->List D->Res α)(f:Ha->Res D)(g:Ha->Res (List D)):Ha->Res α:=λδ=>(f δ).bind λx=>match x with
 | .str z=>(g δ).bind (op z)
 |_=>.stuck
def Ig(z:ua):List D->Res (List D)
 | [.str y]=>@ite (Res (List D)) ((y.length==0)=false/\z.length<=1000/\(vm z (ik z y 0 z.length (z.length+1)) y.length).length<=1000) (uc _) (.ok ((yb z y).map D.str)) .stuck
 |_=>.stuck
theorem AV(ho:XE X xw o f)(ha:XA X xw [e] fs)(hbase:dg o "split" X.env (eval o X.env)=eval o X.env:=by rfl)(hfew:((yc cpos (Fa [e] X.env)).all (λx=> !x.1)&&(bj cpos (ig [] X.env)).all (λx=>x.1.isSome)
   &&decide (([e]:List nc).length+([]:List li).length+(if([]:List li).isEmpty then 0 else 1)<30))=true:=by rfl)(hline:(apos.endLine==cpos.line)=true:=by rfl)(hs:Fa [e] X.env=(false,eval e X.env)::Fa [] X.env:=by rfl)(hplain:(yc cpos (Fa [] X.env)).any (·.1)=false:=by rfl):
  XF X xw (.Call (.Attribute o "split" apos) [e] [] cpos) (bM Ig f fs):=
 ⟨PE.weak (As (T:="str") F.plainAttrs_str F.slot_str_split F.type_str_split OP ho.h ha.h hbase hfew hline hs hplain) λσ H Q ⟨W₀,H₀,W,δ,st,q⟩=>by
  unfold bM at q;refine⟨W₀,H₀,W,δ,st,?_⟩;cases h1:f δ with
  |stuck=>rw[h1]at q;exact q
  |ex c fs=>rw[h1]at q;exact q
  |ok d=>
   rw[h1]at q
   intro v H1 k1 hv;cases d with
   |str z=>
    rw[Has]at hv
    subst hv;have q':RF X.K xw W H ((fs δ).bind (Ig z)) Q:=q;refine⟨rfl,W₀,H₀,W,δ,st.same k1,?_⟩;cases h2:fs δ with
    |stuck=>rw[h2]at q';exact q'
    |ex c gs=>rw[h2]at q';exact λH2 k2=>q' H2 (k1.trans k2)
    |ok ds=>
     rw[h2]at q'
     intro vs H2 k2 hvs;have q2:RF X.K xw W H (Ig z ds) Q:=q';unfold Ig at q2;split at q2
     .rename_i y;split at q2
      .rename_i hz;rw[HasL]at hvs
       obtain⟨x,r,rfl,hx,hr⟩:=hvs;rw[HasL]at hr
       subst hr;rw[Has]at hx
       subst hx;exact⟨z,y,rfl,rfl,hz.1,hz.2.1,hz.2.2,λp hp=>q2 p _ H2 (k1.trans k2) hp (Oq _)⟩
      .exact q2.elim
     .exact q2.elim
   |_=>exact ud q⟩
theorem Xx:∀ {xs:List ua} {us:List Da},Vals (xs.map V.str) us->∃ l:List (ua×Tok),us=strValues l/\l.map (·.1)=xs
 | [],_,.nil=>⟨[],rfl,rfl⟩
 |x::xs,_,.cons ⟨t,h⟩ r=>by
  obtain⟨l,e1,e2⟩:=Xx r;refine⟨(x,t)::l,?_,by rw[db,e2]⟩;rw[h,e1];rfl
def R9(K:td):V->List V->Hp->VK->Prop:=λx vs H Q=>∃ z p xs,x=.str z/\vs= [.ref p]/\SqL K H p (xs.map V.str)/\JoinOk z xs=true/\Q (.str (zb z xs)) H
theorem BW:PZ X "str.join" (R9 X.K):=by
 intro pins s σ H x vs v us Q I rx rv h;obtain⟨z,p,xs,rfl,rfl,hq,hok,q⟩:=h;obtain⟨t,rfl⟩:=rx;obtain⟨u',rfl,ru⟩:=rv.one;cases ru;obtain⟨its,r,pl,_⟩:=I.list hq;obtain⟨l,e1,e2⟩:=Xx r;subst e1;exact PySem.SC.join pl.isList e2 hok λt' k=>⟨.str _,H,I.tok _,⟨t',rfl⟩,q⟩
def Ul:List D->Option (List ua)
 | []=>some []
 | .str x::ds=>(Ul ds).map (x:: ·)
 |_=>none
theorem Cp{K:td}{W:WS}{H:Hp}:∀ {ds:List D} {xs:List ua} {vs:List V},Ul ds=some xs->HasL K W H ds vs->vs=xs.map V.str
 | [],xs,vs,h,r=>by cases h;rw[HasL]at r;exact r
 |d::ds,xs,vs,h,r=>by
  cases d with
  |str x=>
   obtain⟨ys,h1,rfl⟩:=oj.mp (show(Ul ds).map (x:: ·)=some xs from h);rw[HasL]at r
   obtain⟨v,q,rfl,hv,hq⟩:=r;rw[Has]at hv
   rw[hv,Cp h1 hq];rfl
  |_=>cases h
def Qj(z:ua):List D->Res D
 | [.lst ds]=>match Ul ds with
  |some xs=>if JoinOk z xs=true then .ok (.str (zb z xs)) else .stuck
  |none=>.stuck
 |_=>.stuck
theorem EA(ho:XE X xw o f)(ha:XA X xw [e] fs)(hbase:dg o "join" X.env (eval o X.env)=eval o X.env:=by rfl)(hfew:((yc cpos (Fa [e] X.env)).all (λx=> !x.1)&&(bj cpos (ig [] X.env)).all (λx=>x.1.isSome)
   &&decide (([e]:List nc).length+([]:List li).length+(if([]:List li).isEmpty then 0 else 1)<30))=true:=by rfl)(hline:(apos.endLine==cpos.line)=true:=by rfl)(hs:Fa [e] X.env=(false,eval e X.env)::Fa [] X.env:=by rfl)(hplain:(yc cpos (Fa [] X.env)).any (·.1)=false:=by rfl):
  XE X xw (.Call (.Attribute o "join" apos) [e] [] cpos) (bM Qj f fs):=
 ⟨PE.weak (As (T:="str") F.plainAttrs_str F.slot_str_join F.type_str_join BW ho.h ha.h hbase hfew hline hs hplain) λσ H Q ⟨W₀,H₀,W,δ,st,q⟩=>by
  unfold bM at q;refine⟨W₀,H₀,W,δ,st,?_⟩;cases h1:f δ with
  |stuck=>rw[h1]at q;exact q
  |ex c fs=>rw[h1]at q;exact q
  |ok d=>
   rw[h1]at q
   intro v H1 k1 hv;cases d with
   |str z=>
    rw[Has]at hv
    subst hv;have q':RE X.K xw W H ((fs δ).bind (Qj z)) Q:=q;refine⟨rfl,W₀,H₀,W,δ,st.same k1,?_⟩;cases h2:fs δ with
    |stuck=>rw[h2]at q';exact q'
    |ex c gs=>rw[h2]at q';exact λH2 k2=>q' H2 (k1.trans k2)
    |ok ds=>
     rw[h2]at q'
     intro vs H2 k2 hvs;have q2:RE X.K xw W H2 (Qj z ds) Q:=RE.same (r:=Qj z ds) q' (k1.trans k2);unfold Qj at q2;split at q2
     .rename_i es;split at q2
      .rename_i xs hx;split at q2
       .rename_i hok;rw[HasL]at hvs
        obtain⟨x,r,rfl,hv,hr⟩:=hvs;rw[HasL]at hr
        subst hr;rw[Has]at hv
        obtain⟨p,ys,rfl,sq,r⟩:=hv;have:=Cp hx r;subst this;exact⟨z,p,xs,rfl,rfl,sq.sq,hok,q2.str⟩
       .exact q2.elim
      .exact q2.elim
     .exact q2.elim
   |_=>exact ud q⟩
theorem JJ:CallR X (.type "int") (λxs H Q=>∃ z n,xs= [.str z]/\gk z=some n/\z.length<=640/\Q (.int n) H):=by
 intro pins s σ H xs us Q I r h;obtain⟨z,n,rfl,hn,hl,q⟩:=h;obtain⟨u,rfl,t,rfl⟩:=vals1 r;exact PySem.W.KIN.call_text hn hl ⟨.int n,H,I.tok _,⟨_,rfl⟩,q⟩
def RO:D->Res D
 | .int i=>.ok (.int i)
 | .bl k=>.ok (.int (if k then 1 else 0))
 | .str z=>match gk z with
  |some n=>if z.length<=640 then .ok (.int n) else .stuck
  |none=>.stuck
 |_=>.stuck
theorem P6(hm:X.mg "int"=none)(ha:XP X xw a fa)(hg:Gl X "int":=by rfl)(he:Fa [a] X.env=(false,eval a X.env)::Fa [] X.env:=by rfl)(hpl:(yc pos (Fa [] X.env)).any (·.1)=false:=by rfl):
  XE X xw (.Call (.Name "int" p) [a] [] pos) (b1 RO fa):=
 ⟨En (CallR.or Sw JJ) (λW H d v Q w hv q=>by
  unfold RO at q;split at q
  .exact .inl (.inl ⟨_,by rw[hv.int],q.int⟩)
  .exact .inl (.inr ⟨_,by rw[hv.bl],q.int⟩)
  .split at q
   .rename_i hn;split at q
    .rename_i hl;exact .inr ⟨_,_,by rw[hv.str],hn,hl,q.int⟩
    .exact q.elim
   .exact q.elim
  .exact q.elim) hm (by decide +kernel) ha.h hg (by decide) (by decide) he hpl⟩
end
end L3
namespace L3
open PySem PySem.Spec PyProof.Rows L2 SeqAt
variable{X:Cx}{xw:XW}{pos:bh}{a:nc}{fa:Ha->Res D}
section
variable {p p2 apos cpos:bh}{tg b c e o ie:nc}{es:List nc}{f fi fb:Ha->Res D}{fs:Ha->Res (List D)}
def A6(i:Nat)(δ:Ha)(ds:List D)(d ix:D):Out:=match ix with
 | .int k=>match DZ ds.length k with
  |some j=>.nx (δ.set i (some (.o (ds.set j d))))
  |none=>.stuck
 |_=>.stuck
def X9(i:Nat)(fi:Ha->Res D)(δ:Ha)(d:D):Out:=match δ[i]? with
 |some (some (.o ds))=>Pm (fi δ) (A6 i δ ds d)
 |_=>.stuck
def Cs(i:Nat)(fi f:Ha->Res D):Ha->Out:=λδ=>Pm (f δ) (X9 i fi δ)
theorem Y5(i:Nat){x:ua}{p1:bh}(he:XE X xw e f)(hi:XE X xw ie fi)(hN:X.N[i]? =some x:=by rfl)(hv:Jw X.env.scope x:=by first|exact Or.inl rfl|exact Or.inr (Or.inl rfl)|exact Or.inr (Or.inr rfl))(hd:(x==("__debug__":ua))=false:=by decide)(hcd:(x==("__classdict__":ua))=false:=by decide)(ha:∀ v,wu (.Subscript (.Name x p1) ie p2) X.env v=(do
   let ov <-mn [v] (eval (.Name x p1) X.env);let iv <-mn [v,ov] (eval ie X.env)
   uu p2
   mn [v,ov,iv] (setItem ov iv v)
   release [v,ov,iv] []):=by intro _;rfl)(hs:swapsWithSole [.Subscript (.Name x p1) ie p2] e pos.line X.env=pure false:=by rfl)(hw:swappedStores [.Subscript (.Name x p1) ie p2] e X.env=pure none:=by rfl)(h1:(gh [.Subscript (.Name x p1) ie p2] X.env).map (·.2)= [wu (.Subscript (.Name x p1) ie p2) X.env]:=by rfl):
  XS X xw (.Assign [.Subscript (.Name x p1) ie p2] e pos) (Cs i fi f):=
 ⟨PS.weak (BR he.h (Z4 (Ph hN hv hd hcd) hi.h VR ha) hs hw h1) λDn σ H ⟨W₀,H₀,W,δ,st,q⟩=>by
  unfold Cs at q;refine Wm st q λH2 d v st2 hv q2=>?_;unfold X9 at q2;split at q2
  .rename_i ds h;obtain⟨v0,e1,a,xs,rfl,r2,r3,r4,r5⟩:=st2.at' i _ h;refine⟨_,e1,W₀,H₀,W,δ,st2,?_⟩;cases hf:fi δ with
   |stuck=>rw[hf]at q2;exact q2.elim
   |ex c gs=>rw[hf]at q2;exact λH3 k3=>q2 H3 (st2.fr.ext.trans k3)
   |ok ix=>
    rw[hf]at q2
    have q3:RS X.K xw W₀ H₀ W H2 (A6 i δ ds d ix) Dn:=q2;unfold A6 at q3;split at q3
    .rename_i k;split at q3
     .rename_i j hj;intro vi H3 k3 hvi;rw[Has]at hvi
      subst hvi;have st3:=st2.same k3;obtain⟨v',e1',a',ys,e',r2',r3',r4',r5'⟩:=st3.at' i _ h;rw[e1]at e1'
      cases e1';cases e';refine⟨a,ys,k,j,rfl,rfl,r4',by rw[<-r5'.length];exact hj,?_⟩;refine q3 W _ σ ⟨λb o e n=>?_,λ_ z=>.inl z⟩ ?_
      .rw[Ea (λz=>n (by rw[z];exact r2'))];exact k3 _ _ e
      .exact st3.change h e1 r4' r2' (r5'.set j (hv.same k3 st2.fr.wl))
     .exact q3.elim
    .exact q3.elim
  .exact q2.elim⟩
end
section
variable {p:bh}
end
end L3
namespace HT
open PySem PyProof.Rows
section
open PySem.SeqAt
open PySem.MeetsSeq PySem.MeetsSeq2 PySem.MeetsSeq3
end
section
variable {prog:ic}{w:yd}{A:ye}{E:Da->ka->Prop}{s:ka}
end
end HT
namespace L3
open PySem PySem.Spec PyProof.Rows L2 SeqAt
section
variable {X:Cx}{xw:XW}
end
end L3
namespace L3
open PySem
def Ob0(xs:Array Nat):Prop:=xs.toList.Pairwise (λa b=>a<b)
structure TOk(txt:Bool)(t:yp):Prop where
 led:t.led= !txt
 ok:t.plain=true->Ob0 t.place/\t.dummies= #[]
def ddp(σ:List Int)(k:Int):List Int:=if k∈σ then σ else σ++ [k]
variable{prog:ic}{w:yd}{A:ye}{E:Da->ka->Prop}{s:ka}
namespace F
end F
variable{I:ia}{o:mh}{es:Array (Int×Da)}{ep:Nat}
section
variable {S:ia}{t:yp}
end
namespace F
end F
variable{T:ia}{first:Da}{i:Nat}
section
variable {S:ia}{t:yp}
end
structure SW(prog:ic)(w:yd)(A:ye)(I:ia)(fp:List ia)(ord:List Da)(St:Nat->pd->Prop):Prop where
 W:Walks prog w A I fp [I] ord.length (λi v=>ord[i]? =some v) St
 mem:I∈fp
variable{σ:List Int}
section
variable {S:ia}{t:yp}
end
open Sem (wp)
section
variable {S:ia}
end
def met(ns:List Int):List Int:=ns.foldl ddp []
section
variable {R:iq->ka->Prop}{fp wr:List ia}{G:Array rk->Array rk->Prop}{n:Nat}{P:Nat->Da->Prop}{St:Nat->ka->Prop}
def Itr(prog:ic)(w:yd)(l:ia)(ol:mh)(items:Array Da):Prop:=∀ (A:ye) (s':ka) (Q:Da->ka->Prop) (E:Da->ka->Prop),s'.heap.get? l=some ol->
 (∀ I St h',(∀ A':ye,A'.handled=none->Walks prog w A' I [I,l] [I] items.size (λi v=>items[i]? =some v) St)->St 0 h'->I=s'.heap.objs.size->(∀ b o,s'.heap.get? b=some o->h'.get? b=some o)->Q (.ref I) {s' with heap:=h'})->
 cb (jb prog w) A (pyIter (.ref l)) Q E s'
theorem BP{l:ia}{ol:mh}{items:Array Da}{nl:Nat}(hc:ol.cls=.type "list")(hd:ol.data=.seq items nl):Itr prog w l ol items:=λA s' Q E hl h=>by
 have hL:s'.heap.IsList l items:=⟨ol,hl,hc,nl,hd⟩
 have hne:l≠s'.heap.objs.size:=ag (sd hl);exact il hL (h _ (λi h=>h.IsListIter s'.heap.objs.size l i/\h.IsList l items) _ (λA' hA=>Walks.list hA _ l hne items) ⟨⟨_,ue _ rfl,rfl,rfl⟩,hL.push _⟩ rfl λb o e=>ya _ e)
theorem WR(a:Da){Q₁:Da->ka->Prop}(h:∀ led:Bool,led=(!w.params.followText "set-order")->Q₁ (.ref s.heap.objs.size) {s with heap:=s.heap.push {cls:=.type "set",dict:=none,data:=.set #[] 0 (.fresh 0 0 led)}}):
  kj (jb prog w) A (.call (.builtin "set.__new__") ⟨[.type "set",a],[]⟩) (wants Q₁ E) s:=by
 refine mq ?_;show cb _ A.in1 (gp "set.__new__" ⟨[.type "set",a],[]⟩ >>= λ_=>again (.builtin "set.__new__" ⟨[.type "set",a],[]⟩)) _ _ s;refine ja (wpAny_of_eq (PySem.F.newCall_set_1 a) (kb ⟨plainId_quiet PySem.F.plain_set_new _,pj PySem.F.entry_set_new ?_⟩));rw[zp PySem.F.plain_set_new _];unfold nk.«set.__new__» Builtin.Frozenset.newClass;have hsub:=sub_set_self;obtain⟨hp,g,d,tk,os⟩:=s;dsimp only;wp_walk;refine wpAny_askSetting (kb ?_);dsimp only;simp only[newObj];exact ja (wpAny_alloc (kb (kb (h _ rfl))))
end
open PyProof.Rows
end L3
namespace L3
open PySem PySem.Spec PyProof.Rows L2
abbrev F8(t:Bool)(h:pd)(l:ia):pd:=h.push (itO t l)
variable{X:Cx}{xw:XW}{pos:bh}{a:nc}
section
variable {elts:List nc}{kt:Nat}{pt p:bh}{b:nc}{fs:Ha->Res (List D)}
def Of:Nat->List D->List D
 |_,[]=> []
 |k,x::xs=>.tup [.int k,x]::Of (k+1) xs
theorem Vw:∀ {xs:List D} {k i:Nat} {d:D},(Of k xs)[i]? =some d->∃ x,xs[i]? =some x/\d=.tup [.int ((k+i:Nat):Int),x]
 | [],_,_,_,e=>by simp[Of]at e
 |x::xs,k,0,d,e=>by
  rw[Of]at e
  simp at e;exact⟨x,rfl,by simp[<-e]⟩
 |x::xs,k,i+1,d,e=>by
  rw[Of]at e
  obtain⟨u,h1,h2⟩:=Vw (xs:=xs) (k:=k+1) (i:=i) (by simpa using e);exact⟨u,by simpa using h1,by rw[h2,show k+1+i=k+(i+1) by omega]⟩
theorem Ww:∀ (k:Nat) (xs:List D),(Of k xs).length=xs.length
 |_,[]=>rfl
 |k,x::xs=>by rw[Of,ba,Ww,ba]
end
open SeqAt
theorem vals_ints:∀ {us:List Da} {ns:List Int},et us ns->Vals (ns.map V.int) us
 |_,_,.nil=>.nil
 |_,_,.cons n t r=>.cons ⟨t,rfl⟩ (vals_ints r)
section
variable {p pos2 p2:bh}{fa:Ha->Res D}{pins:List (ia×mh)}{σ:L2.St}{H:Hp}{s:ka}
end
end L3
namespace HT
open PySem PyProof.Rows
section
variable {prog:ic}{w:yd}{A:ye}{E:Da->ka->Prop}{s:ka}
end
end HT
namespace L3
open PySem PySem.Spec PyProof.Rows L2 SeqAt
section
variable {X:Cx}{xw:XW}{a:nc}{lo hi:Option nc}{fa:Ha->Res D}{fl fh:Ha->Res (Option Int)}{pos p2:bh}
def slW(d:D)(lo hi:Option Int):Res D:=match d with
 | .tup ds=>.ok (.tup (cutD ds lo hi))
 | .lst ds=>.ok (.lst (cutD ds lo hi))
 |_=>.stuck
end
theorem GD(ds:List D)(lo hi:Option Int):slW (.lst ds) lo hi=.ok (.lst (cutD ds lo hi)):=rfl
end L3
namespace HT
open PySem PyProof.Rows
section
variable {prog:ic}{w:yd}{A:ye}{E:Da->ka->Prop}{s:ka}
end
end HT
namespace L3
open PySem PySem.Spec PyProof.Rows L2 SeqAt
section
variable {X:Cx}{xw:XW}{a st:nc}{fa:Ha->Res D}{pos p2:bh}
end
end L3
namespace L3
open PySem PySem.Spec PyProof.Rows L2
variable{K:td}{xw:XW}{W₀ W W1:WS}{H₀ H:Hp}{Dn:Ends}
section
variable {H1:Hp}
def RSO(K:td)(xw:XW)(W₀:WS)(H₀:Hp)(W:WS)(H:Hp)(o:Out)(Dn:Ends):Prop:=match o with
 | .rt (.lst ds)=>∀ a xs H',Same H₀ H'->H₀ a=none->H' a=some (.lst xs)->HasL K (λb=>W₀ b\/b=a) H' ds xs->Dn.rt (.ref a) H'
 |o=>RS K xw W₀ H₀ W H o Dn
def Dd0(K:td)(xw:XW)(g:Ha->Out):TS:=λDn σ H=>∃ W₀ H₀ W δ,StHas K W₀ H₀ W H σ δ/\RSO K xw W₀ H₀ W H (g δ) Dn
end
structure NoL(g:Ha->Out):Prop where
 h:∀ δ ds,g δ≠ .rt (.lst ds)
variable{X:Cx}{st:yf}{pos:bh}{a:nc}
section
variable {sts:List yf}{g1 g2:Ha->Out}{p:bh}{es:List nc}
structure XSO(X:Cx)(xw:XW)(sts:List yf)(g:Ha->Out):Prop where
 h:PSs X sts (Dd0 X.K xw g)
def spO(K:td)(n:Nat)(m:List D->Res D):Sp:=λvs H Q _=>vs.length=n/\∃ W ds,WL W H/\HasL K W H ds vs/\match m ds with
 | .ok (.lst fs)=>∀ a xs H',Same H H'->H a=none->H' a=some (.lst xs)->HasL K (λb=>W b\/b=a) H' fs xs->Q (.ref a) H'
 | .ok d=>∀ v H',Same H H'->Has K W H' d v->Q v H'
 |_=>False
structure FnO(P:ic)(w:yd)(K:td)(mg:ua->Option Da)(base:pd)(k:Nat)(x:ua)(n:Nat)(m:List D->Res D):Prop where
 ex:∃ f fd ps,FnOk P w K mg base Fp k f fd ps (spO K n m)/\mg x=some (.ref f)/\kf K (.ref f)=true/\Binds K fd ps []
def Mc0(i:Nat)(δ:Ha):D->Out
 | .lst ds=>.nx (δ.set i (some (.o ds)))
 |d=>.nx (δ.set i (some (.d d)))
def TC(i:Nat)(f:Ha->Res D):Ha->Out:=λδ=>Pm (f δ) (Mc0 i δ)
def VY(K:td)(W:WS)(H:Hp):List D->List V->Prop
 | [],xs=>xs= []
 |d::ds,xs=>∃ x r,xs=x::r/\HasT K W H d x/\VY K W H ds r
def RAP(K:td)(xw:XW)(W:WS)(H:Hp)(r:Res (List D))(Q:List V->Hp->Prop):Prop:=match r with
 | .ok ds=>∀ vs H',Same H H'->VY K W H' ds vs->Q vs H'
 | .ex c fs=>∀ H',Same H H'->xw c fs H'
 | .stuck=>False
structure XAP(X:Cx)(xw:XW)(es:List nc)(f:Ha->Res (List D)):Prop where
 h:PA X es λσ H Q=>∃ W₀ H₀ W δ,StHas X.K W₀ H₀ W H σ δ/\RAP X.K xw W H (f δ) Q
end
open SeqAt
variable{α:Type}{k:Jd}
section
variable {β:Type}
def Lq(l:List (Jd×α))(k:Jd):Option α:=(l.find? λp=>decide (p.1=k)).map (·.2)
def Hd0(l:List (Jd×α))(k:Jd):Bool:=l.any λp=>decide (p.1=k)
def Ka0(l:List (Jd×α))(k:Jd)(y:α):List (Jd×α):=if Hd0 l k=true then l.map (λp=>if p.1=k then(p.1,y) else p) else l++ [(k,y)]
theorem Nq{p:Jd×α}{r:List (Jd×α)}(e:p.1=k):Lq (p::r) k=some p.2:=by simp[Lq,qr,e]
theorem Mq{p:Jd×α}{r:List (Jd×α)}(e:¬ p.1=k):Lq (p::r) k=Lq r k:=by simp[Lq,qr,e]
end
variable{kvs:List (Jd×V)}
theorem R3{vs:List (Jd×Da)}(r:KV kvs vs)(k:Jd):(∀ v,Lq kvs k=some v->∃ u,ml vs k=some u/\RelV v u)/\(Lq kvs k=none->ml vs k=none):=by
 unfold KV at r
 induction r with
 |nil=>exact⟨(λv e=>by cases e),λ_=>rfl⟩
 |@cons p q ps qs h t ih=>
  obtain⟨h1,h2⟩:=h;by_cases e:p.1=k
  .have b:ml (q::qs) k=some q.2:=by simp[ml,qr,h1.symm.trans e]
   rw[Nq e,b];exact⟨λv z=>by cases z;exact⟨_,rfl,h2⟩,λz=>by cases z⟩
  .have e':¬ q.1=k:=λz=>e (h1.trans z);have b:ml (q::qs) k=ml qs k:=by simp[ml,qr,e']
   rw[Mq e,b];exact ih
variable{ks:List Jd}{ds:List D}{H':Hp}
section
variable {K:td}{W:WS}{H:Hp}
def HasP(K:td)(W:WS)(H:Hp)(l:List (Jd×D))(kvs:List (Jd×V)):Prop:=kvs.map (·.1)=l.map (·.1)/\HasL K W H (l.map (·.2)) (kvs.map (·.2))
theorem HasP.nil:HasP K W H [] []:=⟨rfl,HasL.nil⟩
theorem HasP.cons{p:Jd×D}{l:List (Jd×D)}{kvs:List (Jd×V)}(h:HasP K W H (p::l) kvs):∃ v r,kvs=(p.1,v)::r/\Has K W H p.2 v/\HasP K W H l r:=by
 obtain⟨h1,h2⟩:=h;cases kvs with
 |nil=>cases h1
 |cons q r=>
  rw[db,db]at h1 h2
  rw[HasL]at h2
  obtain⟨x,t,e,g1,g2⟩:=h2;cases e;have h3:=List.cons.inj h1;exact⟨q.2,r,by rw[<-h3.1],g1,h3.2,g2⟩
theorem HasP.of(h1:kvs.map (·.1)=ks)(h2:HasL K W H ds (kvs.map (·.2))):HasP K W H (ks.zip ds) kvs/\(ks.zip ds).map (·.1)=ks/\(ks.zip ds).map (·.2)=ds:=by
 have hl:ks.length=ds.length:=by rw[<-h1,h2.length,Db,Db]
 have e1:(ks.zip ds).map (·.1)=ks:=by rw[<-List.unzip_fst,List.unzip_zip hl]
 have e2:(ks.zip ds).map (·.2)=ds:=by rw[<-List.unzip_snd,List.unzip_zip hl]
 exact⟨⟨by rw[e1,h1],by rw[e2];exact h2⟩,e1,e2⟩
theorem HasP.same{l:List (Jd×D)}(h:HasP K W H l kvs)(k:Same H H')(w:WL W H):HasP K W H' l kvs:=⟨h.1,h.2.same k w⟩
theorem HasP.get:∀ {l:List (Jd×D)} {kvs:List (Jd×V)},HasP K W H l kvs->∀ (k:Jd),(∀ d,Lq l k=some d->∃ v,Lq kvs k=some v/\Has K W H d v)/\(Lq l k=none->Lq kvs k=none)
 | [],kvs,h,k=>by
  obtain⟨h1,_⟩:=h;cases kvs with
  |nil=>exact⟨(λd e=>by cases e),λ_=>rfl⟩
  |cons _ _=>cases h1
 |p::l,kvs,h,k=>by
  obtain⟨v,r,rfl,h1,h2⟩:=h.cons;by_cases e:p.1=k
  .rw[Nq e,Nq (p:=(p.1,v)) e];exact⟨λd z=>by cases z;exact⟨v,rfl,h1⟩,λz=>by cases z⟩
  .rw[Mq e,Mq (p:=(p.1,v)) e];exact h2.get k
end
variable{b e:nc}{fa fb f:Ha->Res D}{P:ic}{w:yd}{fq:Ha->Res (List (Jd×D))}{σ:L2.St}{i:Nat}{o:Out}{g:Ha->Out}{s:ka}
section
variable {ie:nc}{p p1 p2:bh}{fi:Ha->Res D}
theorem SE{u:Da}(r:RelV (kV k) u):(Od P w).is k u=true:=Ot r
theorem T9{h:pd}{a:ia}(ok:HOk P w H h)(e:Rd H a (.dK kvs)):kvs.length<=sizeLine/\(a==jk)=false/\∃ vs,KV kvs vs/\h.DictOf (Od P w) a vs:=by
 rcases e with e|⟨o,e⟩
 .exact ok a _ e
 .exact(show _/\_ from ok a _ e).2
theorem Rd.same{a:ia}{u:HO}(h:Rd H a u)(k:Same H H'):Rd H' a u:=h.imp (k _ _) λ⟨o,e⟩=>⟨o,k _ _ e⟩
def Sc0:R2:=λx y H Q=>∃ a kvs k v,x=.ref a/\Rd H a (.dK kvs)/\y=kV k/\Lq kvs k=some v/\Q v H
theorem YH{ta tb:TE}(ha:PE X a ta)(hb:PE X b tb)(hs:Ki b):PE X (.Subscript a b pos) (D7 Sc0 ta tb):=by
 intro pins s σ H Q I h;refine Subscript_ (PM ha hb I h λv u s2 x y H2 I2 rx ry q=>?_);obtain⟨d,kvs,k,z,rfl,hd,rfl,hg,q⟩:=q;cases rx;obtain⟨_,hS,vs,rel,dd⟩:=T9 I2.hok hd;obtain⟨w',hw,rw'⟩:=(R3 rel k).1 z hg;unfold wt;refine ja ?_;rw[getitemInPython_of_ne dd.typeIs.not_modules];refine ja (dq dd.typeIs Os.lookup ?_)
 have fin:cb (jb X.prog X.w) X.A (subscripted b false (.ref d) u) (λr s₃=>cb (jb X.prog X.w) X.A (letTemporaryGo a (.ref d) r >>= λ_=>pure r) (EP X pins σ Q) X.xe s₃) X.xe s2:=by
  rw[hs (.ref d) u];exact wpAny_operating (wpAny_getItem_of (SE ry) dd.mapOf hw (ja (wpAny_letTemporaryGo (kb ⟨z,H2,I2.tok _,rw',q⟩))))
 first
  |exact kb (ja fin)
  |exact ja (kb (ja fin))
  |exact ja fin
def RQ(K:td)(xw:XW)(W:WS)(H:Hp)(r:Res (List (Jd×D)))(Q:VK):Prop:=match r with
 | .ok l=>∀ a kvs H',Same H H'->Rd H' a (.dK kvs)->HasP K W H' l kvs->Q (.ref a) H'
 | .ex c fs=>∀ H',Same H H'->xw c fs H'
 | .stuck=>False
def tDQ(K:td)(xw:XW)(f:Ha->Res (List (Jd×D))):TE:=λσ H Q=>∃ W₀ H₀ W δ,StHas K W₀ H₀ W H σ δ/\RQ K xw W H (f δ) Q
structure XQ(X:Cx)(xw:XW)(e:nc)(f:Ha->Res (List (Jd×D))):Prop where
 h:PE X e (tDQ X.K xw f)
def Eg(i:Nat):Ha->Res (List (Jd×D)):=λδ=>match δ[i]? with
 |some (some (.q ks ds))=>.ok (ks.zip ds)
 |some (some (.d (.dct ks ds)))=>.ok (ks.zip ds)
 |_=>.stuck
theorem Bv(i:Nat){x:ua}(hN:X.N[i]? =some x:=by rfl)(hv:Jw X.env.scope x:=by first|exact Or.inl rfl|exact Or.inr (Or.inl rfl)|exact Or.inr (Or.inr rfl))(hd:(x==("__debug__":ua))=false:=by decide)(hcd:(x==("__classdict__":ua))=false:=by decide):XQ X xw (.Name x pos) (Eg i):=
 ⟨PE.weak (Ph hN hv hd hcd) λσ H Q ⟨W₀,H₀,W,δ,st,q⟩=>by
  unfold Eg at q;split at q
  .rename_i ks ds h;obtain⟨v,e1,a,kvs,rfl,r2,r3,r4,r5,r6⟩:=st.at' i _ h;exact⟨_,e1,q a kvs H (Same.refl H) (.inl r4) (HasP.of r5 r6).1⟩
  .rename_i ks ds h;obtain⟨v,e1,r⟩:=st.at' i _ h;have r':Has X.K W H (.dct ks ds) v:=r;rw[Has]at r'
   obtain⟨a,kvs,rfl,r4,r5,r6⟩:=r';exact⟨_,e1,q a kvs H (Same.refl H) (.inr r4) (HasP.of r5 r6).1⟩
  .exact q.elim⟩
def V7(op:D->Res α)(f:Ha->Res D):Ha->Res α:=λδ=>(f δ).bind op
def Le(l:List (Jd×D))(d:D):Res D:=match TV d with
 |some k=>match Lq l k with
  |some x=>.ok x
  |none=>.stuck
 |none=>.stuck
def Sq(op:List (Jd×D)->D->Res α)(f:Ha->Res (List (Jd×D)))(g:Ha->Res D):Ha->Res α:=λδ=>(f δ).bind λl=>(g δ).bind λd=>op l d
theorem UB{d:D}{v:V}(h:HasT K W H d v)(e:TV d=some k):v=kV k:=by
 cases d with
 |int i=>cases e;exact h.int
 |str x=>cases e;exact h.str
 |_=>cases e
theorem Ep(ha:XQ X xw a fq)(hb:XP X xw b fb)(hs:Ki b:=by intro _ _;rfl):XE X xw (.Subscript a b pos) (Sq Le fq fb):=
 ⟨PE.weak (YH ha.h hb.h hs) λσ H Q ⟨W₀,H₀,W,δ,st,q⟩=>by
  refine⟨W₀,H₀,W,δ,st,?_⟩;unfold Sq at q;cases h1:fq δ with
  |stuck=>rw[h1]at q;exact q
  |ex c fs=>rw[h1]at q;exact q
  |ok l=>
   rw[h1]at q
   intro ad kvs H1 k1 hd hp;refine⟨W₀,H₀,W,δ,st.same k1,?_⟩;have q':RE X.K xw W H ((fb δ).bind λd=>Le l d) Q:=q;cases h2:fb δ with
   |stuck=>rw[h2]at q';exact q'
   |ex c fs=>rw[h2]at q';exact λH2 k2=>q' H2 (k1.trans k2)
   |ok d=>
    rw[h2]at q'
    intro v H2 k2 hv;have q2:RE X.K xw W H (Le l d) Q:=q';unfold Le at q2;split at q2
    .rename_i k hk;split at q2
     .rename_i x hx;have hp2:=hp.same k2 (st.fr.wl.same k1);obtain⟨z,hz,hh⟩:=(hp2.get k).1 x hx;exact⟨ad,kvs,k,z,rfl,Rd.same hd k2,UB hv hk,hz,q2 z H2 (k1.trans k2) hh⟩
     .exact q2.elim
    .exact q2.elim⟩
def RC(i:Nat):Ha->Out:=λδ=>.nx (δ.set i (some (.q [] [])))
def Oc0(i:Nat)(δ:Ha)(l:List (Jd×D))(d ix:D):Out:=match TV ix with
 |some k=>if l.length<=1000 then .nx (δ.set i (some (.q ((Ka0 l k d).map (·.1)) ((Ka0 l k d).map (·.2))))) else .stuck
 |none=>.stuck
def Pc0(i:Nat)(fi:Ha->Res D)(δ:Ha)(d:D):Out:=match δ[i]? with
 |some (some (.q ks ds))=>Pm (fi δ) (Oc0 i δ (ks.zip ds) d)
 |_=>.stuck
def UC(i:Nat)(fi f:Ha->Res D):Ha->Out:=λδ=>Pm (f δ) (Pc0 i fi δ)
def G2(i:Nat)(δ:Ha):Ha:=match δ[i]? with
 |some (some (.q ks ds))=>δ.set i (some (.d (.dct ks ds)))
 |some (some (.o ds))=>δ.set i (some (.d (.lst ds)))
 |_=>δ
theorem StHas.frzQ{δ:Ha}{a:ia}(o:mh)(h:StHas K W₀ H₀ W H σ δ)(hi:δ[i]? =some (some (.q ks ds)))(hs:σ[i]? =some (some (.ref a)))(hW:W a)(h4:kvs.map (·.1)=ks)(h5:HasL K W H ds (kvs.map (·.2))):StHas K W₀ H₀ (λb=>W b/\b≠a) (Lb H a (.frz o (.dK kvs))) σ (δ.set i (some (.d (.dct ks ds)))):=by
 have kk:Yj W H (Lb H a (.frz o (.dK kvs))):=λb u e n=>by rw[Ea (λz=>n (by rw[z];exact hW))];exact e
 refine h.freezeH (owq ks ds) hi hs ?_;rw[Has];exact⟨a,kvs,rfl,⟨o,Ta⟩,h4,HasL.keep kk h.fr.wl (λb z=>.inl z.1) h5⟩
theorem Step.less{W2:WS}{H2:Hp}(hw:∀ b,W1 b->W b)(k:Step W1 H W2 H2):Step W H W2 H2:=⟨λb o e n=>k.keep b o e λz=>n (hw b z),λb z=>(k.new b z).imp (hw b) id⟩
theorem RS.less{xw:XW}(hw:∀ b,W1 b->W b)(q:RS K xw W₀ H₀ W H o Dn):RS K xw W₀ H₀ W1 H o Dn:=by
 cases o with
 |nx δ=>exact λW' H' σ k s=>q W' H' σ (k.less hw) s
 |bk δ=>exact λW' H' σ k s=>q W' H' σ (k.less hw) s
 |ct δ=>exact λW' H' σ k s=>q W' H' σ (k.less hw) s
 |rt d=>exact q
 |ex c fs=>exact q
 |stuck=>exact q
def VX(i:Nat)(g:Ha->Out):Ha->Out:=λδ=>g (G2 i δ)
theorem RS.note{xw:XW}{a:ia}{ob:HO}(hW:W a)(q:RS K xw W₀ H₀ W H o Dn):RS K xw W₀ H₀ (λb=>W b/\b≠a) (Lb H a ob) o Dn:=by
 have st:∀ W' H',Step (λb=>W b/\b≠a) (Lb H a ob) W' H'->Step W H W' H':=λW' H' k=>⟨λb u e n=>by
   have hb:b≠a:=λz=>n (by rw[z];exact hW);exact k.keep b u (by rw[Ea hb];exact e) λz=>n z.1,λb z=>by
   rcases k.new b z with z|z
   .exact .inl z.1
   .by_cases hb:b=a
    .rw[hb,Ta]at z;cases z
    .rw[Ea hb]at z;exact .inr z⟩
 cases o with
 |nx δ=>exact λW' H' σ k s=>q W' H' σ (st _ _ k) s
 |bk δ=>exact λW' H' σ k s=>q W' H' σ (st _ _ k) s
 |ct δ=>exact λW' H' σ k s=>q W' H' σ (st _ _ k) s
 |rt d=>exact q
 |ex c fs=>exact q
 |stuck=>exact q
theorem GO{pins:List (ia×mh)}(I:Inv X pins σ H s)(h:QT X.K xw (VX i g) Dn σ H):∃ H',Inv X pins σ H' s/\QT X.K xw g Dn σ H':=by
 obtain⟨W₀,H₀,W,δ,st,q⟩:=h;have q':RS X.K xw W₀ H₀ W H (g (G2 i δ)) Dn:=q;unfold G2 at q';split at q'
 .rename_i ks ds h;obtain⟨v,e,a,kvs,rfl,r2,r3,r4,r5,r6⟩:=st.at' i _ h;have ok:=I.hok _ _ r4;obtain⟨z,hS,vs,rel,dd⟩:=id ok;obtain⟨o,es,ep,ho,_⟩:=dd;refine⟨_,I.write (x:=a) (e:=a) (o:=.frz o (.dK kvs)) (h':=s.heap) (t':=s.toks) (by rw[r4];exact trivial) (.inl rfl) (λb' u hb hu=>hu) ⟨_,ho⟩ ⟨ho,ok⟩,W₀,H₀,_,_,st.frzQ o h e r2 r5 r6,RS.note r2 q'⟩
 .rename_i ds h;obtain⟨v,e,a,xs,rfl,_⟩:=st.at' i _ h;exact⟨H,I,W₀,H₀,_,_,(st.freeze h e).1,RS.less (λb z=>z.1) q'⟩
 .exact⟨H,I,W₀,H₀,W,δ,st,q'⟩
theorem W9(i:Nat)(h:XS X xw st g):XS X xw st (VX i g):=⟨λpins s σ H Dn I q=>let ⟨H',I',q'⟩:=GO I q;h.h pins s σ H' Dn I' q'⟩
end
variable{tg:nc}{apos:bh}
section
variable {elts:List nc}{kt:Nat}{pt:bh}
end
section
variable {p pos2:bh}
end
variable{prog:ic}{A:ye}{E:Da->ka->Prop}
section
variable {p:bh}{fs:Ha->Res (List D)}
end
section
variable {KK:Type}[DecidableEq KK]{knd:KeyKind prog w KK}{R:iq->ka->Prop}{I:ia}{fp wr:List ia}{G:Array rk->Array rk->Prop}{n:Nat}{P:Nat->Da->Prop}{St:Nat->ka->Prop}
end
section
variable {p:bh}
end
structure FunD(K:td)(x qual:ua)(st:yf)(f:ia)(fd:lg)(dV:Da):Prop where
 ex:∃ (oc:Da) (od:Option ia) (kV doc pm:Da) (an:Option ia) (cdv ct:Da) (osl:Array (Option Da)),
  fd=mj x qual (Jb st) (Eb st) (Ca st) dV kV doc pm an cdv ct/\K.lookup f=some ⟨oc,od,.func fd,osl⟩/\gg K cdv qual=true
 kp:kf K (.ref f)=true
section
variable {mg:ua->Option Da}{base:pd}
end
section
variable {p:bh}
end
structure FnL(P:ic)(w:yd)(K:td)(mg:ua->Option Da)(base:pd)(k:Nat)(x:ua)(n:Nat)(m:List D->Res D)(i:Int):Prop where
 ex:∃ (fa:ia) (fd:lg) (ps:List ua) (v0:Da),FnOk P w K mg base Fp k fa fd ps (F6 K n m)/\mg x=some (.ref fa)/\kf K (.ref fa)=true/\Binds K fd ps [v0]/\RelV (.int i) v0
end L3
namespace PySem
open Sem (wp)
def D2(o o':mh):Prop:=o'.dict=o.dict/\∀ vs,o.data=.fields vs->∃ vs',o'.data=.fields vs'/\vs'[2]? =vs[2]?
theorem D2.refl(o:mh):D2 o o:=⟨rfl,λvs e=>⟨vs,e,rfl⟩⟩
theorem D2.trans{a b c:mh}(x:D2 a b)(y:D2 b c):D2 a c:=⟨y.1.trans x.1,λvs e=>by
 obtain⟨v1,e1,q1⟩:=x.2 vs e;obtain⟨v2,e2,q2⟩:=y.2 v1 e1
 exact⟨v2,e2,q2.trans q1⟩⟩
def DK(h h':pd):Prop:=∀ b o,h.get? b=some o->∃ o',h'.get? b=some o'/\D2 o o'
theorem DK.refl(h:pd):DK h h:=λ_ o e=>⟨o,e,D2.refl o⟩
theorem DK.trans{h1 h2 h3:pd}(x:DK h1 h2)(y:DK h2 h3):DK h1 h3:=λb o e=>
 let ⟨o1,e1,d1⟩:=x b o e;let ⟨o2,e2,d2⟩:=y b o1 e1
 ⟨o2,e2,d1.trans d2⟩
theorem DK.push(h:pd)(o:mh):DK h (h.push o):=λb u e=>⟨u,ya o e,D2.refl u⟩
theorem DK.upd(h:pd)(a:ia)(f:mh->mh)(hd:∀ o,h.get? a=some o->D2 o (f o))(hf:∀ o,h.get? a=some o->(f o).isFreed=false):DK h (h.update a f):=λb u e=>by
 by_cases hb:a=b
 .subst hb;exact⟨f u,zi f e (hf u e),hd u e⟩
 .exact⟨u,(ui h f hb).trans e,D2.refl u⟩
structure KeepD{α:Type}(t:Sem α):Prop where
 out:∀ (M:Model) (Γ:Ctx) (P:α->bh->ka->Prop) (Ee:Da->bh->ka->Prop) (p:bh) (s:ka),wp M Γ t P Ee p s->wp M Γ t (λa p' s'=>P a p' s'/\DK s.heap s'.heap) Ee p s
namespace KeepD
variable {α β:Type}
theorem now(a:α):KeepD (Pure.pure a:Sem α):=⟨λ_ _ _ _ _ _ h=>⟨h,DK.refl _⟩⟩
theorem off(w:String):KeepD (PySem.unsupported w:Sem α):=⟨λ_ _ _ _ _ _ h=>h⟩
theorem seq{m:Sem α}{f:α->Sem β}(hm:KeepD m)(hf:∀ a,KeepD (f a)):KeepD (m >>= f):=⟨λM Γ P Ee p s h=>by
 rw[Sem.wp_bind']at h ⊢
 refine Sem.wp_mono M Γ m (λa p1 s1 h1=>?_) (λ_ _ _ x=>x) p s (hm.out M Γ _ Ee p s h)
 exact Sem.wp_mono M Γ (f a) (λb p2 s2 h2=>⟨h2.1,h1.2.trans h2.2⟩) (λ_ _ _ x=>x) p1 s1 ((hf a).out M Γ P Ee p1 s1 h1.1)⟩
theorem cond{c:Prop}[Decidable c]{t u:Sem α}(ht:KeepD t)(hu:KeepD u):KeepD (if c then t else u):=by split<;>assumption
theorem ld(a:ia):KeepD (PySem.load a):=⟨λM Γ P Ee p s h=>by
 unfold PySem.load at h ⊢;rw[Sem.wp_load]at h ⊢
 obtain⟨o,e,q⟩:=h;rw[aq]at q
 exact⟨o,e,by rw[aq];exact⟨q,DK.refl _⟩⟩⟩
theorem up(a:ia)(f:mh->mh)(hd:∀ o,(f o).dict=o.dict)(he:∀ o,(f o).data=o.data):KeepD (PySem.update a f):=⟨λM Γ P Ee p s h=>by
 unfold PySem.update at h ⊢;rw[Sem.wp_update]at h ⊢
 obtain⟨e,q⟩:=h;rw[aq]at q
 refine⟨e,?_⟩;rw[aq];refine⟨q,DK.upd _ _ _ (λo _=>⟨hd o,λvs e=>⟨vs,(he o).trans e,rfl⟩⟩) λo ho=>?_⟩;have al:=((Heap.get?_eq_some _ _ _).1 ho).2;have h1:=he o;revert h1;generalize f o=u;intro h1;obtain⟨c1,d1,t1,s1⟩:=u;obtain⟨c2,d2,t2,s2⟩:=o;dsimp only at h1;subst h1
 cases t1<;>first|rfl|cases al⟩
theorem stk:KeepD PySem.stack:=⟨λM Γ P Ee p s h=>by
 unfold PySem.stack at h ⊢;rw[Sem.wp_stack]at h ⊢
 rw[aq]at h ⊢
 exact⟨h,DK.refl _⟩⟩
theorem new(o:mh):KeepD (PySem.alloc o):=⟨λM Γ P Ee p s h=>by
 unfold PySem.alloc at h ⊢;rw[Sem.wp_alloc,aq]at h ⊢
 exact⟨h,DK.push _ _⟩⟩
theorem fld(v:Da)(i:Nat):KeepD (PySem.field v i):=⟨λM Γ P Ee p s h=>by
 rw[wp_field_iff]at h ⊢
 obtain⟨a,o,vs,x,e1,e2,e3,e4,q⟩:=h
 exact⟨a,o,vs,x,e1,e2,e3,e4,q,DK.refl _⟩⟩
theorem put(v:Da)(i:Nat)(x:Da)(hi:i≠2):KeepD (PySem.setField v i x):=⟨λM Γ P Ee p s h=>by
 rw[wp_setField_iff]at h ⊢
 obtain⟨a,o,vs,e1,e2,e3,e4,q⟩:=h;refine⟨a,o,vs,e1,e2,e3,e4,q,DK.upd _ _ _ (λu hu=>⟨?_,λws ew=>⟨_,dj ew _,?_⟩⟩) λu hu=>?_⟩
 .unfold kn;split<;>rfl
 .exact Array.getElem?_setIfInBounds_ne hi
 .rw[e2]at hu;cases hu
  exact xo (dj e3 _)⟩
end KeepD
local macro_rules| `(tactic| walk_at "keepd")=> `(tactic| repeat' with_reducible first
  |assumption
  |exact KeepD.now _
  |exact KeepD.off _
  |exact KeepD.fld _ _
  |exact KeepD.put _ _ _ (by decide)
  |exact KeepD.ld _
  |exact KeepD.stk
  |exact KeepD.new _
  |exact KeepD.up _ _ (λ_=>rfl) (λ_=>rfl)
  |apply KeepD.cond
  |apply KeepD.seq
  |intro _
  |split)
theorem G3(env:cq)(outer:List cq):KeepD (behindIsImport env outer):=by
 unfold behindIsImport
 walk_at "keepd"
theorem IK:KeepD underTheClaimsCaller:=by
 unfold underTheClaimsCaller
 walk_at "keepd"
theorem RV(env:cq)(i:Bool)(l:List cq):KeepD (keptBack env i l):=by
 have:=IK;cases l<;>unfold keptBack<;>walk_at "keepd"
theorem TB:∀ l:List cq,KeepD (readyFrames l)
 | []=>KeepD.now _
 |env::outer=>by
  have r:=TB outer;have a:=G3 env outer;have b:=λi=>RV env i outer;unfold readyFrames
  walk_at "keepd"
  all_goals first|exact b _|skip
theorem HP(l:List cq):KeepD (frameObject l):=by
 cases l with
 |nil=>exact KeepD.now _
 |cons env outer=>
  have r:=TB (env::outer);unfold frameObject
  walk_at "keepd"
theorem W8(env:cq):KeepD (frameOf env):=by
 have a:KeepD frameEnvs:=by unfold frameEnvs;walk_at "keepd"
 have b:=HP;unfold frameOf
 walk_at "keepd"
 all_goals first|exact b _|skip
theorem IP(f:ia)(b:Bool):KeepD (entryPlaceOf f b):=by
 unfold entryPlaceOf
 walk_at "keepd"
theorem GP(a b c d e:Da)(l:List Da):KeepD (EntryCells.newEntry a b c d e l):=by
 unfold EntryCells.newEntry newFields newObj newObjAsIs;dsimp only
 walk_at "keepd"
theorem Az(e:Da)(env:cq):KeepD (ck e env):=by
 have a:=W8 env;have b:=IP;have c:=GP;unfold ck
 walk_at "keepd"
 all_goals first|exact b _ _|exact c _ _ _ _ _ _|skip
theorem Wk(e:Da)(f:Option ia):KeepD (vk e f):=by
 unfold vk
 walk_at "keepd"
theorem Eu(env:cq)(e:Da):KeepD (yu env e):=by
 have a:=Az e env;have b:=Wk e none;unfold yu
 walk_at "keepd"
variable{α:Type}{M:Model}{A:ye}{E:Da->ka->Prop}{s:ka}
theorem KeepD.anyK{t:Sem α}(k:KeepD t){Q:α->ka->Prop}(h:cb M A t Q E s):cb M A t (λv s'=>Q v s'/\DK s.heap s'.heap) E s:=
 λΓ p hΓ=>k.out M Γ _ _ p s (h Γ p hΓ)
theorem KeepD.thn{t:Sem α}(k:KeepD t){Q Q':α->ka->Prop}(h:cb M A t Q E s)(g:∀ v s',Q v s'->DK s.heap s'.heap->Q' v s'):cb M A t Q' E s:=
 se (KeepD.anyK k h) (λv s' q=>g v s' q.1 q.2) λ_ _ z=>z
end PySem
namespace L3
open PySem PySem.Spec PyProof.Rows L2 SeqAt
def DcOk(dx:Dx)(o:mh):Prop:=o.dict=dx.1/\(dx.2=true->∃ vs,o.data=.fields vs/\vs[2]? =some .none)
variable{dx:Dx}{o:mh}
theorem DcOk.to{o':mh}(h:DcOk dx o)(d:D2 o o'):DcOk dx o':=⟨d.1.trans h.1,λz=>by
 obtain⟨vs,e,q⟩:=h.2 z;obtain⟨vs',e',q'⟩:=d.2 vs e
 exact⟨vs',e',q'.trans q⟩⟩
structure Fly(P:ic)(w:yd)(l:List cq)(H:Hp)(s:ka)(H':Hp)(a:ia)(cls:Da)(dx:Dx)(h:pd):Prop where
 un:Un (Ff l) [] H H' s.heap h
 hok:HOk P w H' h
 frf:∀ b∈Ff l,H' b=none
 new:s.heap.get? a=none
 nh:H' a=none
 dc:∃ o,h.get? a=some o/\DcOk dx o
 fl:∃ B a0,wn B l a cls a0 h/\∀ b,b∉Ff l->((H' b).isSome=true\/(s.heap.get? b).isSome=true)->(B.get? b).isSome=true
variable{P:ic}{w:yd}{H:Hp}{a:ia}
theorem Aq{h:pd}{o:HO}(x:ObjOk P w H h a o):∃ u,h.get? a=some u:=by
 induction o with
 |lst xs=>obtain⟨_,_,_,_,e⟩:=x;exact⟨_,e⟩
 |tup xs=>obtain⟨_,_,_,ob,e,_⟩:=x;exact⟨_,e⟩
 |dK kvs=>obtain⟨_,_,_,_,ob,_,_,e,_⟩:=x;exact⟨_,e⟩
 |dT kvs=>obtain⟨_,_,_,_,ob,_,_,e,_⟩:=x;exact⟨_,e⟩
 |set S n=>obtain⟨ob,_,_,_,e,_⟩:=x;exact⟨_,e⟩
 |ins C dx fs=>obtain⟨_,_,_,e,_⟩:=x;exact⟨_,e⟩
 |own y=>exact x
 |xd fs=>obtain⟨_,⟨_,_,_,e,_⟩,_⟩:=x;exact⟨_,e⟩
 |rng lo hi=>obtain⟨_,_,_,e⟩:=x;exact⟨_,e⟩
 |frz ob u ih=>obtain⟨e,_⟩:=x;exact⟨_,e⟩
 |tbl ps=>exact⟨_,x⟩
 |met f y=>exact⟨_,x⟩
 |ext φ=>exact x.2.1
 |tab pos qual=>obtain⟨_,e,_⟩:=x;exact⟨_,e⟩
 |dN l=>obtain⟨_,_,_,_,ob,_,_,e,_⟩:=x;exact⟨_,e⟩
variable{H':Hp}{s:ka}{cls a0:Da}{h' B:pd}{b:ia}
section
variable {l:List cq}{h:pd}
theorem Qk(cov:∀ b,b∉Ff l->((H' b).isSome=true\/(s.heap.get? b).isSome=true)->(B.get? b).isSome=true)(s1:B.StaysIn h)(s2:B.StaysIn h')(hb:b∉Ff l)(q:(H' b).isSome=true\/(s.heap.get? b).isSome=true):h'.get? b=h.get? b:=by
 obtain⟨o,e⟩:=ve.mp (cov b hb q);rw[s1 b o e,s2 b o e]
theorem Gn(f:wn B l a cls a0 h)(up:h.UpToSlots h')(hb:b∈Ff l)(e:h.get? b=some o):∃ sl,h'.get? b=some {o with slots:=sl}:=by
 obtain⟨_,o',e',nf⟩:=f.2.2.1.mem hb;rw[e]at e'
 cases e';exact up b o e nf
theorem Y1(un:Un (Ff l) [] H H' s.heap h)(cov:∀ b,b∉Ff l->((H' b).isSome=true\/(s.heap.get? b).isSome=true)->(B.get? b).isSome=true)(f:wn B l a cls a0 h)(s2:B.StaysIn h')(up:h.UpToSlots h'):Un (Ff l) [] H H' s.heap h' where
 keep:=λb o e n hb hx=>(Qk cov f.1 s2 hb (.inr (by rw[e];rfl))).trans (un.keep b o e n hb hx)
 slot:=λb o e n hb hx=>by
  obtain⟨sl,e1⟩:=un.slot b o e n hb hx;obtain⟨sl',e2⟩:=Gn f up hb e1;exact⟨sl',e2⟩
 free:=un.free
 there:=λb o e hx=>by
  obtain⟨o',e1⟩:=un.there b o e hx;by_cases hb:b∈Ff l
  .obtain⟨sl,e2⟩:=Gn f up hb e1;exact⟨_,e2⟩
  .exact⟨o',(Qk cov f.1 s2 hb (.inr (by rw[e];rfl))).trans e1⟩
 tups:=un.tups
 frzs:=un.frzs
 tbls:=un.tbls
theorem IH(hok:HOk P w H' h)(frf:∀ b∈Ff l,H' b=none)(cov:∀ b,b∉Ff l->((H' b).isSome=true\/(s.heap.get? b).isSome=true)->(B.get? b).isSome=true)(s1:B.StaysIn h)(s2:B.StaysIn h'):HOk P w H' h':=λb u e=>by
 have tr:∀ c v,H' c=some v->c∉Ff l:=λc v q z=>by rw[frf c z]at q;cases q
 refine(hok b u e).stay (λc v hc q=>?_) (λ_ q=>q) λ_ _ q=>q;rcases hc with rfl|hc
 .exact(Qk cov s1 s2 (tr c u e) (.inl (by rw[e];rfl))).trans q
 .exact(Qk cov s1 s2 (tr c _ hc) (.inl (by rw[hc];rfl))).trans q
end
def HA(P:ic)(w:yd):Yx:=λl H s E e s'=>∃ a cls dx H',e=.ref a/\s'.os=s.os/\gj s'.gens/\Fly P w l H s H' a cls dx s'.heap/\E cls dx H'
variable{X:Cx}{pins:List (ia×mh)}{σ:L2.St}{s':ka}{M:Model}{Ex:Da->ka->Prop}{E:XK}{Q:Unit->ka->Prop}
theorem Sk(hst:X.stack=X.env::X.outer)(hfr:X.env.frame=some X.env.locals):Ff X.stack=X.env.locals::Ff X.outer:=by
 rw[hst];unfold Ff;rw[xm,hfr]
theorem Hn(I:Inv X pins σ H s)(os:s'.os=s.os)(bare:gj s'.gens)(x:Fly X.prog X.w X.stack H s H' a cls dx s'.heap):Inv X pins σ H' s':=
 I.call' (ch:= []) os x.un x.hok bare λb z=>absurd z (by simp)
theorem A2(I:Inv X pins σ H s)(hex:X.ex= [])(hst:X.stack=X.env::X.outer)(hfr:X.env.frame=some X.env.locals)(os:s'.os=s.os)(bare:gj s'.gens)(x:Fly X.prog X.w X.stack H s H' a cls dx s'.heap)(hE:E cls dx H')(hQ:∀ s'',HA X.prog X.w X.outer X.H₀ X.s₀ E (.ref a) s''->Q () s''):cb M X.A (yu X.env (.ref a)) Q Ex s':=by
 have I':=Hn I os bare x;obtain⟨B,a0,f,cov⟩:=x.fl;have es:=Sk hst hfr;have noex:∀ b,b∉X.ex:=λb=>by rw[hex];simp
 have f2:wn B (X.env::X.outer) a cls a0 s'.heap:=by rw[<-hst];exact f
 have nl:∀ b,b∉Ff X.outer->((H' b).isSome=true\/(X.s₀.heap.get? b).isSome=true)->b∉Ff X.stack:=λb hb h z=>by
  rw[es]at z
  rcases xc.mp z with z|z
  .rw[z]at h
   rcases h with h|h
   .rw[I'.free]at h;cases h
   .obtain⟨o,e⟩:=ve.mp h;exact absurd (bd (sd e) I.ok.above) (xh _)
  .exact hb z
 have old:∀ b,((H' b).isSome=true\/(X.s₀.heap.get? b).isSome=true)->((H' b).isSome=true\/(s.heap.get? b).isSome=true):=λb h=>by
  rcases h with h|h
  .exact .inl h
  .obtain⟨o,e⟩:=ve.mp h;obtain⟨o',e'⟩:=I.base.there b o e (noex b);exact .inr (by rw[e'];rfl)
 refine(Eu X.env (.ref a)).thn (Q:=λ_ s''=>∃ h',s''= {s' with heap:=h'}/\wn B X.outer a cls a0 h'/\s'.heap.UpToSlots h') (wpAny_leaves_onW (by rw[<-hst];exact I.ok.frames) hfr f2 λh' f' up=>⟨h',rfl,f',up⟩) λ_ s'' ⟨h',e'',f',up⟩ dk=>?_;subst e'';obtain⟨od,ed,dd⟩:=x.dc;obtain⟨od',ed',dd'⟩:=dk a od ed;refine hQ _ ⟨a,cls,dx,H',rfl,?_,bare,⟨⟨λb o e n hb hx=>?_,λb o e n hb hx=>?_,λb o e n hx=>I'.base.free b o e n (noex b),λb o e hx=>?_,I'.base.tups,I'.base.frzs,I'.base.tbls⟩,?_,λb hb=>x.frf b (by rw[es];exact ib _ hb),?_,x.nh,⟨od',ed',dd.to dd'⟩,B,a0,f',λb hb h=>cov b (nl b hb h) (old b h)⟩,hE⟩
 .exact os.trans I.os
 .exact(Qk cov f.1 f'.1 (nl b hb (.inr (by rw[e];rfl))) (old b (.inr (by rw[e];rfl)))).trans (I'.base.keep b o e n hb (noex b))
 .obtain⟨sl,e1⟩:=I'.base.slot b o e n hb (noex b);obtain⟨sl',e2⟩:=Gn f up (by rw[es];exact ib _ hb) e1;exact⟨sl',e2⟩
 .obtain⟨o',e1⟩:=I'.base.there b o e (noex b);by_cases hb:b∈Ff X.outer
  .obtain⟨sl,e2⟩:=Gn f up (by rw[es];exact ib _ hb) e1;exact⟨_,e2⟩
  .exact⟨o',(Qk cov f.1 f'.1 (nl b hb (.inr (by rw[e];rfl))) (old b (.inr (by rw[e];rfl)))).trans e1⟩
 .exact IH x.hok x.frf cov f.1 f'.1
 .cases q:X.s₀.heap.get? a with
  |none=>rfl
  |some o=>
   obtain⟨o',e'⟩:=I.base.there a o q (noex a);have:=x.new;rw[e']at this;cases this
theorem EV{args:List Da}(I:Inv X pins σ H s)(hex:X.ex= [])(hst:X.stack=X.env::X.outer)(hfr:X.env.frame=some X.env.locals)(os:s'.os=s.os)(bare:gj s'.gens)(x:Heap.MadeExcOf s.heap s'.heap a cls args)(hE:∀ d,E cls (d,true) H)(hQ:∀ s'',HA X.prog X.w X.outer X.H₀ X.s₀ E (.ref a) s''->Q () s''):cb M X.A (yu X.env (.ref a)) Q Ex s':=by
 have es:=Sk hst hfr;have noex:∀ b,b∉X.ex:=λb=>by rw[hex];simp
 have hin:∀ env∈X.env::X.outer,∀ b,env.frame=some b->b∈Ff X.stack:=λenv he b hb=>by
  rw[hst];exact uk.mpr ⟨env,he,hb⟩
 have ff:s.heap.FunFrames (qi s.heap (Ff X.stack)) (X.env::X.outer):=uo (by rw[<-hst];exact I.stack) hin
 have nl:∀ b,b∉Ff X.outer->((H b).isSome=true\/(X.s₀.heap.get? b).isSome=true)->b∉Ff X.stack:=λb hb h z=>by
  rw[es]at z
  rcases xc.mp z with z|z
  .rw[z]at h
   rcases h with h|h
   .rw[I.free]at h;cases h
   .obtain⟨o,e⟩:=ve.mp h;exact absurd (bd (sd e) I.ok.above) (xh _)
  .exact hb z
 have inB:∀ b o,s.heap.get? b=some o->b∉Ff X.stack->(qi s.heap (Ff X.stack)).get? b=some o:=λb o e hb=>hideAll_get _ e hb
 have slots:∀ {h':pd} {b:ia} {o:mh},s'.heap.UpToSlots h'->b∈Ff X.outer->s.heap.get? b=some o->∃ sl,h'.get? b=some {o with slots:=sl}:=λ{h' b o} up hb e=>by
  obtain⟨_,o',e',nf⟩:=I.funs.mem hb;rw[e]at e';cases e'
  exact up b o (x.keeps b o e) nf
 obtain⟨t1,ed,_⟩:=x.there;refine(Eu X.env (.ref a)).thn (Q:=λ_ s''=>∃ h' t,s''= {s' with heap:=h'}/\wn (qi s.heap (Ff X.stack)) X.outer a cls (.ref t) h'/\s'.heap.UpToSlots h') (wpAny_leaves_madeW (base:=qi s.heap (Ff X.stack)) (by rw[<-hst];exact I.ok.frames) hfr (λb o q=>of_hideAll _ q) ff x λh' t f' tup tn up=>⟨h',t,rfl,f',up⟩) λ_ s'' ⟨h',t,e'',f',up⟩ dk=>?_;subst e'';obtain⟨od',ed',dd'⟩:=dk a _ ed;refine hQ _ ⟨a,cls,(none,true),H,rfl,?_,bare,⟨⟨λb o e n hb hx=>?_,λb o e n hb hx=>?_,λb o e n hx=>I.base.free b o e n (noex b),λb o e hx=>?_,I.base.tups,I.base.frzs,I.base.tbls⟩,λb u e=>?_,λb hb=>I.stkFree b (by rw[es];exact ib _ hb),?_,?_,⟨od',ed',DcOk.to (dx:=(none,true)) ⟨rfl,λ_=>⟨_,rfl,rfl⟩⟩ dd'⟩,_,_,f',λb hb h=>?_⟩,hE _⟩
 .exact os.trans I.os
 .exact f'.1 b o (inB b o (I.base.keep b o e n hb (noex b)) (nl b hb (.inr (by rw[e];rfl))))
 .obtain⟨sl,e1⟩:=I.base.slot b o e n hb (noex b);obtain⟨sl',e2⟩:=slots up hb e1;exact⟨sl',e2⟩
 .obtain⟨o',e1⟩:=I.base.there b o e (noex b);by_cases hb:b∈Ff X.outer
  .obtain⟨sl,e2⟩:=slots up hb e1;exact⟨_,e2⟩
  .exact⟨o',f'.1 b o' (inB b o' e1 (nl b hb (.inr (by rw[e];rfl))))⟩
 .have tr:∀ c v,H c=some v->c∉Ff X.stack:=λc v q z=>by rw[I.stkFree c z]at q;cases q
  refine(I.hok b u e).stay (λc v hc q=>?_) (λ_ q=>q) λ_ _ q=>q;rcases hc with rfl|hc
  .exact f'.1 c v (inB c v q (tr c u e))
  .exact f'.1 c v (inB c v q (tr c _ hc))
 .cases q:X.s₀.heap.get? a with
  |none=>rfl
  |some o=>
   obtain⟨o',e'⟩:=I.base.there a o q (noex a);have:=x.new;rw[e']at this;cases this
 .cases q:H a with
  |none=>rfl
  |some u=>
   obtain⟨o',e'⟩:=Aq (I.hok a u q);have:=x.new;rw[e']at this;cases this
 .have hb':=nl b hb h
  have:∃ o,s.heap.get? b=some o:=by
   rcases h with h|h
   .obtain⟨u,e⟩:=ve.mp h;exact Aq (I.hok b u e)
   .obtain⟨o,e⟩:=ve.mp h;exact I.base.there b o e (noex b)
  obtain⟨o,e⟩:=this;rw[inB b o e hb'];rfl
def spX(K:td)(n:Nat)(m:List D->Res D):Sp:=λvs H Q E=>vs.length=n/\∃ W ds,WL W H/\HasL K W H ds vs/\match m ds with
 | .ok d=>∀ v H',Same H H'->Has K W H' d v->Q v H'
 | .ex c fs=>∀ cls dx H',je K aa c=some (some cls)->Same H H'->ExF H' dx fs->E cls dx H'
 | .stuck=>False
structure FnX(P:ic)(w:yd)(K:td)(mg:ua->Option Da)(base:pd)(k:Nat)(x:ua)(n:Nat)(m:List D->Res D):Prop where
 ex:∃ f fd ps,FnOk P w K mg base (HA P w) k f fd ps (spX K n m)/\mg x=some (.ref f)/\kf K (.ref f)=true/\Binds K fd ps []
variable{K:td}{mg:ua->Option Da}{base:pd}{k n:Nat}{x:ua}{m:List D->Res D}
theorem FnX.mono{j:Nat}(F:FnX P w K mg base j x n m)(h:j<=k):FnX P w K mg base k x n m:=by
 obtain⟨f,fd,ps,a,b⟩:=F.ex;exact⟨f,fd,ps,a.mono h,b⟩
structure FnXL(P:ic)(w:yd)(K:td)(mg:ua->Option Da)(base:pd)(k:Nat)(x:ua)(n:Nat)(m:List D->Res D)(i:Int):Prop where
 ex:∃ (fa:ia) (fd:lg) (ps:List ua) (v0:Da),FnOk P w K mg base (HA P w) k fa fd ps (spX K n m)/\mg x=some (.ref fa)/\kf K (.ref fa)=true/\Binds K fd ps [v0]/\RelV (.int i) v0
def OC(n:Nat)(g:Ha->Out)(ds:List D):Res D:=match g (Hb n ds) with
 | .rt d=>.ok d
 | .nx _=>.ok .non
 | .ex c fs=>.ex c fs
 |_=>.stuck
def F7(K:td)(E:XK):XW:=λc fs H'=>∀ cls dx,je K aa c=some (some cls)->ExF H' dx fs->E cls dx H'
def xwE(K:td)(xw:XW):XK:=λcls dx H'=>∃ c fs,je K aa c=some (some cls)/\xw c fs H'/\ExF H' dx fs
def WY(X:Cx)(xw:XW):Prop:=So (HA X.prog X.w) X (xwE X.K xw)
def NM(X:Cx)(xw:XW):Prop:=∀ (pins:List (ia×mh)) (σ:L2.St) (H:Hp) (s:ka) (a:ia) (cls:Da) (args:List Da) (c:ua) (s':ka),Inv X pins σ H s->s'.os=s.os->gj s'.gens->
 Heap.MadeExcOf s.heap s'.heap a cls args->je X.K aa c=some (some cls)->xw c [] H->X.xe (.ref a) s'
variable{N ps:List ua}{qual:ua}{scope:io}{f fa:ia}{cd:Da}{A:ye}{outer:List cq}{s₀:ka}{H₀:Hp}{st:yf}{fd:lg}{g:Ha->Out}
theorem KQ:WY (Xl (HA P w) P w K mg base N qual scope f cd A outer s₀ H₀ E) (F7 K E):=by
 intro pins σ H s e s' I h;obtain⟨a,cls,dx,H',rfl,os,bare,x,c,fs,hn,q,xf⟩:=h;exact A2 I rfl rfl rfl os bare x (q cls dx hn xf) λs'' z=>z
theorem BL:NM (Xl (HA P w) P w K mg base N qual scope f cd A outer s₀ H₀ E) (F7 K E):=by
 intro pins σ H s a cls args c s' I os bare x hn q;exact EV I rfl rfl rfl os bare x (λd=>q cls (d,true) hn ⟨rfl,trivial⟩) λs'' z=>z
theorem WZ{dV oc:Da}{od:Option ia}{kV doc pm:Da}{an:Option ia}{cdv ct:Da}{osl:Array (Option Da)}(hf:fd=mj x qual (Jb st) (Eb st) (Ca st) dV kV doc pm an cdv ct)(lk:K.lookup fa=some ⟨oc,od,.func fd,osl⟩)(hcd:gg K cdv qual=true)(S:FnScope N ps (Ca st))(body:∀ (cdv:Da) (A:ye) (outer:List cq) (s:ka) (H:Hp) (E:XK),Room k (A.deeper (zj qual (Ca st) s.heap.objs.size fa cdv))->
   XSs (Xl (HA P w) P w K mg base N qual (Ca st) fa cdv A outer s H E) (F7 K E) (Eb st) g):FnOk P w K mg base (HA P w) (k+1) fa fd ps (spX K ps.length (OC N.length g)):=by
 subst hf;refine AZ lk hcd S (λvs H Q E h=>h.1) λA outer s H vs Q E hr hsp=>?_;obtain⟨hl,W,ds,hw,hd,q⟩:=hsp;refine⟨_,(body cdv A outer s H E hr).h,W,H,W,Hb N.length ds,Qn hw hd,?_⟩;unfold OC at q;cases h:g (Hb N.length ds) with
 |rt d=>rw[h]at q;exact λv H' k hv=>q v H' k hv
 |nx δ=>rw[h]at q;exact λW' H' σ' k st'=>q .non H' st'.fr.ext (by rw[Has])
 |bk δ=>rw[h]at q;exact q.elim
 |ct δ=>rw[h]at q;exact q.elim
 |ex c fs=>rw[h]at q;exact λH' k cls dx hn xf=>q cls dx H' hn k xf
 |stuck=>rw[h]at q;exact q.elim
theorem Sy(F:Fun K x qual st fa fd)(S:FnScope N ps (Ca st))(hm:mg x=some (.ref fa))(hb:Binds K fd ps [])(body:∀ (cdv:Da) (A:ye) (outer:List cq) (s:ka) (H:Hp) (E:XK),Room k (A.deeper (zj qual (Ca st) s.heap.objs.size fa cdv))->
   XSs (Xl (HA P w) P w K mg base N qual (Ca st) fa cdv A outer s H E) (F7 K E) (Eb st) g):FnX P w K mg base (k+1) x ps.length (OC N.length g):=by
 obtain⟨oc,od,kV,doc,pm,an,cdv,ct,osl,hf,lk,hcd⟩:=F.ex;exact⟨fa,fd,ps,WZ hf lk hcd S body,hm,F.kp,hb⟩
def BC:Out->Out
 | .ex _ _=>.stuck
 |o=>o
variable{a e:nc}{xw:XW}{es:List nc}{pos:bh}{sts:List yf}
section
variable {f:Ha->Res D}{ga:Ha->Res Bool}{fs:Ha->Res (List D)}{p:bh}
theorem PS.nox{st:yf}{t:TS}(h:PS X.nox st t):PS X st t:=λpins s σ H D I hw=>
 se (h pins s σ H D (I.wish _) hw) (λ_ _ q=>q.unwish) λ_ _ z=>ud z
theorem PA.nox{t:TA}(h:PA X.nox es t):PA X es t:=λps pins s σ H Q I hw=>
 se (h ps pins s σ H Q (I.wish _) hw) (λ_ _ ⟨v,H',I',r,q⟩=>⟨v,H',I'.unwish,r,q⟩) λ_ _ z=>ud z
def Mg(f:Ha->Res (List D)):Ha->Res (List D):=λδ=>noex (f δ)
def Zi(f:Ha->Res Bool):Ha->Res Bool:=λδ=>noex (f δ)
def Nm(g:Ha->Out):Ha->Out:=λδ=>BC (g δ)
theorem LD(h:XT X.nox Nr e ga):XT X xw e (Zi ga):=⟨PT.weak (PT.nox h.h) λσ H Q ⟨W₀,H₀,W,δ,st,q⟩=>⟨W₀,H₀,W,δ,st,by
 have q:RT xw H (noex (ga δ)) Q:=q;cases hq:ga δ with
 |ok d=>rw[hq]at q;exact q
 |ex c fs=>rw[hq]at q;exact q.elim
 |stuck=>rw[hq]at q;exact q.elim⟩⟩
theorem Kw(h:XA X.nox Nr es fs):XA X xw es (Mg fs):=⟨PA.weak (PA.nox h.h) λσ H Q ⟨W₀,H₀,W,δ,st,q⟩=>⟨W₀,H₀,W,δ,st,by
 have q:RA X.K xw W H (noex (fs δ)) Q:=q;cases hq:fs δ with
 |ok d=>rw[hq]at q;exact q
 |ex c gs=>rw[hq]at q;exact q.elim
 |stuck=>rw[hq]at q;exact q.elim⟩⟩
theorem Ds(h:XS X.nox Nr st g):XS X xw st (Nm g):=⟨PS.weak (PS.nox h.h) λDn σ H ⟨W₀,H₀,W,δ,st,q⟩=>⟨W₀,H₀,W,δ,st,by
 have q:RS X.K xw W₀ H₀ W H (BC (g δ)) Dn:=q;cases hq:g δ with
 |ex c fs=>rw[hq]at q;exact q.elim
 |_=>rw[hq]at q;exact q⟩⟩
def Jg(n:Nat)(m:List D->Res D)(ds:List D):Res D:=if ds.length=n then m ds else .stuck
theorem MY(F:FnX X.prog X.w X.K X.mg X.base k x n m)(hp:WY X xw)(hr:Room k X.A)(ha:XA X xw (a::es) fs)(hg:Gl X x:=by rfl)(hdb:(x==("__debug__":ua))=false:=by decide)(he:Fa (a::es) X.env=(false,eval a X.env)::Fa es X.env:=by rfl)(hpl:(yc pos (Fa es X.env)).any (·.1)=false:=by rfl):
  XE X xw (.Call (.Name x p) (a::es) [] pos) (b1 (Jg n m) fs):=⟨by
 obtain⟨fa,fd,ps,G,hm,hk,hb⟩:=F.ex;refine PE.weak (Kz G hr hg hm hk hb .nil hp ha.h hdb he hpl) λσ H Q ⟨W₀,H₀,W,δ,st,q⟩=>?_;refine Gk st q λH2 ds vs k w st2 hv _ q2=>?_;unfold Jg at q2;split at q2
 .rename_i hn;rw[kg];refine⟨by rw[<-hv.length];exact hn,W,ds,w,hv,?_⟩;cases h:m ds with
  |ok d=>rw[h]at q2;exact q2
  |ex c fs=>rw[h]at q2;exact λcls dx H' hn' k' xf=>⟨c,fs,hn',q2 H' k',xf⟩
  |stuck=>rw[h]at q2;exact q2
 .exact q2.elim⟩
end
abbrev bmV:List Da:= [.type "ValueError",.type "Exception",.type "BaseException",.type "object"]
structure ClsX(K:td)(c:ua):Prop where
 ex:∃ C,je K aa c=some (some (.ref C))/\excIn K C bmV "ValueError.__new__"=true
theorem HU{h:pd}{C:ia}{bb:List Da}{nid:String}(KX:K.In h)(t:excIn K C bb nid=true):
  ∃ bm N nm q bs hdct sn sub ab col dd k0 k1 k2 k3 k5 mN,h.get? C=some (im nm q C N bs bm hdct sn sub ab col dd k0 k1 k2 k3 k5 nid)/\h.Ns N mN/\mN "__init__"=none/\OwnTail h bb bm:=by
 unfold excIn at t;split at t
 .rename_i dct cdat slt lk;split at t
  .rename_i C2 tl z0 z1 z2 z3 nn z5 em es;simp only[Bool.not_eq_true',qf,beq_iff_eq]at t;obtain⟨⟨⟨⟨⟨c1,c2⟩,c3⟩,c4⟩,c5⟩,c6⟩:=t;cases c1;cases c2;obtain⟨n1,n2,n3,n4,n5,n6,n7,n8,n9,n10,n11⟩:=cdat;dsimp only at em c3 c5 c6;subst em c3;obtain⟨ll⟩:=slt;simp only at es;subst es;exact⟨tl,n4,n1,n5,n2,n6,n7,n8,n9,n10,dct,z0,z1,z2,z3,z5,_,KX _ _ lk,.of_isNs (PySem.W.isNs_of_in KX c5),PySem.W.nsMap_none_of_in KX c5 c6,dv KX c4⟩
  .cases t
 .cases t
def Pz(c:ua)(fs:Ha->Res (List D)):Ha->Out:=λδ=>Pm (fs δ) λds=>if ds.length=1 then .ex c [] else .stuck
variable{np cpos:bh}
section
variable {fs:Ha->Res (List D)}{c:ua}
theorem WX(hc:ClsX X.K c)(hx:NM X xw)(hcalm:X.calm=true)(ha:XA X xw (a::es) fs)(hg:Gl X c:=by rfl)(hdb:(c==("__debug__":ua))=false:=by decide)(he:Fa (a::es) X.env=(false,eval a X.env)::Fa es X.env:=by rfl)(hpl:(yc cpos (Fa es X.env)).any (·.1)=false:=by rfl):
  XS X xw (.Raise (some (.Call (.Name c np) (a::es) [] cpos)) none pos) (Pz c fs):=⟨by
 obtain⟨C,hn,hq⟩:=hc.ex;intro pins s σ H Dn I ⟨W₀,H₀,W,δ,st,q⟩
 have rd:B7 X.K xw fs σ H (λvs H1=>vs.length<=sizeLine/\xw c [] H1):=by
  refine⟨W₀,H₀,W,δ,st,?_⟩;unfold Pz at q;cases hf:fs δ with
  |stuck=>rw[hf]at q;exact q
  |ex c' fs'=>rw[hf]at q;exact λH2 k2=>q H2 (st.fr.ext.trans k2)
  |ok ds=>
   rw[hf]at q
   have q':RS X.K xw W₀ H₀ W H (if ds.length=1 then .ex c [] else .stuck) Dn:=q;split at q'
   .rename_i hd;exact λvs H2 k2 hv=>⟨by rw[<-hv.length,hd,qe];omega,q' H2 (st.fr.ext.trans k2)⟩
   .exact q'.elim
 obtain⟨bm,N,nm,qn,bs,hdct,sn,sub,ab,col,dd,k0,k1,k2,k3,k5,mN,hC,hN,hni,T⟩:=HU I.ok.mod.kin hq
 refine wpAny_Raise_call_subT (C:=C) (nm:=nm) (q:=qn) (N:=N) (bs:=bs) (bm:=bm) (hdct:=hdct) (sn:=sn) (sub:=sub) (ab:=ab) (col:=col) (dd:=dd) (k0:=k0) (k1:=k1) (k2:=k2) (k3:=k3) (k5:=k5)
  F.excBase_ValueError (mN:=mN) (T.hasType F.excBase_ValueError.hasBase) (I.ok.hd hcalm) (by rw[he];show(false||(yc cpos (Fa es X.env)).any (·.1))=false;rw[hpl];rfl) hni (Bk I hg (lf I.ok.mod.kin I.ok.mod.glob hn) ⟨rfl,?_⟩ hdb)
 have hp:=ha.h cpos pins s σ H _ I rd;rw[he]at hp ⊢
 refine xp (se hp (λus s2 ⟨vs,H1,I1,r,hl,q1⟩=>?_) λ_ _ y=>y)
 exact⟨rfl,by show us.length<=_;rw[<-r.length];exact hl,I1.bk _ _ hC,hN.keeps I1.bk,T.keeps I1.bk,λh' e hm=>hx pins σ H1 s2 e (.ref C) us c {s2 with heap:=h'} I1 rfl I1.bare hm hn q1⟩⟩
end
abbrev markX(X:Cx)(a:ia):Cx:= {X with A:=X.A.mark (some (.ref a)),calm:=false,xe:=λ_ _=>False}
abbrev YF(X:Cx)(pins:List (ia×mh))(E:Da->ka->Prop):Cx:= {X with pn:=X.pn++pins,xe:=E}
variable{n:ua}{i:Nat}
section
variable {a:ia}
theorem JW(ok:X.Ok)(a:ia):(markX X a).Ok:=
 ⟨ok.mod,ok.kind,ok.glob,ok.blt,ok.above,ok.inj,ok.has,ok.cab,λz=>absurd (show false=true from z) (by decide),ok.frames,ok.stk,ok.exf,ok.bs,ok.bsz,ok.noex,ok.exfs,ok.funs,ok.frf⟩
theorem PB(I:Inv X pins σ H s)(a:ia):Inv (markX X a) pins σ H s:=⟨JW I.ok a,I.os,I.bare,I.base,I.loc,I.cell,I.free,I.freeC,I.pin,I.hok,I.len⟩
theorem Ol(ok:X.Ok)(I:Inv (markX X a) pins σ H s):Inv X pins σ H s:=⟨ok,I.os,I.bare,I.base,I.loc,I.cell,I.free,I.freeC,I.pin,I.hok,I.len⟩
theorem D4(ok:X.Ok):(YF X pins Ex).Ok:=
 ⟨ok.mod,ok.kind,ok.glob,ok.blt,ok.above,ok.inj,ok.has,ok.cab,ok.hd,ok.frames,ok.stk,ok.exf,ok.bs,ok.bsz,ok.noex,ok.exfs,ok.funs,ok.frf⟩
theorem PV(I:Inv X pins σ H s):Inv (YF X pins Ex) [] σ H s:=⟨D4 I.ok,I.os,I.bare,I.base,I.loc,I.cell,I.free,I.freeC,λp hp=>I.pin p (by simpa using hp),I.hok,I.len⟩
theorem Vk{more:List (ia×mh)}(ok:X.Ok)(I:Inv (YF X pins Ex) more σ H s):Inv X pins σ H s:=⟨ok,I.os,I.bare,I.base,I.loc,I.cell,I.free,I.freeC,λp hp=>I.pin p (qp _ hp),I.hok,I.len⟩
theorem Gx{φ:pd->Prop}(I:Inv X pins σ H s)(I':Inv X pins σ H' s')(hex:X.ex= [])(new:s.heap.get? a=none)(nh:H' a=none)(x:ObjOk X.prog X.w (Lb H' a (.ext φ)) s'.heap a (.ext φ)):Inv X pins σ (Lb H' a (.ext φ)) s':=by
 have ne:∀ b o,s.heap.get? b=some o->b≠a:=λb o e z=>by rw[z,new]at e;cases e
 have ne0:∀ b o,X.s₀.heap.get? b=some o->b≠a:=λb o e=>by
  obtain⟨o',e'⟩:=I.base.there b o e (by rw[hex];simp);exact ne b o' e'
 have up:∀ b o,H' b=some o->Lb H' a (.ext φ) b=some o:=λb o e=>by rw[Ea (Sa e nh)];exact e
 refine⟨I'.ok,I'.os,I'.bare,⟨I'.base.keep,I'.base.slot,λb o e n hx=>?_,I'.base.there,λb xs e=>up _ _ (I'.base.tups b xs e),λb o u e=>up _ _ (I'.base.frzs b o u e),λb ps e=>?_⟩,I'.loc,I'.cell,?_,λy c e=>?_,λp hp=>?_,λb u e=>?_,I'.len⟩
 .rw[Ea (ne0 b o e)];exact I'.base.free b o e n hx
 .obtain⟨m,e1⟩:=I'.base.tbls b ps e;exact⟨m,up _ _ e1⟩
 .obtain⟨m,⟨o,_,_,ho,_⟩,_⟩:=I.loc;rw[Ea (ne _ o ho)];exact I'.free
 .obtain⟨v,o,ho,_⟩:=I.cell y c e;rw[Ea (ne c o ho)];exact I'.freeC y c e
 .obtain⟨e,n,r⟩:=I'.pin p hp;refine⟨e,?_,r⟩;rw[Ea (ne p.1 _ (I.pin p hp).1)];exact n
 .by_cases hb:b=a
  .subst hb;rw[Ta]at e
   cases e;exact x
  .rw[Ea hb]at e
   exact(I'.hok b u e).stay (λ_ _ _ q=>q) (λc q=>up _ _ q) λc xs q=>up _ _ q
theorem FK{t:Nat}{v:Option Da}{m:ua->Option Da}(I:Inv X pins σ H s)(hN:X.N.Nodup)(hi:X.N[i]? =some n)(hm:s.heap.Ns X.env.locals m)(hl:∀ (j:Nat) (x:ua) (w:V),X.N[j]? =some x->σ[j]? =some (some w)->Jw X.env.scope x->∃ u,RelV w u/\Look X.env s.heap m x u)(hn:h'.Ns X.env.locals (λx=>if x=n then v else m x))(hs:tm X.env.locals s.heap h'):Inv X pins (σ.set i none) H {s with heap:=h',toks:=t}:=by
 obtain⟨oL,_,_,hoL,_⟩:=id hm;have cne:=I.cne;refine⟨I.ok,I.os,I.bare,⟨λb o e n hb hx=>?_,λb o e n hb hx=>?_,I.base.free,λb o e hx=>?_,I.base.tups,I.base.frzs,I.base.tbls⟩,⟨_,hn,λj y w e1 e2 e3=>?_⟩,λy c e=>?_,I.free,I.freeC,λp hp=>?_,λb u e=>?_,by simpa using I.len⟩
 .exact(hs.2 b (ag (bd (sd e) I.ok.above))).trans (I.base.keep b o e n hb hx)
 .obtain⟨sl,e1⟩:=I.base.slot b o e n hb hx;exact⟨sl,(hs.2 b (ag (bd (sd e) I.ok.above))).trans e1⟩
 .obtain⟨o',e1⟩:=I.base.there b o e hx;exact⟨o',(hs.2 b (ag (bd (sd e) I.ok.above))).trans e1⟩
 .have hj:j≠i:=by
   rintro rfl;rw[bi]at e2
   cases q:σ[j]? with
   |none=>rw[q]at e2;cases e2
   |some z=>rw[q]at e2;cases e2
  rw[zc (jg hj)]at e2
  obtain⟨u,r,q⟩:=hl j y w e1 e2 e3;refine⟨u,r,?_⟩;rcases q with⟨k,e⟩|⟨k,c,e,z⟩
  .have:y≠n:=λe=>hj (Qu hN e1 (e▸hi));exact .inl ⟨k,by simp[this,e]⟩
  .exact .inr ⟨k,c,e,z.sameBut hs (cne y c e)⟩
 .obtain⟨w,z⟩:=I.cell y c e;exact⟨w,z.sameBut hs (cne y c e)⟩
 .obtain⟨e,n,ne,nf,d⟩:=I.pin p hp;exact⟨(hs.2 p.1 ne).trans e,n,ne,nf,d⟩
 .refine(I.hok b u e).stay (λc w' hc q=>(hs.2 c ?_).trans q) (λ_ q=>q) λ_ _ q=>q;rintro rfl;rcases hc with rfl|hc
  .rw[I.free]at e;cases e
  .rw[I.free]at hc;cases hc
theorem Dt(I:Inv X pins σ H s)(hN:X.N.Nodup)(hi:X.N[i]? =some n)(hk:X.env.kindOf n=some .local)(h:∀ s',Inv X pins (σ.set i none) H s'->Q () s'):cb M A (do bindName X.env n .none;unbindBehindTheSuite X.env n pos) Q Ex s:=by
 obtain⟨m,hm,hl⟩:=id I.loc;have hp:(X.env.scope.kind== .class||(X.env.scope.kind== .module&&X.env.locals != X.env.globals))=false:=by rw[I.ok.kind];rfl
 exact wpAny_nameGoes_keeps hk hm hp λh' v hn hs=>h _ (FK I hN hi hm hl hn hs)
end
structure MatchX(K:td)(C c:ua):Prop where
 ex:∃ vc vC,je K aa c=some (some vc)/\je K aa C=some (some vC)/\exmOne K vc vC=some true
variable{C:ua}{b₀:yf}{suite:List yf}
section
variable {a:ia}{vC:Da}{rest:List xk}{Q:Flow->ka->Prop}
theorem Tr{R:iq->ka->Prop}(I:Inv X pins σ H s)(hst:X.stack=X.env::X.outer)(hfr:X.env.frame=some X.env.locals)(os:s'.os=s.os)(bare:gj s'.gens)(x:Fly X.prog X.w X.stack H s H' a cls dx s'.heap)(hC:Gl X C)(hm:je X.K aa C=some (some vC))(he:exmOne X.K cls vC=some true)(hdb:(C==("__debug__":ua))=false)(k:∀ h',Fly X.prog X.w X.stack H s H' a cls dx h'->R (.ok .brk) {s' with heap:=h'}):
  kj (jb X.prog X.w) (X.A.mark (some (.ref a))) (.handlers (.ref a) [.ExceptHandler (some (.Name C np)) none [] pos] X.env) R s':=by
 have I':=PB (Hn I os bare x) a;refine codeAny_handlers_test (Bk I' hC (lf I.ok.mod.kin I.ok.mod.glob hm) ?_ hdb);obtain⟨B,a0,f,cov⟩:=x.fl;obtain⟨ob,hob,hc⟩:=f.there
 have LT:PySem.W.Looks (jb X.prog X.w) s'.heap (typeOf (.ref a)) cls:=by
  subst hc;exact(PySem.W.Looks.ld hob).andThen .now
 exact(PySem.W.exm_one I'.kIn LT he).here (k s'.heap x)
theorem Bu(x:Fly X.prog X.w X.stack H s H' a cls dx s'.heap)(f:wn B X.stack a cls a0 s'.heap)(cov:∀ b,b∉Ff X.stack->((H' b).isSome=true\/(s.heap.get? b).isSome=true)->(B.get? b).isSome=true)(f':wn B X.stack a cls a0 h')(up:s'.heap.UpToSlots h')(dk:DK s'.heap h'):Fly X.prog X.w X.stack H s H' a cls dx h':=
 ⟨Y1 x.un cov f f'.1 up,IH x.hok x.frf cov f.1 f'.1,x.frf,x.new,x.nh,(let ⟨o,e,d⟩:=x.dc;let ⟨o',e',d'⟩:=dk a o e;⟨o',e',d.to d'⟩),B,a0,f',cov⟩
theorem Sr{hs:List xk}(I:Inv X pins σ H s)(hst:X.stack=X.env::X.outer)(hfr:X.env.frame=some X.env.locals)(x:Fly X.prog X.w X.stack H s H' a cls dx s'.heap)(k:∀ h',Fly X.prog X.w X.stack H s H' a cls dx h'->cb (jb X.prog X.w) X.A (sr (.ref a) X.env hs) Q Ex {s' with heap:=h'}):
  cb (jb X.prog X.w) X.A (ck (.ref a) X.env) (λ_ s₂=>cb (jb X.prog X.w) X.A (vk (.ref a) none) (λ_ s₃=>cb (jb X.prog X.w) X.A (sr (.ref a) X.env hs) Q Ex s₃) Ex s₂) Ex s':=by
 obtain⟨B,a0,f,cov⟩:=x.fl;have f2:wn B (X.env::X.outer) a cls a0 s'.heap:=by rw[<-hst];exact f
 refine(Az (.ref a) X.env).thn (Q:=λ_ s4=>∃ h₄,s4= {s' with heap:=h₄}/\Heap.HeldW B (X.env::X.outer) a cls a0 X.env.locals h₄/\s'.heap.UpToSlots h₄) (wpAny_looks_onW (by rw[<-hst];exact I.ok.frames) hfr f2 λh₄ held up₄=>⟨h₄,rfl,held,up₄⟩) λ_ s4 ⟨h₄,e4,held,up₄⟩ dk4=>?_;subst e4;refine(Wk (.ref a) none).thn (Q:=λ_ s5=>∃ h₅,s5= {s' with heap:=h₅}/\wn B (X.env::X.outer) a cls a0 h₅/\h₄.UpToSlots h₅) (wpAny_landsW held λh₅ f₅ up₅=>⟨h₅,rfl,f₅,up₅⟩) λ_ s5 ⟨h₅,e5,f₅,up₅⟩ dk5=>?_;subst e5;exact k h₅ (Bu x f cov (by rw[hst];exact f₅) (up₄.trans up₅) (dk4.trans dk5))
theorem VN{H:Hp}{h:pd}(x:ExcAt a cls dx h):ObjOk P w H h a (.ext (ExcAt a cls dx)):=by
 obtain⟨o,vs,e,hc,hx,hd,hz⟩:=x;exact⟨⟨o,vs,e,hc,hx,hd,hz⟩,⟨o,e⟩,λh1 h2 ⟨o1,vs1,e1,hc1,hx1,hd1⟩ k=>⟨o1,vs1,k _ e1,hc1,hx1,hd1⟩⟩
theorem GH{h:pd}(x:Fly X.prog X.w X.stack H s H' a cls dx h):ExcAt a cls dx h:=by
 obtain⟨B,a0,f,cov⟩:=x.fl;obtain⟨oe,vs,he,hc,hd,_⟩:=f.first;obtain⟨od,ed,dd⟩:=x.dc;rw[he]at ed
 cases ed
 exact⟨oe,vs,he,hc,dd.1,hd,λz=>by
  obtain⟨vs',e',q⟩:=dd.2 z;rw[hd]at e';cases e'
  exact q⟩
theorem MJ{D:Ends}{t:TS}(I:Inv X pins σ H s)(hex:X.ex= [])(hst:X.stack=X.env::X.outer)(hfr:X.env.frame=some X.env.locals)(os:s'.os=s.os)(bare:gj s'.gens)(x:Fly X.prog X.w X.stack H s H' a cls dx s'.heap)(hC:Gl X C)(hm:je X.K aa C=some (some vC))(he:exmOne X.K cls vC=some true)(hdb:(C==("__debug__":ua))=false)(hN:X.N.Nodup)(hi:X.N[i]? =some n)(hk:X.env.kindOf n=some .local)(hsu:∀ a,PSs (markX X a) (b₀::suite) t)(ht:t {nx:=λσ' H'=>D.nx (σ'.set i none) H',rt:=D.rt,bk:=λσ' H'=>D.bk (σ'.set i none) H',ct:=λσ' H'=>D.ct (σ'.set i none) H'} (σ.set i (some (.ref a))) (Lb H' a (.ext (ExcAt a cls dx)))):
  cb (jb X.prog X.w) X.A (ck (.ref a) X.env) (λ_ s₂=>cb (jb X.prog X.w) X.A (vk (.ref a) none) (λ_ s₃=>
   cb (jb X.prog X.w) X.A (sr (.ref a) X.env (.ExceptHandler (some (.Name C np)) (some n) (b₀::suite) pos::rest)) (SP X pins D) Ex s₃) Ex s₂) Ex s':=by
 refine Sr I hst hfr x λh5 x5=>?_;refine wpAny_handleBy_cons (Tr (s':= {s' with heap:=h5}) I hst hfr os bare x5 hC hm he hdb λh6 x6=>codeAny_handlers_suite_as ?_) (by intro q;cases q);obtain⟨B,a0,f,cov⟩:=x6.fl;refine(Wk (.ref a) none).thn (Q:=λ_ s7=>∃ h7,s7= {s' with heap:=h7}/\wn B X.stack a cls a0 h7/\h6.UpToSlots h7) (lands_againW f λh7 f7 up7=>⟨h7,rfl,f7,up7⟩) λ_ s7 ⟨h7,e7,f7,up7⟩ dk7=>?_;subst e7;have x7:=Bu (s':= {s' with heap:=h6}) x6 f cov f7 up7 dk7;have I7:Inv X pins σ H' {s' with heap:=h7}:=Hn (s':= {s' with heap:=h7}) I os bare x7;have I8:=Gx I I7 hex x7.new x7.nh (VN (GH x7));have hloc:Loc X.env.scope n:=.inl hk;refine Mv I8 hN hi hloc (v:=.ref a) rfl (λs8 I9=>?_) (.inr hk);refine se (hsu a pins _ _ _ _ (PB I9 a) ht) (λfl s9 q=>?_) λ_ _ z=>ud z;cases fl with
 |next=>obtain⟨σ',H9,J,q⟩:=q;exact Dt (Ol I.ok J) hN hi hk λs10 K=>⟨_,H9,K,q⟩
 |brk=>obtain⟨σ',H9,J,q⟩:=q;exact Dt (Ol I.ok J) hN hi hk λs10 K=>⟨_,H9,K,q⟩
 |cont=>obtain⟨σ',H9,J,q⟩:=q;exact Dt (Ol I.ok J) hN hi hk λs10 K=>⟨_,H9,K,q⟩
 |ret u=>obtain⟨v,σ',H9,J,r,q⟩:=q;exact Dt (Ol I.ok J) hN hi hk λs10 K=>⟨v,_,H9,K,r,q⟩
end
section
variable {CX:Yx}{sp:Sp}{dvs:List V}{ds:List Da}{E:L2.St->XK}{p:bh}{t:TA}
theorem MQ(F:FnOk X.prog X.w X.K X.mg X.base CX k f fd ps sp)(hr:Room k X.A)(hg:Gl X x)(hm:X.mg x=some (.ref f))(hk:kf X.K (.ref f)=true)(hb:Binds X.K fd ps ds)(hd:Vals dvs ds)(hx:∀ (pins:List (ia×mh)) (σ:L2.St) (H:Hp) (s:ka) (e:Da) (s':ka),Inv X pins σ H s->CX X.stack H s (E σ) e s'->X.xe e s')(ha:PA X (e::es) t)(hdb:(x==("__debug__":ua))=false)(he:Fa (e::es) X.env=(false,eval e X.env)::Fa es X.env)(hpl:(yc pos (Fa es X.env)).any (·.1)=false):
  PE X (.Call (.Name x p) (e::es) [] pos) (λσ H Q=>t σ H λvs H1=>sp (vs++dvs) H1 Q (E σ)):=by
 intro pins s σ H Q I h;refine jh (Bk I hg hm ?_ hdb);refine callWith_K (h₀:=X.base) I.ok.mod.kin hk (thn (ha pos pins s σ H _ I h) λus s1 ⟨vs,H1,I1,r,q⟩=>⟨I1.kIn,?_⟩) he hpl;have r2:Vals (vs++dvs) (us++ds):=r.append hd;have hl:(us++ds).length=ps.length:=by rw[<-r2.length];exact F.len _ _ _ _ q
 refine xl (ii (F.run X.A X.stack s1 H1 ⟨us,[]⟩ (us++ds) (vs++dvs) Q (E σ) hr I1.env0 (hb s1 us I1.kIn hl) r2 q) λr s' hq=>?_);cases r with
 |error e=>exact hx pins σ H1 s1 e s' I1 hq
 |ok fl=>
  cases fl with
  |ret u=>exact I1.after hq
  |next=>exact ud hq
  |brk=>exact ud hq
  |cont=>exact ud hq
theorem P4(h:PA X.nox es t):PA (YF X pins Ex) es t:=λq more s σ H Q I hw=>by
 have ok:X.Ok:=⟨I.ok.mod,I.ok.kind,I.ok.glob,I.ok.blt,I.ok.above,I.ok.inj,I.ok.has,I.ok.cab,I.ok.hd,I.ok.frames,I.ok.stk,I.ok.exf,I.ok.bs,I.ok.bsz,I.ok.noex,I.ok.exfs,I.ok.funs,I.ok.frf⟩
 have I':Inv X.nox (pins++more) σ H s:=⟨ok.wish _,I.os,I.bare,I.base,I.loc,I.cell,I.free,I.freeC,λz hz=>I.pin z (by show z∈(X.pn++pins)++more;rw[xg];exact hz),I.hok,I.len⟩
 refine se (h q _ s σ H Q I' hw) (λus s1 ⟨v,H',J,r,z⟩=>⟨v,H',?_,r,z⟩) λ_ _ z=>ud z;exact⟨I.ok,J.os,J.bare,J.base,J.loc,J.cell,J.free,J.freeC,λz hz=>J.pin z (by show z∈X.pn++(pins++more);rw[<-xg];exact hz),J.hok,J.len⟩
end
structure KindX(X:Cx)(e:nc)(st:yf)(gK:D->Ha->Out):Prop where
 ex:∃ cont:Ends->L2.St->VK,(∀ (pins:List (ia×mh)) (Ex:Da->ka->Prop) (te:TE),PE (YF X pins Ex) e te->PS (YF X pins Ex) st (λDn σ H=>te σ H (cont Dn σ)))/\
  ∀ (xw:XW) (W₀:WS) (H₀:Hp) (W:WS) (H:Hp) (d:D) (v:V) (σ:L2.St) (δ:Ha) (Dn:Ends),StHas X.K W₀ H₀ W H σ δ->Has X.K W H d v->RS X.K xw W₀ H₀ W H (gK d δ) Dn->cont Dn σ v H
theorem SV(hs:ki e none pos.line X.env=pure false:=by rfl):KindX X e (.Expr e pos) (λ_ δ=>.nx δ):=
 ⟨λDn σ _ H=>Dn.nx σ H,λpins Ex te h=>Dq h hs,λxw W₀ H₀ W H d v σ δ Dn st hv q=>q W H σ Step.refl st⟩
theorem K3:KindX X e (.Return (some e) pos) (λd _=>.rt d):=
 ⟨λDn _ v H=>Dn.rt v H,λpins Ex te h=>GF h,λxw W₀ H₀ W H d v σ δ Dn st hv q=>q v H st.fr.ext (Has.keep (λ_ _ e _=>e) st.fr.wl (λb z=>.inl (st.fr.sub b z)) hv)⟩
def N6(i:Nat):Out->Out
 | .nx δ=>.nx (δ.set i none)
 | .bk δ=>.bk (δ.set i none)
 | .ct δ=>.ct (δ.set i none)
 | .rt d=>.rt d
 |_=>.stuck
def Dr(cs:List ua)(f:Ha->Res D)(gK:D->Ha->Out)(go:Ha->Out)(gs:ua->List D->Ha->Out):Ha->Out:=λδ=>match f δ with
 | .ok d=>Bp (gK d δ) go
 | .ex c fs=>if c∈cs then gs c fs δ else .stuck
 | .stuck=>.stuck
theorem StHas.unset{W₀ W:WS}{δ:Ha}(h:StHas K W₀ H₀ W H σ δ)(i:Nat):StHas K W₀ H₀ W H (σ.set i none) (δ.set i none):=by
 have ne:∀ (j:Nat) (t:S),(δ.set i none)[j]? =some (some t)->i≠j/\δ[j]? =some (some t):=λj t e=>by
  have hj:i≠j:=by
   rintro rfl;rw[bi]at e
   cases q:δ[i]? with
   |none=>rw[q]at e;cases e
   |some z=>rw[q]at e;cases e
  rw[zc hj]at e
  exact⟨hj,e⟩
 refine⟨h.fr,by simp[h.len],λj s e=>?_,λj l s1 s2 u u' a hjl e1 e2 e3 e4 os ot=>?_⟩
 .obtain⟨hj,e'⟩:=ne j s e;rw[zc hj];exact h.at' j s e'
 .obtain⟨hj,g1⟩:=ne j s1 e1;obtain⟨hl,g2⟩:=ne l s2 e2;rw[zc hj]at e3
  rw[zc hl]at e4
  exact h.ap j l s1 s2 u u' a hjl g1 g2 e3 e4 os ot
variable{hpos tpos:bh}{orelse:List yf}{nn:Nat}{gK:D->Ha->Out}{go gsu:Ha->Out}
section
variable {fs:Ha->Res (List D)}{p:bh}
def Qb0(X:Cx)(orelse:List yf)(pins:List (ia×mh))(Dn:Ends):Flow->ka->Prop:=λf s₁=>match f with| .next=>cb (jb X.prog X.w) X.A (execs orelse X.env) (SP X pins Dn) X.xe s₁|f=>SP X pins Dn f s₁
def S7(X:Cx)(hd:xk)(pins:List (ia×mh))(Dn:Ends):Da->ka->Prop:=λe s₁=>cb (jb X.prog X.w) X.A (ck e X.env) (λ_ s₂=>cb (jb X.prog X.w) X.A (vk e none) (λ_ s₃=>cb (jb X.prog X.w) X.A (sr e X.env [hd]) (SP X pins Dn) X.xe s₃) X.xe s₂) X.xe s₁
def YY(X:Cx)(hd:xk)(orelse:List yf)(pins:List (ia×mh))(Dn:Ends)(sts:List yf)(s:ka):Prop:=cb (jb X.prog X.w) X.A (execs sts X.env) (Qb0 X orelse pins Dn) (S7 X hd pins Dn) s
structure XB(X:Cx)(xw:XW)(hd:xk)(orelse sts:List yf)(g:Ha->Out):Prop where
 h:∀ (pins:List (ia×mh)) (s:ka) (σ:L2.St) (H:Hp) (Dn:Ends),Inv X pins σ H s->QT X.K xw g Dn σ H->YY X hd orelse pins Dn sts s
theorem XB.try{hd:xk}(h:XB X xw hd orelse sts g):XS X xw (.Try sts [hd] orelse [] tpos) g:=⟨λpins s σ H Dn I q=>wpAny_Try_except (h.h pins s σ H Dn I q)⟩
theorem KD{hd:xk}{vs0:List V}{ds0:List Da}{d0:List D}{gs:ua->List D->Ha->Out}(cs:List ua)(G:FnOk X.prog X.w X.K X.mg X.base (HA X.prog X.w) k fa fd ps (spX X.K nn m))(hm:X.mg x=some (.ref fa))(hk:kf X.K (.ref fa)=true)(hb:Binds X.K fd ps ds0)(hd0:Vals vs0 ds0)(h0:∀ W H,HasL X.K W H d0 vs0)(hr:Room k X.A)(ha:XA X.nox Nr (a::es) fs)(kd:KindX X (.Call (.Name x p) (a::es) [] cpos) st gK)(hor:XSs X xw orelse go)(hcat:∀ (pins:List (ia×mh)) (σ:L2.St) (H H0 H':Hp) (s s':ka) (ar:ia) (cls:Da) (dx:Dx) (c:ua) (fs:List D) (W₀:WS) (H₀:Hp) (W:WS) (δ:Ha) (Dn:Ends),Inv X pins σ H s->s'.os=s.os->gj s'.gens->Fly X.prog X.w X.stack H s H' ar cls dx s'.heap->ExF H' dx fs->
   je X.K aa c=some (some cls)->c∈cs->StHas X.K W₀ H₀ W H0 σ δ->Same H0 H'->RS X.K xw W₀ H₀ W H0 (gs c fs δ) Dn->
   cb (jb X.prog X.w) X.A (ck (.ref ar) X.env) (λ_ s₂=>cb (jb X.prog X.w) X.A (vk (.ref ar) none) (λ_ s₃=>
    cb (jb X.prog X.w) X.A (sr (.ref ar) X.env [hd]) (SP X pins Dn) X.xe s₃) X.xe s₂) X.xe s')(hg:Gl X x)(hdb:(x==("__debug__":ua))=false)(he:Fa (a::es) X.env=(false,eval a X.env)::Fa es X.env)(hpl:(yc cpos (Fa es X.env)).any (·.1)=false):
  XB X xw hd orelse [st] (Dr cs (λδ=>(noex (fs δ)).bind λds=>Jg nn m (ds++d0)) gK go gs):=⟨by
 intro pins s σ H Dn I ⟨W₀,H₀,W,δ,sth,q⟩;obtain⟨cont,kp,kr⟩:=kd.ex;unfold YY S7;generalize hEx:(λ(e:Da) (s₁:ka)=>cb (jb X.prog X.w) X.A (ck e X.env) (λ_ s₂=>cb (jb X.prog X.w) X.A (vk e none) (λ_ s₃=>cb (jb X.prog X.w) X.A (sr e X.env [hd]) (SP X pins Dn) X.xe s₃) X.xe s₂) X.xe s₁)=Ex;have D1nx:∀ σ' H',QT X.K xw go Dn σ' H'->∀ s',Inv X pins σ' H' s'->cb (jb X.prog X.w) X.A (execs orelse X.env) (SP X pins Dn) X.xe s':=λσ' H' h s' J=>hor.h pins s' σ' H' Dn J h
 have pe:=MQ (X:=YF X pins Ex) (p:=p) (pos:=cpos) (E:=λσ' cls dx H'=>σ'=σ/\Same H H'/\∃ c fs',je X.K aa c=some (some cls)/\((noex (fs δ)).bind λds=>Jg nn m (ds++d0))=.ex c fs'/\ExF H' dx fs') G hr hg hm hk hb hd0 (λmore σ' H1 s1 e s' J h=>by
  obtain⟨ar,cls,dx,H',rfl,os,bare,fl,rfl,sm,c,fs',hn,hf,xf⟩:=h;have J':=Vk I.ok J;show Ex (.ref ar) s';subst hEx;unfold Dr at q;dsimp only at q;rw[hf]at q
  have q':RS X.K xw W₀ H₀ W H (if c∈cs then gs c fs' δ else .stuck) Dn:=q;split at q'
  .rename_i hc;exact hcat pins σ' H1 H H' s1 s' ar cls dx c fs' W₀ H₀ W δ Dn J' os bare fl xf hn hc sth sm q'
  .exact q'.elim) (P4 ha.h) hdb he hpl
 refine se (Lz (kp pins Ex _ pe) [] s σ H {nx:=QT X.K xw go Dn,rt:=Dn.rt,bk:=Dn.bk,ct:=Dn.ct} (PV I) ?_) (λfl s1 h1=>?_) λe s1 h1=>h1
 .refine⟨W₀,H₀,W,δ,sth,?_⟩;unfold Dr at q;dsimp only at q;cases hf:fs δ with
  |stuck=>rw[hf]at q;exact q
  |ex c gs'=>rw[hf]at q;exact ud q
  |ok ds=>
   rw[hf]at q
   intro vs H1 k1 hv;have hv':HasL X.K W H1 (ds++d0) (vs++vs0):=hv.append (h0 W H1);have q1:RS X.K xw W₀ H₀ W H (match Jg nn m (ds++d0) with| .ok d=>Bp (gK d δ) go| .ex c fs=>if c∈cs then gs c fs δ else .stuck| .stuck=>.stuck) Dn:=q;have ec:((noex (Res.ok ds)).bind λds=>Jg nn m (ds++d0))=Jg nn m (ds++d0):=rfl;by_cases hl:(ds++d0).length=nn
   .have em:Jg nn m (ds++d0)=m (ds++d0):=if_pos hl;rw[em]at q1
    refine⟨by rw[<-hv'.length];exact hl,W,ds++d0,sth.fr.wl.same k1,hv',?_⟩;cases h:m (ds++d0) with
    |ok d=>
     rw[h]at q1
     intro v H2 k2 hd2;refine kr xw W₀ H₀ W H2 d v σ δ _ (sth.same (k1.trans k2)) hd2 ?_;have q2:RS X.K xw W₀ H₀ W H (Bp (gK d δ) go) Dn:=q1;have q3:=RS.step q2 (Step.same (W:=W) (k1.trans k2));cases hgk:gK d δ with
     |nx δ'=>
      rw[hgk]at q3
      exact λW' H' σ' kk st'=>⟨W₀,H₀,W',δ',st',RS.step (o:=go δ') q3 kk⟩
     |bk δ'=>rw[hgk]at q3;exact q3
     |ct δ'=>rw[hgk]at q3;exact q3
     |rt d'=>rw[hgk]at q3;exact q3
     |ex c' fs'=>rw[hgk]at q3;exact q3
     |stuck=>rw[hgk]at q3;exact q3
    |ex c fs'=>
     exact λcls dx H2 hn k2 xf=>⟨rfl,k1.trans k2,c,fs',hn,by rw[ec,em,h],xf⟩
    |stuck=>rw[h]at q1;exact q1
   .have em:Jg nn m (ds++d0)=.stuck:=if_neg hl;rw[em]at q1
    exact q1.elim
 .cases fl with
  |next=>obtain⟨σ',H',J,z⟩:=h1;exact D1nx σ' H' z s1 (Vk I.ok J)
  |brk=>obtain⟨σ',H',J,z⟩:=h1;exact⟨σ',H',Vk I.ok J,z⟩
  |cont=>obtain⟨σ',H',J,z⟩:=h1;exact⟨σ',H',Vk I.ok J,z⟩
  |ret u=>obtain⟨v,σ',H',J,r,z⟩:=h1;exact⟨v,σ',H',Vk I.ok J,r,z⟩⟩
end
def Jr(fs:Ha->Res (List D))(nn:Nat)(m:List D->Res D)(d0:List D):Ha->Res D:=λδ=>(noex (fs δ)).bind λds=>Jg nn m (ds++d0)
def KO(i:Nat)(gsu:Ha->Out):ua->List D->Ha->Out:=λc fs δ=>N6 i (gsu (δ.set i (some (.d (.exc c fs)))))
section
variable {fs:Ha->Res (List D)}{p:bh}
theorem YZ(i:Nat)(cs:List ua)(hcs:∀ c∈cs,MatchX X.K C c)(hex:X.ex= [])(hst:X.stack=X.env::X.outer)(hfr:X.env.frame=some X.env.locals)(hN:X.N.Nodup)(hi:X.N[i]? =some n)(hk:X.env.kindOf n=some .local)(hgC:Gl X C)(hdC:(C==("__debug__":ua))=false)(hsu:∀ a,XSs (markX X a) Nr (b₀::suite) gsu)(pins:List (ia×mh))(σ:L2.St)(H H0 H':Hp)(s s':ka)(ar:ia)(cls:Da)(dx:Dx)(c:ua)(xs:List D)(W₀:WS)(H₀:Hp)(W:WS)(δ:Ha)(Dn:Ends)(I:Inv X pins σ H s)(os:s'.os=s.os)(bare:gj s'.gens)(fl:Fly X.prog X.w X.stack H s H' ar cls dx s'.heap)(xf:ExF H' dx xs)(hn:je X.K aa c=some (some cls))(hc:c∈cs)(sth:StHas X.K W₀ H₀ W H0 σ δ)(sm:Same H0 H')(q:RS X.K xw W₀ H₀ W H0 (KO i gsu c xs δ) Dn):
  cb (jb X.prog X.w) X.A (ck (.ref ar) X.env) (λ_ s₂=>cb (jb X.prog X.w) X.A (vk (.ref ar) none) (λ_ s₃=>
   cb (jb X.prog X.w) X.A (sr (.ref ar) X.env [.ExceptHandler (some (.Name C np)) (some n) (b₀::suite) hpos]) (SP X pins Dn) X.xe s₃) X.xe s₂) X.xe s':=by
 obtain⟨vc,vC,e1,e2,e3⟩:=(hcs c hc).ex;rw[hn]at e1
 cases e1;have k2:Same H0 (Lb H' ar (.ext (ExcAt ar cls dx))):=λb o e=>by rw[Ea (Sa (sm b o e) fl.nh)];exact sm b o e
 refine MJ (t:=QT X.K Nr gsu) I hex hst hfr os bare fl hgC e2 e3 hdC hN hi hk (λa=>(hsu a).h) ⟨W₀,H₀,W,δ.set i (some (.d (.exc c xs))),(sth.same k2).set (x:=.exc c xs) (v:=.ref ar) (by rw[Has];exact⟨ar,cls,dx,rfl,hn,Ta,xf.to (λb o u e=>by rw[Ea (Sa e fl.nh)];exact e) λb kvs e=>by rw[Ea (Sa e fl.nh)];exact e⟩),?_⟩;unfold KO at q;cases hq:gsu (δ.set i (some (.d (.exc c xs)))) with
 |nx δ'=>rw[hq]at q;exact λW' H2 σ2 A7 st2=>q W' H2 _ ((Step.same k2).trans A7) (st2.unset i)
 |bk δ'=>rw[hq]at q;exact λW' H2 σ2 A7 st2=>q W' H2 _ ((Step.same k2).trans A7) (st2.unset i)
 |ct δ'=>rw[hq]at q;exact λW' H2 σ2 A7 st2=>q W' H2 _ ((Step.same k2).trans A7) (st2.unset i)
 |rt d=>rw[hq]at q;exact q
 |ex c' fs'=>rw[hq]at q;exact q.elim
 |stuck=>rw[hq]at q;exact q.elim
theorem YX(i:Nat)(cs:List ua)(F:FnX X.prog X.w X.K X.mg X.base k x nn m)(hcs:∀ c∈cs,MatchX X.K C c)(hN:X.N.Nodup)(hr:Room k X.A)(ha:XA X.nox Nr (a::es) fs)(kd:KindX X (.Call (.Name x p) (a::es) [] cpos) st gK)(hor:XSs X xw orelse go)(hsu:∀ a,XSs (markX X a) Nr (b₀::suite) gsu)(hi:X.N[i]? =some n:=by rfl)(hk:X.env.kindOf n=some .local:=by rfl)(hex:X.ex= []:=by rfl)(hst:X.stack=X.env::X.outer:=by rfl)(hfr:X.env.frame=some X.env.locals:=by rfl)(hgC:Gl X C:=by rfl)(hdC:(C==("__debug__":ua))=false:=by decide)(hg:Gl X x:=by rfl)(hdb:(x==("__debug__":ua))=false:=by decide)(he:Fa (a::es) X.env=(false,eval a X.env)::Fa es X.env:=by rfl)(hpl:(yc cpos (Fa es X.env)).any (·.1)=false:=by rfl):
  XS X xw (.Try [st] [.ExceptHandler (some (.Name C np)) (some n) (b₀::suite) hpos] orelse [] tpos) (Dr cs (Jr fs nn m []) gK go (KO i gsu)):=by
 obtain⟨fa,fd,ps,G,hm,hkp,hb⟩:=F.ex;exact XB.try<|KD cs G hm hkp hb .nil (λW H=>HasL.nil) hr ha kd hor (YZ i cs hcs hex hst hfr hN hi hk hgC hdC hsu) hg hdb he hpl
end
end L3
namespace L3
open PySem PySem.Spec PySem.Calls PyProof.Rows PySem.W Builtin Builtin.ObjectAttr Builtin.Getset_descriptor
structure ExcK(K:td)(C:ia):Prop where
 ga:fg K (.ref C) "__getattribute__"=some (some (.builtin "BaseException.__getattribute__"))
 gt:fg K (.ref C) "__getattr__"=some none
 cl:fg K (.ref C) "__class__"=some (some (.builtin "object.__class__"))
 ob:nv K C (.type "object")=some true
 be:nv K C (.type "BaseException")=some true
variable{K:td}{C:ia}
theorem ExcK.ci(z:ExcK K C):(clsIn K C).isSome=true:=by
 obtain⟨cd,e,_⟩:=Option.bind_eq_some_iff.mp z.ob;rw[e];rfl
variable{R:iq->ka->Prop}{tk:Tok}
section
variable {prog:ic}{w:yd}{A:ye}{E:Da->ka->Prop}{h:pd}{g:Array rk}{d:Drawn}{t:Nat}{os:OsState}{a:ia}{o:mh}
theorem T6{tp:Da}(X:K.In h)(hx:h.get? a=some o)(hc:o.cls=.ref C)(z:ExcK K C)(hq:R (.ok (.ret (.ref C))) ⟨h,g,d,t,os⟩):
  kj (jb prog w) A (.call (.builtin "getset_descriptor.__get__") ⟨[.builtin "object.__class__",.ref a,tp],[]⟩) R ⟨h,g,d,t,os⟩:=by
 have L0:Looks (jb prog w) h (typeOf (.ref a)) (.ref C):=hc▸(lu hx).andThen .now;have L1:=looks_mroIn (M:=jb prog w) X z.ob;refine og KF.slot_gs.plain KF.entry_gs (KF.slot_gs.check _ _ _ _ _ _ _ _ KF.type_class (KF.args_gs _ _ _) ?_);unfold nk.«getset_descriptor.__get__» descrGet;rw[dga_obj];refine ja (kb ?_);unfold descrGetter descrCheckInstance descrNameAndClass isInstance;simp only[KF.owner_class]
 repeat lk
 refine⟨pk _ (by decide +kernel),pj KF.entry_class ?_⟩;unfold nk.«object.__class__» shownTypeOf
 repeat lk
 exact hq
theorem CT{Q:Fin->ka->Prop}(X:K.In h)(hx:h.get? a=some o)(hc:o.cls=.ref C)(z:ExcK K C)(hq:Q (.done (.ret (.ref C))) ⟨h,g,d,t,os⟩):
  cb (jb prog w) A (nk.«object.__getattribute__» ⟨[.ref a,.str "__class__" tk],[]⟩) Q E ⟨h,g,d,t,os⟩:=by
 have hT5:(⟨h,g,d,t,os⟩:ka).TypeIs (.builtin "object.__class__") "getset_descriptor":=F.typeOf_object_class;have L0:Looks (jb prog w) h (typeOf (.ref a)) (.ref C):=hc▸(lu hx).andThen .now;have L3:=wm (M:=jb prog w) X z.cl;have f5:=F.typeOf_object_class;have f6:=F.slot_gs_get.lookup;have f7:=F.slot_gs_set.lookup
 repeat (any_goals (first|assumption|refine ja (L0.at ?_)|refine ja (L3.at ?_)|wp_step))
 refine T6 X hx hc z ?_
 repeat (any_goals (first|assumption|wp_step))
theorem UY(X:K.In h)(hx:h.get? a=some o)(hc:o.cls=.ref C)(z:ExcK K C)(hq:R (.ok (.ret (.ref C))) ⟨h,g,d,t,os⟩):
  kj (jb prog w) A (.call (.builtin "BaseException.__getattribute__") ⟨[.ref a,.str "__class__" tk],[]⟩) R ⟨h,g,d,t,os⟩:=by
 have L0:Looks (jb prog w) h (typeOf (.ref a)) (.ref C):=hc▸(lu hx).andThen .now;have L1:=looks_mroIn (M:=jb prog w) X z.be;have hk:builtinKind "BaseException.__getattribute__"=some .slot:=by decide +kernel
 have hsplit:splitId "BaseException.__getattribute__"=some ("BaseException","__getattribute__"):=by decide +kernel
 have ha:=F.args_bexc_ga (.ref a) (.str "__class__" tk);have hp:plainId "BaseException.__getattribute__"=true:=by decide +kernel
 refine og hp F.entry_bexc_ga ?_;simp only[gp,hk,hsplit];refine ja ((L0.andThen L1).at ?_);simp only[jf,Sc,if_false]
 repeat (first|assumption|exact CT X hx hc z hq|wp_step)
theorem Ra0{fill expr:Bool}{Q:Da->ka->Prop}(X:K.In h)(hx:h.get? a=some o)(hc:o.cls=.ref C)(z:ExcK K C)(hq:Q (.ref C) ⟨h,g,d,t,os⟩):
  cb (jb prog w) A (getAttrBy (.ref a) (.str "__class__" tk) fill expr) Q E ⟨h,g,d,t,os⟩:=by
 have L0:Looks (jb prog w) h (typeOf (.ref a)) (.ref C):=hc▸(lu hx).andThen .now;have L1:=wm (M:=jb prog w) X z.ga;have L2:=wm (M:=jb prog w) X z.gt;have f3:ut (.builtin "BaseException.__getattribute__") (.ref a)=pure (.builtin "BaseException.__getattribute__",[.ref a]):=F.excAttr_ValueError.ga.bind (.ref a);have hx0:(expr&&onTheHeap (Value.builtin "BaseException.__getattribute__"))=false:=by cases expr<;>rfl
 have hx2:(Value.builtin "BaseException.__getattribute__"==Value.builtin "object.__getattribute__")=false:=by decide +kernel
 have hx1:(onTheHeap (Value.ref C)&&Value.builtin "BaseException.__getattribute__"==Value.builtin "object.__getattribute__")=false:=by rw[hx2];rfl
 repeat (any_goals (first|assumption|refine ja (L0.at ?_)|refine ja (L1.at ?_)|refine ja (L2.at ?_)|wp_step))
 refine UY X hx hc z ?_
 repeat (any_goals (first|assumption|wp_step))
theorem ZS{Q:Option Da->ka->Prop}(X:K.In h)(hx:h.get? a=some o)(hc:o.cls=.ref C)(z:ExcK K C)(hq:Q (some (.ref C)) ⟨h,g,d,t+1,os⟩):
  cb (jb prog w) A (getAttr? (.ref a) "__class__") Q E ⟨h,g,d,t,os⟩:=by
 unfold getAttr? getAttrBy?;exact ja (wpAny_mkText (ja (wpAny_attempt (Ra0 X hx hc z (kb hq)))))
theorem VB(z:ExcK K C):KitX K (.ref a) (.ref C) (λh=>∃ o,h.get? a=some o/\o.cls=.ref C) where
 ty:=λM h _ ⟨o,hx,hc⟩=>hc▸(lu hx).andThen .now
 it:=λM h X _=>by
  have hci:=z.ci;unfold clsIn at hci;split at hci
  .rename_i c' d' cd' sl' ho;intro A' Q' E' s' k q;unfold isType loadHead;exact ja (wpAny_loadPart (k _ _ (X _ _ ho)) (kb q))
  .cases hci
 ne:=λh tp dd its n sl X htp=>by
  have hci:=z.ci;refine Bool.eq_false_iff.mpr λq=>?_;have e:C=tp:=Value.ref.inj (beq_iff_eq.mp q);subst e;unfold clsIn at hci;split at hci
  .rename_i c' d' cd' sl' ho;have zz:=(X _ _ ho).symm.trans htp;cases zz
  .cases hci
 ca:=λ{prog w A E Q s} X ⟨o,hx,hc⟩ k=>by
  obtain⟨hh,g,d,t,os⟩:=s;exact ZS X hx hc z k
end
end L3
namespace L3
open PySem PySem.Spec PyProof.Rows L2 SeqAt
variable{X:Cx}{xw:XW}{a e:nc}{es:List nc}{fa:Ha->Res D}{pos p2:bh}{c:ua}{k n:Nat}{v vc:V}{vs:List V}{K:td}{C:ia}{tb:List (ua×Bool)}{W:WS}{H:Hp}
section
variable {fs:Ha->Res (List D)}{p:bh}
theorem AX:So (HA X.prog X.w) X (λ_ _ _=>False):=λpins σ H s e s' I ⟨a,cls,dx,H',_,_,_,_,z⟩=>z.elim
theorem LY{x:ua}{m:List D->Res D}(F:FnX X.prog X.w X.K X.mg X.base k x n m)(hr:Room k X.A)(ha:XA X xw (a::es) fs)(hg:Gl X x:=by rfl)(hdb:(x==("__debug__":ua))=false:=by decide)(he:Fa (a::es) X.env=(false,eval a X.env)::Fa es X.env:=by rfl)(hpl:(yc pos (Fa es X.env)).any (·.1)=false:=by rfl):
  XE X xw (.Call (.Name x p) (a::es) [] pos) (b1 (Pa n m) fs):=⟨by
 obtain⟨fa,fd,ps,G,hm,hk,hb⟩:=F.ex;refine PE.weak (Kz G hr hg hm hk hb .nil AX ha.h hdb he hpl) λσ H Q ⟨W₀,H₀,W,δ,st,q⟩=>?_;refine Gk st q λH2 ds vs k w st2 hv _ q2=>?_;unfold Pa at q2;split at q2
 .rename_i hn;rw[kg];refine⟨by rw[<-hv.length];exact hn,W,ds,w,hv,?_⟩;cases h:m ds with
  |ok d=>rw[h]at q2;exact q2
  |ex c fs=>rw[h]at q2;exact q2.elim
  |stuck=>rw[h]at q2;exact q2
 .exact q2.elim⟩
inductive IsC(K:td)(mg:ua->Option Da):ua->V->Prop
 |own {c:ua} {C:ia}:mg c=some (.ref C)->IsC K mg c (.ref C)
 |blt {c:ua} {T:String}:mg c=none->ug c=some (.type T)->c≠"__name__"->IsC K mg c (.ty T)
structure XC(X:Cx)(e:nc)(v:V):Prop where
 h:PE X e (tC v)
structure XCs(X:Cx)(es:List nc)(vs:List V):Prop where
 h:PA X es (λ_ H Q=>Q vs H)
theorem Yd(hc:IsC X.K X.mg c v)(hg:Gl X c:=by rfl)(hd:(c==("__debug__":ua))=false:=by decide):XC X (.Name c pos) v:=⟨by
 cases hc with
 |own h=>exact Mt hg h rfl hd
 |blt h1 h2 h3=>exact WH hg h1 h2 rfl h3 hd⟩
theorem BN:XCs X [] []:=⟨Zh⟩
theorem Fd(h:XC X e v)(t:XCs X es vs)(hs:Fa (e::es) X.env=(false,eval e X.env)::Fa es X.env:=by rfl):XCs X (e::es) (v::vs):=⟨PA.weak (Ie h.h t.h hs) λσ H Q q=>q⟩
def HG:V->Da
 | .ref a=>.ref a
 | .ty T=>.type T
 |_=>.none
def Wl(tb:List (ua×Bool)):D->Res D
 | .exc c _=>match tb.lookup c with
  |some b=>.ok (.bl b)
  |none=>.stuck
 |_=>.stuck
structure IsiX(K:td)(tb:List (ua×Bool))(vs:List V):Prop where
 cls:∀ v∈vs,(∃ a,v=.ref a)\/∃ T,v=.ty T
 ok:∀ c b,tb.lookup c=some b->∃ C,je K aa c=some (some (.ref C))/\ExcK K C/\gv K (.ref C) (vs.map HG)=some b
theorem Lp:∀ v∈([]:List V),(∃ a,v=V.ref a)\/∃ T,v=V.ty T:=λv h=>absurd h (by simp)
theorem Ic{a:ia}(h:∀ v∈vs,(∃ a,v=V.ref a)\/∃ T,v=V.ty T):∀ v∈V.ref a::vs,(∃ a,v=V.ref a)\/∃ T,v=V.ty T:=qj.mpr ⟨.inl ⟨a,rfl⟩,h⟩
theorem GU{T:String}(h:∀ v∈vs,(∃ a,v=V.ref a)\/∃ T,v=V.ty T):∀ v∈V.ty T::vs,(∃ a,v=V.ref a)\/∃ T,v=V.ty T:=qj.mpr ⟨.inr ⟨T,rfl⟩,h⟩
theorem Rp(h:∀ v∈vs,(∃ a,v=V.ref a)\/∃ T,v=V.ty T):IsiX K [] vs:=⟨h,λc b e=>by simp at e⟩
theorem Vg{c:ua}{b:Bool}(hn:je K aa c=some (some (.ref C)))(z:ExcK K C)(hk:gv K (.ref C) (vs.map HG)=some b)(t:IsiX K tb vs):IsiX K ((c,b)::tb) vs:=⟨t.cls,λc' b' e=>by
 rw[sf]at e
 cases hx:c'==c with
 |true=>
  rw[hx]at e
  have e':b=b':=jc e;have ec:c'=c:=by simpa using hx
  subst e';subst ec;exact⟨C,hn,z,hk⟩
 |false=>rw[hx]at e;exact t.ok c' b' e⟩
theorem NS:∀ {us:List Da},(∀ v∈vs,(∃ a,v=V.ref a)\/∃ T,v=V.ty T)->Vals vs us->us=vs.map HG:=by
 induction vs with
 |nil=>intro us _ r;cases r;rfl
 |cons v vs ih=>
  intro us h r;cases r with
  |cons r t=>
   rw[db,<-ih (λw hw=>h w (ib _ hw)) t];rcases h v kc with⟨a,rfl⟩|⟨T,rfl⟩
   .rw[show _=Value.ref a from r];rfl
   .rw[show _=Value.type T from r];rfl
theorem AH{c:ua}{fs:List D}(h:HasT K W H (.exc c fs) v):∃ a C dx,v=.ref a/\je K aa c=some (some C)/\H a=some (.ext (ExcAt a C dx))/\ExF H dx fs:=by
 rcases h with h|⟨ds,a,xs,h1,_⟩
 .rw[Has]at h
  exact h
 .cases h1
theorem KJ(hi:IsiX X.K tb vs):CallR X (.builtin "isinstance") (λxs H Q=>∃ x c a C dx t b,xs= [x,.ref t]/\x=.ref a/\je X.K aa c=some (some C)/\H a=some (.ext (ExcAt a C dx))/\H t=some (.tup vs)/\tb.lookup c=some b/\Q (.bl b) H):=by
 intro pins s σ H xs us Q I r h;obtain⟨x,c,a,C,dx,t,b,rfl,rfl,hn,ha,ht,hb,q⟩:=h;obtain⟨u,u2,rfl,rx,rc⟩:=r.two;obtain rfl:u=Value.ref a:=rx;obtain rfl:u2=Value.ref t:=rc;obtain⟨C',hn',z,hk⟩:=hi.ok c b hb;rw[hn]at hn'
 cases hn';obtain⟨⟨oe,ws,he,hc,_⟩,_⟩:=I.hok a _ ha;obtain⟨_,its,rv,⟨cl,dd,dat,sl⟩,ho,hcl,n,hd⟩:=I.hok t _ ht;simp only at hcl hd;subst hcl hd;have ei:=NS hi.cls rv;rw[<-ei]at hk
 exact PySem.W.kia_tup (VB (a:=a) z) I.kIn ⟨oe,he,hc⟩ ho hk (λz=>nomatch z) λtk=>⟨.bl b,H,I.tok tk,rfl,q⟩
theorem RD(hi:IsiX X.K tb [vc]):CallR X (.builtin "isinstance") (λxs H Q=>∃ x c a C dx b,xs= [x,vc]/\x=.ref a/\je X.K aa c=some (some C)/\H a=some (.ext (ExcAt a C dx))/\tb.lookup c=some b/\Q (.bl b) H):=by
 intro pins s σ H xs us Q I r h;obtain⟨x,c,a,C,dx,b,rfl,rfl,hn,ha,hb,q⟩:=h;obtain⟨u,u2,rfl,rx,rc⟩:=r.two;obtain rfl:u=Value.ref a:=rx;obtain⟨C',hn',z,hk⟩:=hi.ok c b hb;rw[hn]at hn'
 cases hn';obtain⟨⟨oe,ws,he,hc,_⟩,_⟩:=I.hok a _ ha
 have ei:u2=HG vc:=by
  rcases hi.cls vc kc with⟨a,rfl⟩|⟨T,rfl⟩
  .exact rc
  .exact rc
 subst ei
 have hk1:kitOne X.K (.ref C') (HG vc)=some b:=by
  have hk':(match kitOne X.K (.ref C') (HG vc) with|some true=>some true|some false=>some false|none=>none)=some b:=hk;split at hk'<;>simp_all
 exact bv (VB (a:=a) z) I.kIn ⟨oe,he,hc⟩ hk1 (λz=>nomatch z) λtk=>⟨.bl b,H,I.tok tk,rfl,q⟩
theorem SS{ces:List nc}{kt:Nat}(hi:IsiX X.K tb vs)(hm:X.mg "isinstance"=none)(ha:XP X xw a fa)(hcs:XCs X ces vs)(hl:vs.length<=1000:=by simp)(hg:Gl X "isinstance":=by rfl)(he:Fa [a, .Tuple ces kt p2] X.env=(false,eval a X.env)::Fa [.Tuple ces kt p2] X.env:=by rfl)(he2:Fa [.Tuple ces kt p2] X.env=(false,eval (.Tuple ces kt p2) X.env)::Fa [] X.env:=by rfl)(hpl:(yc pos (Fa [.Tuple ces kt p2] X.env)).any (·.1)=false:=by rfl):
  XE X xw (.Call (.Name "isinstance" p) [a, .Tuple ces kt p2] [] pos) (b1 (Wl tb) fa):=⟨
 PE.weak (Cq (KJ hi) hg hm (by decide +kernel) (Ie ha.h (Ie (VQ hcs.h) Zh he2) he) (by decide) (by decide) he hpl) λσ H Q ⟨W₀,H₀,W,δ,st,q⟩=>Ng st q λH2 d v k w st2 hv _ q2=>by
  unfold Wl at q2;cases d with
  |exc c fs=>
   dsimp only at q2;split at q2
   .rename_i b hb;obtain⟨ar,C,dx,e,hn,hH,_⟩:=AH hv;refine⟨by rw[qe];omega,λt ht=>⟨v,c,ar,C,dx,t,b,rfl,e,hn,?_,Ta,hb,?_⟩⟩
    .rw[Ea (Sa hH ht)];exact hH
    .exact q2 _ _ (λb o e=>by rw[Ea (Sa e ht)];exact e) (by rw[Has])
   .exact q2.elim
  |_=>exact q2.elim⟩
theorem ZI{ce:nc}(hi:IsiX X.K tb [vc])(hm:X.mg "isinstance"=none)(ha:XP X xw a fa)(hcs:XC X ce vc)(hg:Gl X "isinstance":=by rfl)(he:Fa [a,ce] X.env=(false,eval a X.env)::Fa [ce] X.env:=by rfl)(he2:Fa [ce] X.env=(false,eval ce X.env)::Fa [] X.env:=by rfl)(hpl:(yc pos (Fa [ce] X.env)).any (·.1)=false:=by rfl):
  XE X xw (.Call (.Name "isinstance" p) [a,ce] [] pos) (b1 (Wl tb) fa):=⟨
 PE.weak (Cq (RD hi) hg hm (by decide +kernel) (Ie ha.h (Ie hcs.h Zh he2) he) (by decide) (by decide) he hpl) λσ H Q ⟨W₀,H₀,W,δ,st,q⟩=>Ng st q λH2 d v k w st2 hv _ q2=>by
  unfold Wl at q2;cases d with
  |exc c fs=>
   dsimp only at q2;split at q2
   .rename_i b hb;obtain⟨ar,C,dx,e,hn,hH,_⟩:=AH hv;exact⟨v,c,ar,C,dx,b,rfl,e,hn,hH,hb,q2.bl⟩
   .exact q2.elim
  |_=>exact q2.elim⟩
end
variable{b:nc}
section
variable {c tg:nc}{p:bh}
end
section
variable {lo:Option nc}{st:nc}{fl fh:Ha->Res (Option Int)}
end
variable{st:yf}{g:Ha->Out}{σ:L2.St}
def FO(i:Nat)(δ:Ha):Ha:=match δ[i]? with
 |some (some (.o ds))=>δ.set i (some (.d (.lst ds)))
 |_=>δ
def Dv(i:Nat)(g:Ha->Out):Ha->Out:=λδ=>g (FO i δ)
theorem XJ{i:Nat}{Dn:Ends}(h:QT X.K xw (Dv i g) Dn σ H):QT X.K xw g Dn σ H:=by
 obtain⟨W₀,H₀,W,δ,st,q⟩:=h;have q':RS X.K xw W₀ H₀ W H (g (FO i δ)) Dn:=q;unfold FO at q';split at q'
 .rename_i ds h;obtain⟨v,e,a,xs,r1,r2,r3,r4,r5⟩:=st.at' i _ h;subst r1;obtain⟨st2,hd⟩:=st.freeze h e;exact⟨W₀,H₀,_,_,st2,RS.less (λb z=>z.1) q'⟩
 .exact⟨W₀,H₀,W,δ,st,q'⟩
theorem OR(i:Nat)(h:XS X xw st g):XS X xw st (Dv i g):=⟨λpins s σ H Dn I q=>h.h pins s σ H Dn I (XJ q)⟩
theorem us1{P:List Da->Prop}(h:∀ a0:Da,P [a0]):∀ us:List Da,us.length=1->P us
 | [a0],_=>h a0
theorem LS{P:List Da->Prop}(h:∀ a0 a1:Da,P [a0,a1]):∀ us:List Da,us.length=2->P us
 | [a0,a1],_=>h a0 a1
theorem us5{P:List Da->Prop}(h:∀ a0 a1 a2 a3 a4:Da,P [a0,a1,a2,a3,a4]):∀ us:List Da,us.length=5->P us
 | [a0,a1,a2,a3,a4],_=>h a0 a1 a2 a3 a4
theorem JC(f:ua)(v:V):∀ fs:List (ua×V),f∉fs.map (·.1)->Yl f v fs=fs++ [(f,v)]
 | [],_=>rfl
 |(g,x)::r,h=>by
  rw[db]at h
  have h1:¬ g=f:=λz=>h (by rw[<-z];exact kc);have h2:f∉r.map (·.1):=λz=>h (ib _ z);show(if g=f then(g,v)::r else(g,x)::Yl f v r)=_;rw[if_neg h1,JC f v r h2];rfl
variable{x dx:ia}
section
variable {W₀:WS}{H₀ H':Hp}{δ:Ha}
theorem StHas.poke{fl fl':List (ua×V)}(h:StHas K W₀ H₀ W H σ δ)(hW:W x)(h0:H₀ x=none)(hx:H x=some (.ins C dx fl))(no:∀ (j:Nat) (t:S) (v:V),δ[j]? =some (some t)->σ[j]? =some (some v)->¬ Owns H t v x):StHas K W₀ H₀ W (Lb H x (.ins C dx fl')) σ δ:=by
 have kk:Yj W H (Lb H x (.ins C dx fl')):=λb o e n=>by rw[Ea (λz=>n (by rw[z];exact hW))];exact e
 have hw:∀ b,W b->W b\/H b=none:=λb z=>.inl z
 have bk:∀ (j:Nat) (s:S) (v:V) (b:ia),δ[j]? =some (some s)->σ[j]? =some (some v)->Owns (Lb H x (.ins C dx fl')) s v b->Owns H s v b:=λj s v b e e' o=>by
  obtain⟨v',h1,h2⟩:=h.at' j s e;rw[e']at h1;cases h1
  refine Owns.back h2 (λc o ec z y=>?_) o;rcases y with⟨y,_⟩|⟨zs,y⟩
  .rw[Ea (λq=>by rw[q]at y;exact no j s v e e' y)];exact z
  .rw[Ea (λq=>by rw[q,hx]at z;cases z;cases y)];exact z
 refine⟨⟨λb o e=>by rw[Ea (Sa e h0)];exact h.fr.ext _ _ e,h.fr.sub,⟨λb z=>?_,λq hq=>by rw[Ea (h.fr.wl.noW hW hq)];exact h.fr.wl.tab q hq⟩,h.fr.wl0⟩,h.len,λi s e=>?_,λi j s t u v b ij e1 e2 e3 e4 o1 o2=>h.ap i j s t u v b ij e1 e2 e3 e4 (bk i s u b e1 e3 o1) (bk j t v b e2 e4 o2)⟩
 .by_cases hb:b=x
  .rw[hb];exact⟨_,Ta,trivial⟩
  .rw[Ea hb];exact h.fr.wl b z
 .obtain⟨v,h1,h2⟩:=h.at' i s e;exact⟨v,h1,h2.mv h.fr.wl kk hw λb o e1 h1' _ h3' _=>⟨h1',by rw[Ea (λz=>by rw[z]at e1;exact no i s v e h1 e1)];exact h3'⟩⟩
theorem StHas.born(h:StHas K W₀ H₀ W H σ δ)(hx:H x=none)(hd:H dx=none)(ne:dx≠x):
  StHas K W₀ H₀ (λb=>W b\/b=x) (Lb (Lb H dx (.own x)) x (.ins C dx [])) σ δ:=by
 have sm:Same H (Lb (Lb H dx (.own x)) x (.ins C dx [])):=λb o e=>by rw[Ea (Sa e hx),Ea (Sa e hd)];exact e
 have hw:∀ b,(W b\/b=x)->W b\/H b=none:=λb z=>z.elim .inl λz=>.inr (by rw[z];exact hx);refine⟨⟨h.fr.ext.trans sm,λb z=>.inl (h.fr.sub b z),⟨λb z=>?_,(h.fr.wl.same sm).tab⟩,h.fr.wl0⟩,h.len,λi s e=>?_,(h.same sm).ap⟩
 .rcases z with z|z
  .exact h.fr.wl.same sm b z
  .rw[z];exact⟨_,Ta,trivial⟩
 .obtain⟨v,h1,h2⟩:=h.at' i s e;exact⟨v,h1,h2.mv h.fr.wl (Same.keep sm) hw λb o _ h1' _ h3' _=>⟨.inl h1',sm _ _ h3'⟩⟩
theorem StHas.front{v:Option V}(h:StHas K W₀ H₀ W H σ δ):StHas K W₀ H₀ W H (v::σ) (none::δ):=by
 refine⟨h.fr,by simp[h.len],λi s e=>?_,λi j s t u v' a hij e1 e2 e3 e4 os ot=>?_⟩
 .cases i with
  |zero=>cases e
  |succ i=>exact h.at' i s e
 .cases i with
  |zero=>cases e1
  |succ i=>
   cases j with
   |zero=>cases e2
   |succ j=>exact h.ap i j s t u v' a (λz=>hij (by rw[z])) e1 e2 e3 e4 os ot
end
def Jo:List (ua×(Ha->Res D))->Ha->Res (List D)
 | [],_=>.ok []
 |p::r,δ=>(p.2 δ).bind λd=>(Jo r δ).bind λds=>.ok (d::ds)
def Ju(n:Nat)(c:ua)(fs:List (ua×(Ha->Res D)))(ds:List D):Res D:=(Jo fs (none::Hb n ds)).bind λes=>.ok (.obj c (fs.map (·.1)) es)
def RI(K:td)(W₀:WS)(H₀:Hp)(W:WS)(δ:Ha)(σ:L2.St)(C dx x:ia)(ks:List ua)(ds:List D)(r:Res (List D))(Dn:Ends):Prop:=match r with
 | .ok es=>∀ H' fl',StHas K W₀ H₀ W H' σ δ->H' x=some (.ins C dx fl')->fl'.map (·.1)=ks->HasL K W H' (ds++es) (fl'.map (·.2))->Dn.nx σ H'
 |_=>False
def Da0(K:td)(C:ia)(fs:List (ua×(Ha->Res D))):TS:=λDn σ H=>∃ W₀ H₀ W δ x dx fl ds,(StHas K W₀ H₀ W H σ δ/\∀ (j:Nat) (t:S) (v:V),δ[j]? =some (some t)->σ[j]? =some (some v)->¬ Owns H t v x)/\σ[0]? =some (some (.ref x))/\W x/\H₀ x=none/\H x=some (.ins C dx fl)/\
 HasL K W H ds (fl.map (·.2))/\(fl.map (·.1)++fs.map (·.1)).Nodup/\fl.length+fs.length<1000/\RI K W₀ H₀ W δ σ C dx x (fl.map (·.1)++fs.map (·.1)) ds (Jo fs δ) Dn
structure XIn(X:Cx)(C:ia)(sts:List yf)(fs:List (ua×(Ha->Res D))):Prop where
 h:PSs X sts (Da0 X.K C fs)
variable{f fb:Ha->Res D}{p1 p3:bh}
section
variable {fs:List (ua×(Ha->Res D))}{sts:List yf}{p:bh}{fld:ua}
theorem U2:XIn X C [] []:=⟨PSs.weak BI λDn σ H ⟨W₀,H₀,W,δ,x,dx,fl,ds,⟨st,_⟩,_,_,_,hx,hds,_,_,q⟩=>q H fl st hx (by simp) (by rw[kg];exact hds)⟩
theorem Et(cl:Cls X.K C)(hn:NoAttr X.K C fld)(he:XE X Nr e f)(hr:XIn X C sts fs){self:ua}(hN:X.N[0]? =some self:=by rfl)(hv:Jw X.env.scope self:=by first|exact Or.inl rfl|exact Or.inr (Or.inl rfl)|exact Or.inr (Or.inr rfl))(hd:(self==("__debug__":ua))=false:=by decide)(hcd:(self==("__classdict__":ua))=false:=by decide)(hs:ki e (some (.Attribute (.Name self p1) fld p2)) pos.line X.env=pure false:=by rfl):
  XIn X C (.Assign [.Attribute (.Name self p1) fld p2] e pos::sts) ((fld,f)::fs):=⟨by
 refine PSs.weak (Av (G5 (Ph hN hv hd hcd) he.h hs) hr.h) λDn σ H ⟨W₀,H₀,W,δ,x,dx,fl,ds,⟨st,no⟩,e0,hW,h0,hx,hds,nd,ln,q⟩=>?_;rw[ba]at ln
 show OT X.K Nr f σ H _;refine⟨W₀,H₀,W,δ,st,?_⟩;have eq1:Jo ((fld,f)::fs) δ=(f δ).bind λd=>(Jo fs δ).bind λds=>.ok (d::ds):=rfl;rw[eq1]at q
 cases h1:f δ with
 |stuck=>rw[h1]at q;exact q.elim
 |ex c fs=>rw[h1]at q;exact q.elim
 |ok d=>
  rw[h1]at q
  intro v H1 k hv;have hx1:=k _ _ hx;have st1:=st.same k
  have no1:∀ (j:Nat) (t:S) (v:V),δ[j]? =some (some t)->σ[j]? =some (some v)->¬ Owns H1 t v x:=λj t v e e' o=>by
   obtain⟨v',h1,h2⟩:=st.at' j t e;rw[e']at h1;cases h1
   exact no j t v e e' (Owns.back h2 (λc o _ z _=>k _ _ z) o)
  refine⟨.ref x,e0,x,C,dx,fl,rfl,hx1,cl,hn,by omega,?_⟩
  have hf:fld∉fl.map (·.1):=λz=>by
   rw[db,List.nodup_append]at nd
   exact nd.2.2 _ z _ kc rfl
  rw[JC _ _ _ hf];have kk:Yj W H1 (Lb H1 x (.ins C dx (fl++ [(fld,v)]))):=λb o e n=>by rw[Ea (λz=>n (by rw[z];exact hW))];exact e
  have ek:(fl++ [(fld,v)]).map (·.1)++fs.map (·.1)=fl.map (·.1)++((fld,f)::fs).map (·.1):=by simp
  refine⟨W₀,H₀,W,δ,x,dx,fl++ [(fld,v)],ds++ [d],⟨st1.poke hW h0 hx1 no1,λj t v e e' o=>by
   obtain⟨v',h1,h2⟩:=st1.at' j t e;rw[e']at h1;cases h1
   refine no1 j t v e e' (Owns.back h2 (λc o _ z y=>?_) o);rcases y with⟨y,_⟩|⟨zs,y⟩
   .rw[Ea (λq=>by rw[q]at y;exact no1 j t v e e' y)];exact z
   .rw[Ea (λq=>by rw[q,hx1]at z;cases z;cases y)];exact z⟩,e0,hW,h0,Ta,?_,by rw[ek];exact nd,by rw[md,aj];omega,?_⟩
  .rw[uh];exact HasL.keep kk st1.fr.wl (λb z=>.inl z) ((hds.same k st.fr.wl).snoc hv)
  .rw[ek];cases h2:Jo fs δ with
   |stuck=>rw[h2]at q;exact q.elim
   |ex c gs=>rw[h2]at q;exact q.elim
   |ok es=>
    rw[h2]at q
    intro H' fl' g1 g2 g3 g4;rw[xg]at g4
    exact q H' fl' g1 g2 g3 g4⟩
end
def spI(K:td)(C:ia)(n:Nat)(nl:Nat)(c:ua)(fs:List (ua×(Ha->Res D))):Sp:=λvs H Q _=>∃ x dx vs' H1 W ds,vs=V.ref x::vs'/\vs'.length=n/\H=Lb (Lb H1 dx (.own x)) x (.ins C dx [])/\H1 x=none/\H1 dx=none/\dx≠x/\
 WL W H1/\HasL K W H1 ds vs'/\match Jo fs (none::Hb nl ds) with
  | .ok es=>∀ H' fl,Same H1 H'->H' x=some (.ins C dx fl)->fl.map (·.1)=fs.map (·.1)->HasL K W H' es (fl.map (·.2))->Q .non H'
  |_=>False
structure FnI(P:ic)(w:yd)(K:td)(mg:ua->Option Da)(base:pd)(k:Nat)(c:ua)(n nl:Nat)(fs:List (ua×(Ha->Res D))):Prop where
 ex:∃ j C f fd ps,j+1<=k/\FnOk P w K mg base Fp j f fd ps (spI K C n nl c fs)/\Mk K C f/\mg c=some (.ref C)/\je K aa c=some (some (.ref C))/\Binds K fd ps []
variable{P:ic}{w:yd}{mg:ua->Option Da}{base:pd}{nl:Nat}
theorem FnI.mono{j:Nat}{fs:List (ua×(Ha->Res D))}(F:FnI P w K mg base j c n nl fs)(h:j<=k):FnI P w K mg base k c n nl fs:=by
 obtain⟨i,C,f,fd,ps,a,b⟩:=F.ex;exact⟨i,C,f,fd,ps,bf a h,b⟩
theorem IV{qual:ua}{fa:ia}{fd:lg}{N ps:List ua}{fs:List (ua×(Ha->Res D))}(F:Fun K "__init__" qual st fa fd)(S:FnScope N ps (Ca st))(M:Mk K C fa)(hm:mg c=some (.ref C))(hc:je K aa c=some (some (.ref C)))(hb:Binds K fd ps [])(body:∀ (cdv:Da) (A:ye) (outer:List cq) (s:ka) (H:Hp) (E:XK),Room k (A.deeper (zj qual (Ca st) s.heap.objs.size fa cdv))->
   XIn (Xl Fp P w K mg base N qual (Ca st) fa cdv A outer s H E).nox C (Eb st) fs)(hps:ps.length=n+1:=by rfl)(hN:N.length=nl+1:=by rfl)(hnd:(fs.map (·.1)).Nodup:=by decide +kernel)(hl:fs.length<1000:=by decide):FnI P w K mg base (k+1+1) c n nl fs:=by
 refine⟨k+1,C,fa,fd,ps,Uf _,F.ok S (λvs H Q E h=>?_) (λcdv A outer s H vs Q E hr h=>?_),M,hm,hc,hb⟩
 .obtain⟨x,dx,vs',H1,W,ds,rfl,h1,_⟩:=h;rw[ba,h1,hps]
 .obtain⟨x,dx,vs',H1,W,ds,rfl,h1,rfl,hx,hdx,ne,wl,hd,q⟩:=h;have s0:=Qn (N:=qb nl ("":ua)) wl hd;rw[ai]at s0
  have es:L2.start N (V.ref x::vs')=some (V.ref x)::L2.start (qb nl ("":ua)) vs':=by
   unfold L2.start;rw[ai,hN,ba,db,jd,Nat.add_sub_add_right]
  refine⟨_,(body cdv A outer s _ E hr).h,W,H1,(λb=>W b\/b=x),none::Hb nl ds,x,dx,[],[],?_,by rw[es];rfl,.inr rfl,hx,Ta,HasL.nil,by simpa using hnd,by simpa using hl,?_⟩
  .rw[es];refine⟨(s0.born hx hdx ne).front,λj t v e _ o=>?_⟩;cases j with
   |zero=>cases e
   |succ j=>
    have e:(Hb nl ds)[j]? =some (some t):=e;unfold Hb at e;rcases wj.mp (mi e) with m|m
    .obtain⟨d,_,ed⟩:=lj.mp m;cases ed;exact o
    .have:=(List.mem_replicate.mp m).2;cases this
  .cases h2:Jo fs (none::Hb nl ds) with
   |stuck=>rw[h2]at q;exact q.elim
   |ex c gs=>rw[h2]at q;exact q.elim
   |ok es=>
    rw[h2]at q
    exact λH' fl' st' g2 g3 g4=>q H' fl' st'.fr.ext g2 (by simpa using g3) (HasL.keep (λ_ _ e _=>e) st'.fr.wl (λb z=>.inl (.inl z)) (show HasL K (λb=>W b\/b=x) H' es (fl'.map (·.2)) from g4))
variable{ff:Ha->Res (List D)}
section
variable {gs:Ha->Res (List D)}{fs:List (ua×(Ha->Res D))}{p:bh}{fld:ua}
theorem Q6(F:FnI X.prog X.w X.K X.mg X.base k c n nl fs)(hr:Room k X.A)(ha:XA X xw (a::es) gs)(hg:Gl X c:=by rfl)(hdb:(c==("__debug__":ua))=false:=by decide)(he:Fa (a::es) X.env=(false,eval a X.env)::Fa es X.env:=by rfl)(hpl:(yc pos (Fa es X.env)).any (·.1)=false:=by rfl):
  XE X xw (.Call (.Name c p) (a::es) [] pos) (b1 (Pa n (Ju nl c fs)) gs):=⟨by
 obtain⟨j,C,fi,fd,ps,hj,G,M,hm,hn,hb⟩:=F.ex;refine PE.weak (FX M G (hr.mono hj) hg hm hb .nil GZ ha.h hdb he hpl) λσ H Q ⟨W₀,H₀,W,δ,st,q⟩=>?_;refine Gk st q λH2 ds vs k w st2 hv _ q2=>?_;unfold Pa at q2;split at q2
 .rename_i hl;intro x dx hx hdx ne;rw[kg];refine⟨x,dx,vs,H2,W,ds,rfl,by rw[<-hv.length];exact hl,rfl,hx,hdx,ne,w,hv,?_⟩;unfold Ju at q2;cases h:Jo fs (none::Hb nl ds) with
  |stuck=>rw[h]at q2;exact q2.elim
  |ex c gs=>rw[h]at q2;exact q2.elim
  |ok es=>
   rw[h]at q2
   exact λH' fl k' g1 g2 g3=>⟨rfl,q2 _ _ k' (by
    rw[Has]
    exact⟨x,C,dx,fl,rfl,hn,g1,(λz=>by obtain⟨o,e,_⟩:=w x z;rw[hx]at e;cases e),g2,g3⟩)⟩
 .exact q2.elim⟩
def Tn(c fld:ua):D->Res D
 | .obj c' ks ds=>if c'=c then(match (ks.zip ds).lookup fld with|some d=>.ok d|none=>.stuck) else .stuck
 |_=>.stuck
structure FldK(K:td)(c fld:ua):Prop where
 ex:∃ C,je K aa c=some (some (.ref C))/\Cls K C/\NoAttr K C fld
theorem FH{K:td}{W:WS}{H:Hp}{g:ua}{d:D}:∀ {fl:List (ua×V)} {ds:List D},HasL K W H ds (fl.map (·.2))->((fl.map (·.1)).zip ds).lookup g=some d->∃ v,fl.lookup g=some v/\Has K W H d v
 | [],ds,_,e=>by simp at e
 |(k,v)::r,[],h,e=>by simp at e
 |(k,v)::r,d'::ds,h,e=>by
  rw[HasL]at h
  obtain⟨x,r',e1,h1,h2⟩:=h;rw[db]at e1
  cases e1;rw[db,ur,sf]at e
  rw[sf];cases hk:g==k with
  |true=>rw[hk]at e;cases e;exact⟨_,rfl,h1⟩
  |false=>rw[hk]at e;exact FH h2 e
theorem Qv(T:FldK X.K c fld)(he:XE X xw e f)(hb:dg e fld X.env (eval e X.env)=eval e X.env:=by rfl):XE X xw (.Attribute e fld pos) (b1 (Tn c fld) f):=
 ⟨PE.weak (U4 he.h hb) λσ H Q ⟨W₀,H₀,W,δ,st,q⟩=>Zk st q λH2 d v k w st2 hv _ q2=>by
  unfold Tn at q2;cases d with
  |obj c' ks ds=>
   dsimp only at q2;split at q2
   .rename_i hc;subst hc;split at q2
    .rename_i d' hd;rw[Has]at hv
     obtain⟨ar,C,dx,fl,rfl,hn,hH,_,rfl,hL⟩:=hv;obtain⟨C',hn',cl,na⟩:=T.ex;rw[hn]at hn'
     cases hn';obtain⟨u,hu,hh⟩:=FH hL hd;exact⟨ar,C,dx,fl,u,rfl,hH,cl,na,hu,q2 u H2 (Same.refl _) hh⟩
    .exact q2.elim
   .exact q2.elim
  |_=>exact q2.elim⟩
def ZU(i:Nat)(δ:Ha)(r:Res (List D)):Out:=match δ[i]? with
 |some (some (.o ds))=>Pm r λes=>@ite Out (ds.length+es.length<=100000) (uc _) (.nx (δ.set i (some (.o (ds++es))))) .stuck
 |_=>.stuck
def JL(i:Nat)(ff:Ha->Res (List D)):Ha->Out:=λδ=>ZU i δ (ff δ)
theorem NR(i:Nat){x:ua}(he:XF X xw e ff)(hN:X.N[i]? =some x:=by rfl)(hv:Jw X.env.scope x:=by first|exact Or.inl rfl|exact Or.inr (Or.inl rfl)|exact Or.inr (Or.inr rfl))(hd:(x==("__debug__":ua))=false:=by decide)(hcd:(x==("__classdict__":ua))=false:=by decide)(hsE:Fa [e] X.env=(false,eval e X.env)::Fa [] X.env:=by rfl)(hbase:dg (.Name x p1) "extend" X.env (eval (.Name x p1) X.env)=eval (.Name x p1) X.env:=by rfl)(hfew:((yc p3 (Fa [e] X.env)).all (λx=> !x.1)&&(bj p3 (ig [] X.env)).all (λx=>x.1.isSome)
   &&decide (([e]:List nc).length+([]:List li).length+(if([]:List li).isEmpty then 0 else 1)<30))=true:=by rfl)(hline:(p2.endLine==p3.line)=true:=by rfl)(hplain:(yc p3 (Fa [] X.env)).any (·.1)=false:=by rfl)(hsw:ki (.Call (.Attribute (.Name x p1) "extend" p2) [e] [] p3) none pos.line X.env=pure false:=by rfl):
  XS X xw (.Expr (.Call (.Attribute (.Name x p1) "extend" p2) [e] [] p3) pos) (JL i ff):=⟨
 PS.weak (Dq (As fk PySem.F.slot_list_extend PySem.F.type_list_extend NK (Ph hN hv hd hcd) (Ie he.h Zh hsE) hbase hfew hline hsE hplain) hsw) λDn σ H ⟨W₀,H₀,W,δ,st,q⟩=>by
  unfold JL ZU at q;split at q
  .rename_i ds h;obtain⟨v,e1,a,xs,rfl,r2,r3,r4,r5⟩:=st.at' i _ h;refine⟨_,e1,.inl ⟨rfl,xs,.of r4⟩,?_⟩;refine⟨W₀,H₀,W,δ,st,?_⟩;cases h1:ff δ with
   |stuck=>rw[h1]at q;exact q
   |ex c fs=>rw[h1]at q;exact λH' k'=>q H' (st.fr.ext.trans k')
   |ok es=>
    rw[h1]at q
    intro b zs H1 k n r;have q':RS X.K xw W₀ H₀ W H (@ite Out (ds.length+es.length<=100000) (uc _) (.nx (δ.set i (some (.o (ds++es))))) .stuck) Dn:=q;split at q'
    .rename_i hlen;have sm:Same H (Lb H1 b (.lst zs)):=λc o e=>by rw[Ea (Sa (k c o e) n)];exact k c o e
     have sm1:Same H1 (Lb H1 b (.lst zs)):=λc o e=>by rw[Ea (Sa e n)];exact e
     have st2:=st.same sm;have ra:(Lb H1 b (.lst zs)) a=some (.lst xs):=sm _ _ r4;have sz:sizeLine=16777216:=qe;have hL:HasL X.K W (Lb H1 b (.lst zs)) (ds++es) (xs++zs):=(r5.same sm st.fr.wl).append (r.same sm1 (st.same k).fr.wl);refine⟨a,b,xs,zs,rfl,rfl,ra,Ta,?_,?_⟩
     .have:=r5.length;have:=r.length;omega
     .refine q' W _ σ ⟨λc o e n=>?_,λ_ z=>.inl z⟩ (st2.change h e1 ra r2 hL);rw[Ea (λz=>n (by rw[z];exact r2))];exact sm c o e
    .exact q'.elim
  .exact q.elim⟩
def Jb0(w:yd)(e:yq)(p:ua×ua):Prop:=e.hash=VV w (.inr p.1)/\(∃ t,e.key=.str p.1 t)/\∃ t,e.val=.str p.2 t
structure GlobQ(w:yd)(K:td)(mg:ua->Option Da)(x:ua)(l:List (ua×ua)):Prop where
 h:∃ (ad:ia) (o:mh) (es:Array yq) (n:Nat),mg x=some (.ref ad)/\K.lookup ad=some o/\o.ExactDict/\o.data=.dict es n/\zq (Jb0 w) es.toList l/\(l.map (·.1)).Nodup
end
section
variable {pos' p:bh}
end
end L3
namespace L2
open PySem PySem.Spec PyProof.Rows
variable {X:Cx}{pos:bh}
end L2
namespace L3
open PySem PySem.Spec PyProof.Rows L2 SeqAt
variable {X:Cx}{pos:bh}{tgs:List nc}{ts:List D->Ha->Res Ha}
end L3
namespace PySem
open Sem (wp)
variable{mN:ua->Option Da}
section
variable {prog:ic}{w:yd}{A:ye}{E:Da->ka->Prop}{h:pd}{g:Array rk}{d:Drawn}{t:Nat}{os:OsState}
variable {nm q:ua}{C N f:ia}{bs bm bmB:List Da}{hdct:Bool}{sn:List ua}{sub:List Da}{ab:Bool}{col:Option Bool}{dd:Option ia}{k0 k1 k2 k3 k5:Option Da}{B newId initId:String}
def Kk(h:pd)(C:ia)(rest:List Da):pd:=(h.push {cls:=.type "tuple",data:=.seq rest.toArray}).push {cls:=.ref C,data:=.fields #[.ref h.objs.size,.none,.none,.none,.bool false,.none]}
theorem Lk{b:ia}{o:mh}{rest:List Da}(e:h.get? b=some o):(Kk h C rest).get? b=some o:=ya _ (ya _ e)
theorem Xw(rest:List Da):(Kk h C rest).get? (h.objs.size+1)=some {cls:=.ref C,data:=.fields #[.ref h.objs.size,.none,.none,.none,.bool false,.none]}:=by
 unfold Kk
 heap_get
theorem LP(F:ExcBaseFacts B newId initId bmB)(T:OwnTail h bmB bm){rest:List Da}{Q:Fin->ka->Prop}(kl:h.get? C=some (im nm q C N bs bm hdct sn sub ab col dd k0 k1 k2 k3 k5 newId))(ns:h.Ns N mN)(hi:mN "__init__"=some (.ref f))(hrest:rest.length<=sizeLine)(hb:∀ self:Da,W.Looks (jb prog w) h (ut (.ref f) self) (.ref f,[self]))(hq:kj (jb prog w) A (.call (.ref f) ⟨.ref (h.objs.size+1)::rest,[]⟩) (λr s'=>match r with
   | .ok (.ret v)=>v=.none/\Q (.done (.ret (.ref (h.objs.size+1)))) s'
   | .ok _=>False
   | .error e=>E e s') ⟨Kk h C rest,g,d,t,os⟩):
  cb (jb prog w) A (nk.«type.__call__» ⟨.ref C::rest,[]⟩) Q E ⟨h,g,d,t,os⟩:=by
 repeat (first|with_reducible refine ah kl ?_|with_reducible refine wpAny_madeBy_exc kl ?_|wp_step)
 refine codeAny_call_builtin_code (pk _ F.quiet) (wpAny_check_new_subT F T kl ?_);refine codeAny_exc_new_subT F T kl ?_ hrest;show cb _ _ _ _ _ _;have kl1:(Kk h C rest).get? C=_:=Lk kl
 have ns1:(Kk h C rest).Ns N mN:=by
  obtain⟨o,es,ep,e,r⟩:=ns;exact⟨o,es,ep,Lk e,r⟩
 have tl1:=T.keeps (h':=Kk h C rest) λb o e=>Lk e;have hb1:=W.Looks.keeps (hb (.ref (h.objs.size+1))) (h':=Kk h C rest) λb o e=>Lk e;have at1:=Xw (h:=h) (C:=C) rest;have own:(Value.ref C::bm).contains (.ref C)=true:=by simp
 show cb _ _ _ _ _ ⟨Kk h C rest,g,d,t,os⟩;generalize Kk h C rest=h1 at*;unfold isInstance
 repeat (first|with_reducible refine ah at1 ?_|(with_reducible refine zm kl1 ?_;rw[own])|wp_step)
 show cb _ _ (typeLookup (.ref C) _) _ _ _;refine wpAny_typeLookup_tail kl1 ns1 tl1 F.mroIs F.init.lookup ?_;rw[hi];show cb _ _ (mn _ (ut _ _ >>= _)) _ _ _;refine ph (ja (W.Looks.at hb1 ?_));refine ja (xl (ii hq λr s' z=>?_));rcases r with e|(v|_|_|_)<;>first|exact z|exact z.elim|skip
 obtain⟨rfl,z⟩:=z;exact kb (kb z)
theorem TM(F:ExcBaseFacts B newId initId bmB)(T:OwnTail h bmB bm){rest:List Da}{Q:Da->ka->Prop}(kl:h.get? C=some (im nm q C N bs bm hdct sn sub ab col dd k0 k1 k2 k3 k5 newId))(ns:h.Ns N mN)(hi:mN "__init__"=some (.ref f))(hrest:rest.length<=sizeLine)(hb:∀ self:Da,W.Looks (jb prog w) h (ut (.ref f) self) (.ref f,[self]))(hq:kj (jb prog w) (A.under (.builtin "type.__call__" ⟨.ref C::rest,[]⟩)) (.call (.ref f) ⟨.ref (h.objs.size+1)::rest,[]⟩) (λr s'=>match r with
   | .ok (.ret v)=>v=.none/\Q (.ref (h.objs.size+1)) s'
   | .ok _=>False
   | .error e=>E e s') ⟨Kk h C rest,g,d,t,os⟩):
  cb (jb prog w) A (call (.ref C) rest) Q E ⟨h,g,d,t,os⟩:=by
 have look:=tc_lookup;have bnd:=tc_bind (.ref C);have isT:(⟨h,g,d,t,os⟩:ka).TypeIs (.ref C) "type":=⟨_,kl,rfl⟩
 refine xl (mq ?_);show cb _ _ (callAny (.ref C) _) _ _ _
 repeat (any_goals (first|assumption|with_reducible refine ah kl ?_|wp_step))
 refine⟨rfl,?_⟩;refine codeAny_call_builtin_at (pk _ (by decide +kernel)) entry_typeCall (wpAny_check_type_call_sub kl (LP F T kl ns hi hrest hb ?_));exact hq
end
end PySem
namespace PySem
open Sem (wp)
open Builtin Builtin.ObjectAttr W
variable{vs:Array Da}{sl:Array (Option Da)}{name:ua}{v:Da}{tk:Tok}{cd:ClassData}{n:Nat}
section
variable {prog:ic}{w:yd}{A:ye}{E:Da->ka->Prop}{h:pd}{g:Array rk}{d:Drawn}{t:Nat}{os:OsState}{K:td}
variable {nm q:ua}{C N e:ia}{bs bm bmB:List Da}{hdct:Bool}{sn:List ua}{sub:List Da}{ab:Bool}{col:Option Bool}{dd:Option ia}{k0 k1 k2 k3 k5:Option Da}{newId:String}
abbrev MS:List Da:= [.type "ValueError",.type "Exception",.type "BaseException",.type "object"]
def Ox:Nat->List Da->Bool
 |0,l=>l==MS
 |n+1,.ref _::r=>Ox n r
 |_+1,_=>false
theorem Yu(self:Da):∀ {n:Nat} {l:List Da},Ox n l=true->refuseLoop self "__setattr__" l=pure ()
 |0,_,e=>by rw[beq_iff_eq.mp e];exact F.store_ValueError.passes self
 |n+1,.ref _::r,e=>by rw[refuseLoop_ref];exact Yu (n:=n) self e
theorem UN{b:Bool}{Q:Fin->ka->Prop}(KX:K.In h)(he:h.get? e=some ⟨.ref C,none,.fields vs,sl⟩)(f4:clsIn K C=some cd)(f6:cd.hasDict=true)(hq:∀ h' tk' dx,(∀ b o,b≠e->h.get? b=some o->h'.get? b=some o)->h'.get? e=some ⟨.ref C,some dx,.fields vs,sl⟩->h.objs.size<=dx->h'.Ns1 dx (λx=>if x=name then some v else none)->Q (.done (.ret .none)) ⟨h',g,d,tk',os⟩):
  cb (jb prog w) A (storeInOwnDict (.ref e) (.ref C) (.str name tk) name v b) Q E ⟨h,g,d,t,os⟩:=by
 have es:e≠h.objs.size:=ag (sd he);have cl:=looks_clsIn (M:=jb prog w) KX f4;let d0:mh:= {cls:=.type "dict",data:=.dict #[]}
 have he1:(h.push d0).get? e=some ⟨.ref C,none,.fields vs,sl⟩:=ya _ he;unfold storeInOwnDict;refine ja (kb ?_);show cb _ _ (instanceDict e true >>= _) _ _ _;unfold instanceDict;refine ja (ja (wpAny_loadPart he ?_));show cb _ _ (classData C >>= _) _ _ _;refine ja (cl.at ?_);rw[f6];show cb _ _ (alloc d0 >>= _) _ _ _;refine ja (wpAny_alloc' ?_);refine ja (wpAny_update' he1 ?_);refine kb (a:=some h.objs.size) ?_
 have gd:((h.push d0).update e λo=> {cls:=o.cls,dict:=some h.objs.size,data:=o.data,slots:=o.slots}).get? h.objs.size=some d0:=
  (Heap.get?_update_ne _ _ _ _ es.symm).trans (Heap.get?_push_at rfl rfl)
 have ge:((h.push d0).update e λo=> {cls:=o.cls,dict:=some h.objs.size,data:=o.data,slots:=o.slots}).get? e=some ⟨.ref C,some h.objs.size,.fields vs,sl⟩:=zi _ he1 rfl
 have kp:∀ b o,b≠e->h.get? b=some o->((h.push d0).update e λo=> {cls:=o.cls,dict:=some h.objs.size,data:=o.data,slots:=o.slots}).get? b=some o:=λb o hb q=>
  (Heap.get?_update_ne _ _ _ _ hb).trans (ya _ q)
 show cb _ _ (storeInDict h.objs.size (.str name tk) name v) _ _ ⟨(h.push d0).update e _,g,d,t,os⟩;revert gd ge kp;generalize ((h.push d0).update e λo=> {cls:=o.cls,dict:=some h.objs.size,data:=o.data,slots:=o.slots})=h1;intro gd ge kp;have nd:h1.Ns h.objs.size (λ_=>none):=⟨_,#[],_,gd,rfl,λe he=>absurd he (by simp),λ_=>rfl⟩
 unfold storeInDict newKeyGuard;refine ja (kb (ja (wpAny_nsSet1 (Heap.Ns1.of_empty nd) λh' n1 same=>?_)));obtain⟨oD,eD,pD,oDh,dD,cD⟩:=n1.count (Within.cons name v Within.nil);refine ja (wpAny_lookBehind oDh (by rw[dD];exact pastItsLine_dict (bf cD (by rw[ba,lc,qe];omega))) ?_);refine kb (hq h' _ h.objs.size (λb o hb q=>(same.2 b (ag (sd q))).trans (kp b o hb q)) ((same.2 e es).trans ge) (Uf _) n1)
theorem YW{R:iq->ka->Prop}(KX:K.In h)(he:h.get? e=some ⟨.ref C,none,.fields vs,sl⟩)(f2:fg K (.ref C) name=some none)(f3:nv K C (.type "object")=some true)(f4:clsIn K C=some cd)(f5:Ox n cd.mro=true)(f6:cd.hasDict=true)(hq:∀ h' tk' dx,(∀ b o,b≠e->h.get? b=some o->h'.get? b=some o)->h'.get? e=some ⟨.ref C,some dx,.fields vs,sl⟩->h.objs.size<=dx->h'.Ns1 dx (λx=>if x=name then some v else none)->R (.ok (.ret .none)) ⟨h',g,d,tk',os⟩):
  kj (jb prog w) A (.call (.builtin "object.__setattr__") ⟨[.ref e,.str name tk,v],[]⟩) R ⟨h,g,d,t,os⟩:=by
 have L0:Looks (jb prog w) h (typeOf (.ref e)) (.ref C):=(lu he).andThen .now;have L2:=wm (M:=jb prog w) KX f2;have L3:Looks (jb prog w) h (isInstance (.ref e) (.type "object")) true:=L0.andThen (looks_mroIn KX f3);have L4:Looks (jb prog w) h (mroOf (.ref C)) cd.mro:=(looks_clsIn KX f4).andThen .now;have SF:=F.store_object;refine og SF.slot.plain SF.entry (@check_slot (jb prog w) _ _ ⟨h,g,d,t,os⟩ "object.__setattr__" "object" "__setattr__" (.ref e) [.str name tk,v] [] _ SF.kind SF.split L3 (SF.args (.ref e) (.str name tk) v) ?_);rw[osa_eq,refuse_eq];refine ja (ja (L0.at (ja (L4.at ?_))));rw[Yu _ f5];refine kb (ja (L0.at (ja (L2.at (ja (kb (a:=(none:Option Da)) ?_))))));exact UN KX he f4 f6 λh' tk' dx a b c e=>hq h' tk' dx a b c e
theorem WJ{Q:Unit->ka->Prop}(KX:K.In h)(he:h.get? e=some ⟨.ref C,none,.fields vs,sl⟩)(f1:fg K (.ref C) "__setattr__"=some (some (.builtin "object.__setattr__")))(f2:fg K (.ref C) name=some none)(f3:nv K C (.type "object")=some true)(f4:clsIn K C=some cd)(f5:Ox n cd.mro=true)(f6:cd.hasDict=true)(hq:∀ h' tk' dx,(∀ b o,b≠e->h.get? b=some o->h'.get? b=some o)->h'.get? e=some ⟨.ref C,some dx,.fields vs,sl⟩->h.objs.size<=dx->h'.Ns1 dx (λx=>if x=name then some v else none)->Q () ⟨h',g,d,tk',os⟩):
  cb (jb prog w) A (setAttr (.ref e) name v) Q E ⟨h,g,d,t,os⟩:=by
 have L0:Looks (jb prog w) h (typeOf (.ref e)) (.ref C):=(lu he).andThen .now;have L1:=wm (M:=jb prog w) KX f1;unfold setAttr callSpecial? specialOf
 repeat (first|with_reducible refine xl ?_|lk)
 refine YW KX he f2 f3 f4 f5 f6 λh' tk' dx a b c e=>?_;exact kb (kb (hq h' tk' dx a b c e))
end
end PySem
namespace PySem
open Sem (wp)
open W
section
variable {prog:ic}{w:yd}{A:ye}{E:Da->ka->Prop}{h:pd}{g:Array rk}{d:Drawn}{t:Nat}{os:OsState}
variable {nm q:ua}{C N e:ia}{bs bm bmB:List Da}{hdct:Bool}{sn:List ua}{sub:List Da}{ab:Bool}{col:Option Bool}{dd:Option ia}{k0 k1 k2 k3 k5:Option Da}{B newId initId:String}
theorem Vv(F:ExcBaseFacts B newId initId bmB)(T:OwnTail h bmB bm)(kl:h.get? C=some (im nm q C N bs bm hdct sn sub ab col dd k0 k1 k2 k3 k5 newId)){t0:ia}{sl:Array (Option Da)}{u:Da}{Q:Da->ka->Prop}(he:h.get? e=some ⟨.ref C,none,.fields #[.ref t0,.none,.none,.none,.bool false,.none],sl⟩)(hq:∀ h' t1,(∀ b o,b≠e->h.get? b=some o->h'.get? b=some o)->h'.get? e=some ⟨.ref C,none,.fields #[.ref t1,.none,.none,.none,.bool false,.none],sl⟩->Q .none ⟨h',g,d,t,os⟩):
  cb (jb prog w) A (call (.builtin initId) [.ref e,u]) Q E ⟨h,g,d,t,os⟩:=by
 refine xl (og F.init.plain F.initEntry (wpAny_check_init_subT F T kl he rfl ?_));wp_walk;have he1:(h.push {cls:=.type "tuple",data:=.seq #[u]}).get? e=some ⟨.ref C,none,.fields #[.ref t0,.none,.none,.none,.bool false,.none],sl⟩:=ya _ he;refine hq _ h.objs.size (λb o hb k=>?_) ?_
 .rw[ui _ _ (jg hb)];exact ya _ k
 .rw[zi _ he1 rfl];rfl
end
end PySem
namespace L2
open PySem PySem.Spec PyProof.Rows
def Uq(a C:ia)(h:pd):Prop:=∃ t0 sl,h.get? a=some ⟨.ref C,none,.fields #[.ref t0,.none,.none,.none,.bool false,.none],sl⟩
def Xj(a C:ia)(dx:Option ia)(h:pd):Prop:=∃ t0 sl,h.get? a=some ⟨.ref C,dx,.fields #[.ref t0,.none,.none,.none,.bool false,.none],sl⟩
variable{P:ic}{w:yd}{H:Hp}{a C:ia}
theorem YG{h:pd}(x:Uq a C h):ObjOk P w H h a (.ext (Uq a C)):=by
 obtain⟨t0,sl,e⟩:=x;exact⟨⟨t0,sl,e⟩,⟨_,e⟩,λh1 h2 ⟨t,z,q⟩ k=>⟨t,z,k _ q⟩⟩
theorem YU{h:pd}{dx:Option ia}(x:Xj a C dx h):ObjOk P w H h a (.ext (Xj a C dx)):=by
 obtain⟨t0,sl,e⟩:=x;exact⟨⟨t0,sl,e⟩,⟨_,e⟩,λh1 h2 ⟨t,z,q⟩ k=>⟨t,z,k _ q⟩⟩
variable{X:Cx}
theorem WO{pins:List (ia×mh)}{σ:St}{H':Hp}{s s':ka}{u:HO}(I:Inv X pins σ H s)(I':Inv X pins σ H' s')(hex:X.ex= [])(new:s.heap.get? a=none)(nh:H' a=none)(x:ObjOk X.prog X.w (Lb H' a u) s'.heap a u):Inv X pins σ (Lb H' a u) s':=by
 have ne:∀ b o,s.heap.get? b=some o->b≠a:=λb o e z=>by rw[z,new]at e;cases e
 have ne0:∀ b o,X.s₀.heap.get? b=some o->b≠a:=λb o e=>by
  obtain⟨o',e'⟩:=I.base.there b o e (by rw[hex];simp);exact ne b o' e'
 have up:∀ b o,H' b=some o->Lb H' a u b=some o:=λb o e=>by rw[Ea (Sa e nh)];exact e
 refine⟨I'.ok,I'.os,I'.bare,⟨I'.base.keep,I'.base.slot,λb o e n hx=>?_,I'.base.there,λb xs e=>up _ _ (I'.base.tups b xs e),λb o v e=>up _ _ (I'.base.frzs b o v e),λb ps e=>?_⟩,I'.loc,I'.cell,?_,λy c e=>?_,λp hp=>?_,λb v e=>?_,I'.len⟩
 .rw[Ea (ne0 b o e)];exact I'.base.free b o e n hx
 .obtain⟨m,e1⟩:=I'.base.tbls b ps e;exact⟨m,up _ _ e1⟩
 .obtain⟨m,⟨o,_,_,ho,_⟩,_⟩:=I.loc;rw[Ea (ne _ o ho)];exact I'.free
 .obtain⟨v,o,ho,_⟩:=I.cell y c e;rw[Ea (ne c o ho)];exact I'.freeC y c e
 .obtain⟨e,n,r⟩:=I'.pin p hp;refine⟨e,?_,r⟩;rw[Ea (ne p.1 _ (I.pin p hp).1)];exact n
 .by_cases hb:b=a
  .subst hb;rw[Ta]at e
   cases e;exact x
  .rw[Ea hb]at e
   exact(I'.hok b v e).stay (λ_ _ _ q=>q) (λc q=>up _ _ q) λc xs q=>up _ _ q
theorem JS{o:HO}(e:H a=some o):Lb H a o=H:=by
 funext b;unfold Lb;split
 .rename_i z;rw[z,e]
 .rfl
structure XInit(K:td)(C S f:ia):Prop where
 obj:∃ nm q N bs bm hdct sn sub ab col dd k0 k1 k2 k3 k5,K.lookup C=some (im nm q C N bs bm hdct sn sub ab col dd k0 k1 k2 k3 k5 "ValueError.__new__")/\PySem.W.nsOkIn K N=true/\
  je K N "__init__"=some (some (.ref f))/\PySem.W.tailIn K MS bm=true
 ini:typeIn K (.ref f)=some (.type "function")
 kpC:kf K (.ref C)=true
 sa:fg K (.ref C) "__setattr__"=some (some (.builtin "object.__setattr__"))
 ob:nv K C (.type "object")=some true
 cl:∃ cd n,PySem.W.clsIn K C=some cd/\Ox n cd.mro=true/\cd.hasDict=true
 bga:specialIn K (.ref S) "__getattribute__"=some (some (.builtin "type.__getattribute__"))
 brd:PySem.W.readsIn K S (.type "type")=true
 bfi:PySem.W.findCls K (.ref S) (.type "type") "__init__"=some (.val (.builtin "ValueError.__init__"))
section
variable {pos p apos p2:bh}{a b o e:nc}{es:List nc}{ta tb to:TE}{t:TA}{S f:ia}
theorem LQ{x:ua}{pl:Sem Bool}(Z:XInit X.K C S f)(hg:Gl X x)(hm:X.mg x=some (.ref S))(ha:PA X (e::es) t)(hdb:(x==("__debug__":ua))=false:=by decide)(hst:Fa (e::es) X.env=(false,eval e X.env)::Fa es X.env:=by rfl)(hpl:(yc pos (Fa es X.env)).any (·.1)=false:=by rfl)(hkw:bj pos (ig [] X.env)= []:=by rfl)(ht:eval (.Call (.Attribute (.Name x p) "__init__" apos) (e::es) [] pos) X.env=(do
   let ov <-eval (.Name x p) X.env
   uu apos.atName
   let (f,first) <-mn [ov] (getMethod ov "__init__" pl)
   callWith pos f first (yc pos (Fa (e::es) X.env)) (bj pos (ig [] X.env))):=by rfl):
  PE X (.Call (.Attribute (.Name x p) "__init__" apos) (e::es) [] pos) (λσ H Q=>t σ H λvs H1=>∃ a z,vs= [.ref a,.str z]/\H1 a=some (.ext (Uq a C))/\Q .non H1):=by
 intro pins s σ H Q I h;refine PySem.W.methodCall_KW (pl:=pl) (Bk I hg hm ?_ hdb) ht;refine PySem.W.method_cls I.kIn Z.bga (PySem.W.cls_value I.kIn Z.brd Z.bfi rfl ?_);rw[hkw];have hA:=ha pos pins {s with toks:=s.toks+1} σ H _ (I.tok _) h;rw[hst]at hA ⊢
 refine Pv (by show(false||(yc pos (Fa es X.env)).any (·.1))=false;rw[hpl]<;>rfl) (xp ?_);refine thn hA λus s2 ⟨vs,H2,I2,r2,a,z,ev,hH,q⟩=>?_;subst ev;obtain⟨u1,u2,rfl,ra,rz⟩:=Vals.two r2;obtain rfl:u1=.ref a:=ra;obtain⟨nm,qn,N,bs,bm,hdct,sn,sub,ab,col,dd,k0,k1,k2,k3,k5,lk,_,_,tl⟩:=Z.obj;obtain⟨⟨t0,sl,he⟩,_,_⟩:=I2.hok a _ hH;obtain⟨hp,g,d,tk,os⟩:=s2;refine Vv F.excBase_ValueError (dv I2.kIn tl) (I2.kIn _ _ lk) he λh' t1 k ge=>?_;have I3:=I2.write (h':=h') (t':=tk) (x:=a) (e:=a) (o:=.ext (Uq a C)) (by rw[hH];trivial) (.inl rfl) k ⟨_,ge⟩ (YG ⟨t1,sl,ge⟩);rw[JS hH]at I3
 exact⟨.non,H2,I3,rfl,q⟩
theorem Y4{attr:ua}(hex:X.ex= [])(Z:XInit X.K C S f)(hna:fg X.K (.ref C) attr=some none)(ho:PE X o to):
  PG X (.Attribute o attr apos) (λv σ H Q=>to σ H λx H1=>∃ a,x=.ref a/\H1 a=some (.ext (Uq a C))/\∀ d,H1 d=none->X.s₀.heap.get? d=none->Q σ (Lb (Lb H1 a (.ext (Xj a C (some d)))) d (.xd [(attr,v)]))):=by
 intro pins s σ H v u Q I r h;rw[arm_assign_Attribute];refine ja (ph (thn (ho pins s σ H _ I h) λov s1 ⟨x,H1,I1,r1,a,ex,hH,q⟩=>?_));subst ex;obtain rfl:ov=.ref a:=r1;obtain⟨⟨t0,sl,he⟩,_,_⟩:=I1.hok a _ hH;obtain⟨cd,n,c1,c2,c3⟩:=Z.cl;obtain⟨hp,g,d,tk,os⟩:=s1;refine ja (xi (ja (ph (WJ I1.kIn he Z.sa hna Z.ob c1 c2 c3 λh' tk' dx k ge le ns=>?_))));have I3:=I1.write (h':=h') (t':=tk') (x:=a) (e:=a) (o:=.ext (Xj a C (some dx))) (by rw[hH];trivial) (.inl rfl) k ⟨_,ge⟩ (YU ⟨t0,sl,ge⟩);have hd1:H1 dx=none:=I1.hok.fresh le;have hdn:hp.get? dx=none:=pp le
 have hd0:X.s₀.heap.get? dx=none:=by
  cases z:X.s₀.heap.get? dx with
  |none=>rfl
  |some o=>
   obtain⟨o',e'⟩:=I1.base.there dx o z (by rw[hex];simp);rw[show _=hp.get? dx from rfl]at e'
   rw[hdn]at e';cases e'
 have hda:dx≠a:=λz=>by rw[z,hH]at hd1;cases hd1
 have I4:=WO (u:=.xd [(attr,v)]) I1 I3 hex hdn (by rw[Ea hda];exact hd1) ⟨_,ns,λy=>by
  by_cases hy:y=attr
  .subst hy;simp only[sf,beq_self_eq_true,if_true];exact r
  .have:(y==attr)=false:=by simp[hy]
   simp only[sf,this,List.lookup_nil,if_neg hy]
   trivial⟩
 exact wpAny_release ⟨σ,_,I4,q dx hd1 hd0⟩
end
end L2
namespace L3
open PySem PySem.Spec PyProof.Rows L2 SeqAt
def spE(C:ia)(attr:ua):Sp:=λvs H Q _=>∃ a i,vs= [.ref a,.int i]/\i.natAbs.log2<1920/\(toString i:ua).length<=1000/\H a=some (.ext (Uq a C))/\∀ d,H d=none->Q .non (Lb (Lb H a (.ext (Xj a C (some d)))) d (.xd [(attr,.int i)]))
structure XInE(X:Cx)(C:ia)(attr:ua)(sts:List yf):Prop where
 h:PSs X sts (λD σ H=>∃ a i,σ[0]? =some (some (.ref a))/\σ[1]? =some (some (.int i))/\i.natAbs.log2<1920/\(toString i:ua).length<=1000/\H a=some (.ext (Uq a C))/\∀ d,H d=none->D.nx σ (Lb (Lb H a (.ext (Xj a C (some d)))) d (.xd [(attr,.int i)])))
variable{X:Cx}{C:ia}
section
variable {S f:ia}{xb self x attr c0:ua}{p1 p2 p3 p4 p5 p6 p7 p8 p9 q1 q2 q3 q4:bh}{j:Nat}
end
def Uw(H:Hp)(a:ia):Hp:=λb=>if b=a then none else H b
variable{H:Hp}{a b:ia}
theorem Hh(h:b≠a):Uw H a b=H b:=by unfold Uw;rw[if_neg h]
theorem Ik:Uw H a a=none:=by unfold Uw;rw[if_pos rfl]
theorem Jk{o:HO}(h:Uw H a b=some o):b≠a/\H b=some o:=by
 unfold Uw at h;split at h
 .cases h
 .rename_i z;exact⟨z,h⟩
section
variable {pins:List (ia×mh)}{σ:L2.St}{s:ka}{dx:Option ia}{M:Model}{Ex:Da->ka->Prop}
theorem FV{E:XK}{Q:Unit->ka->Prop}(I:Inv X pins σ H s)(hex:X.ex= [])(hst:X.stack=X.env::X.outer)(hfr:X.env.frame=some X.env.locals)(hH:H a=some (.ext (Xj a C dx)))(hnew:X.s₀.heap.get? a=none)(hE:E (.ref C) (dx,true) (Uw H a))(hQ:∀ s'',HA X.prog X.w X.outer X.H₀ X.s₀ E (.ref a) s''->Q () s''):cb M X.A (yu X.env (.ref a)) Q Ex s:=by
 have es:=Sk hst hfr;have noex:∀ b,b∉X.ex:=λb=>by rw[hex];simp
 obtain⟨⟨t0,sl,he⟩,_,_⟩:=I.hok a _ hH;have nst:∀ b u,H b=some u->b∉Ff X.stack:=λb u q z=>by rw[I.stkFree b z]at q;cases q
 have hin:∀ env∈X.env::X.outer,∀ b,env.frame=some b->b∈a::Ff X.stack:=λenv q b hb=>by
  rw[hst];exact ib _ (uk.mpr ⟨env,q,hb⟩)
 have ff:s.heap.FunFrames (qi s.heap (a::Ff X.stack)) (X.env::X.outer):=uo (by rw[<-hst];exact I.stack) hin;have old:∀ b o,X.s₀.heap.get? b=some o->b≠a:=λb o q z=>by rw[z,hnew]at q;cases q
 have nl:∀ b,b∉Ff X.outer->((Uw H a b).isSome=true\/(X.s₀.heap.get? b).isSome=true)->b∉a::Ff X.stack:=λb hb h z=>by
  rcases xc.mp z with z|z
  .rw[z,Ik,hnew]at h
   rcases h with h|h<;>cases h
  .rw[es]at z
   rcases xc.mp z with z|z
   .rw[z]at h
    rcases h with h|h
    .obtain⟨o,q⟩:=ve.mp h;have:=(Jk q).2;rw[I.free]at this;cases this
    .obtain⟨o,q⟩:=ve.mp h;exact absurd (bd (sd q) I.ok.above) (xh _)
   .exact hb z
 have inB:∀ b o,s.heap.get? b=some o->b∉a::Ff X.stack->(qi s.heap (a::Ff X.stack)).get? b=some o:=λb o q hb=>hideAll_get _ q hb;have gone:(qi s.heap (a::Ff X.stack)).get? a=none:=jp _ (kc ..);refine(Eu X.env (.ref a)).thn (Q:=λ_ s''=>∃ h',s''= {s with heap:=h'}/\Heap.LeftW (qi s.heap (a::Ff X.stack)) (X.env::X.outer) a (.ref C) (.ref t0) s.heap h') (wpAny_leaving_firstW (base:=qi s.heap (a::Ff X.stack)) (by rw[<-hst];exact I.ok.frames) ff hfr he (λb o q=>of_hideAll _ q) gone rfl rfl rfl λh' hL=>⟨h',rfl,hL⟩) λ_ s'' ⟨h',e'',hL⟩ dk=>?_;subst e'';obtain⟨od',ed',dd'⟩:=dk a _ he;obtain⟨k1,⟨_,_,k2⟩,k3,k4⟩:=hL
 have slots:∀ {b:ia} {o:mh},b∈Ff X.outer->s.heap.get? b=some o->∃ sl,h'.get? b=some {o with slots:=sl}:=λ{b o} hb q=>by
  obtain⟨_,o',e',nf⟩:=I.funs.mem hb;rw[q]at e';cases e'
  exact k4 b o q nf
 refine hQ _ ⟨a,.ref C,(dx,true),Uw H a,rfl,I.os,I.bare,⟨⟨λb o e n hb hx=>?_,λb o e n hb hx=>?_,λb o e n hx=>?_,λb o e hx=>?_,λb xs e=>?_,λb o u e=>?_,λb ps e=>?_⟩,λb u e=>?_,λb hb=>?_,hnew,Ik,⟨od',ed',DcOk.to (dx:=(dx,true)) ⟨rfl,λ_=>⟨_,rfl,rfl⟩⟩ dd'⟩,_,_,⟨k1,gone,k2,k3⟩,λb hb h=>?_⟩,hE⟩
 .exact k1 b o (inB b o (I.base.keep b o e n hb (noex b)) (nl b hb (.inr (by rw[e];rfl))))
 .obtain⟨z1,e1⟩:=I.base.slot b o e n hb (noex b);obtain⟨z2,e2⟩:=slots hb e1;exact⟨z2,e2⟩
 .rw[Hh (old b o e)];exact I.base.free b o e n (noex b)
 .obtain⟨o',e1⟩:=I.base.there b o e (noex b);by_cases hb:b∈Ff X.outer
  .obtain⟨z,e2⟩:=slots hb e1;exact⟨_,e2⟩
  .exact⟨o',k1 b o' (inB b o' e1 (nl b hb (.inr (by rw[e];rfl))))⟩
 .have q:=I.base.tups b xs e;rw[Hh (λz=>by rw[z,hH]at q;cases q)];exact q
 .have q:=I.base.frzs b o u e;rw[Hh (λz=>by rw[z,hH]at q;cases q)];exact q
 .obtain⟨more,q⟩:=I.base.tbls b ps e;exact⟨more,by rw[Hh (λz=>by rw[z,hH]at q;cases q)];exact q⟩
 .obtain⟨ne,q⟩:=Jk e
  have nin:∀ c v,c≠a->H c=some v->c∉a::Ff X.stack:=λc v hc hq z=>by
   rcases xc.mp z with z|z
   .exact hc z
   .exact nst c v hq z
  refine(I.hok b u q).stay (λc v hc q2=>?_) (λc z=>?_) λc xs z=>?_
  .rcases hc with rfl|hc
   .exact k1 c v (inB c v q2 (nin c u ne q))
   .exact k1 c v (inB c v q2 (nin c _ (λz=>by rw[z,hH]at hc;cases hc) hc))
  .rw[Hh (λy=>by rw[y,hH]at z;cases z)];exact z
  .rw[Hh (λy=>by rw[y,hH]at z;cases z)];exact z
 .by_cases hba:b=a
  .rw[hba];exact Ik
  .rw[Hh hba];exact I.stkFree b (by rw[es];exact ib _ hb)
 .have hb':=nl b hb h
  have:∃ o,s.heap.get? b=some o:=by
   rcases h with h|h
   .obtain⟨u,q⟩:=ve.mp h;exact Aq (I.hok b u (Jk q).2)
   .obtain⟨o,q⟩:=ve.mp h;exact I.base.there b o q (noex b)
  obtain⟨o,q⟩:=this;rw[inB b o q hb'];rfl
end
end L3
namespace PySem
open Sem (wp)
section
variable {M:Model}{A:ye}{E:Da->ka->Prop}{s:ka}{env:cq}
variable {nm q:ua}{C N:ia}{bs bm:List Da}{hdct:Bool}{sn:List ua}{sub:List Da}{ab:Bool}{col:Option Bool}{dd:Option ia}{k0 k1 k2 k3 k5:Option Da}{newId:String}
theorem IF{x:Sem Da}{Q:Flow->ka->Prop}(hbase:bm.contains (.type "BaseException")=true)(hh:A.handled=none)(h:cb M A x (λv s1=>∃ e dx t0 sl,v=.ref e/\s1.heap.get? C=some (im nm q C N bs bm hdct sn sub ab col dd k0 k1 k2 k3 k5 newId)/\
   s1.heap.get? e=some ⟨.ref C,dx,.fields #[.ref t0,.none,.none,.none,.bool false,.none],sl⟩/\E (.ref e) s1) E s):
  cb M A (raiseStmt env (some x) none) Q E s:=by
 have own:(Value.ref C::bm).contains (.type "BaseException")=true:=by rw[List.contains_cons,hbase,Bool.or_true]
 unfold raiseStmt;refine ja (se h (λv s1 z=>?_) λ_ _ y=>y);obtain⟨e,dx,t0,sl,rfl,kl,at1,last⟩:=z;obtain⟨hp,g,d,tk,os⟩:=s1
 repeat (first|with_reducible refine ah at1 ?_|with_reducible refine ah kl ?_|(with_reducible refine zm kl ?_;rw[own])|wp_step)
 exact wpAny_raiseNew_none hh last
end
end PySem
namespace L2
open PySem PySem.Spec PyProof.Rows
theorem B4{K:td}{h:pd}{N:ia}{mN:ua->Option Da}{n:ua}{v:Da}(KX:K.In h)(G:h.Ns N mN)(e:je K N n=some (some v)):mN n=some v:=by
 obtain⟨o,es,ep,at1,dt,_,fnd⟩:=G;unfold je at e;split at e
 .rename_i c d es2 n2 sl lk;have q:=KX _ _ lk;rw[at1]at q
  cases q;cases dt;rw[<-fnd];unfold nsFind findBy;rw[<-Array.find?_toList];split at e
  .rename_i en he;rw[he];cases e;rfl
  .split at e<;>cases e
 .cases e
section
variable {X:Cx}{C S f:ia}{fd:lg}{ps:List ua}{sp:Sp}{k:Nat}{x:ua}{p pos:bh}{e:nc}{es:List nc}{t:TA}
end
end L2
namespace L3
open PySem PySem.Spec PyProof.Rows L2 SeqAt
theorem DY{i:Int}(h0:0<=i)(h1:i<1000):i.natAbs.log2<1920/\(toString i:ua).length<=1000:=by
 obtain⟨n,rfl⟩:∃ n:Nat,i=n:=⟨i.toNat,by omega⟩
 have h:∀ n:Nat,n<1000->(n:Int).natAbs.log2<1920/\(toString (n:Int):ua).length<=1000:=by decide +kernel
 exact h n (by omega)
structure FnE(P:ic)(w:yd)(K:td)(mg:ua->Option Da)(base:pd)(k:Nat)(c attr:ua):Prop where
 ex:∃ j C S f fd ps,j+1<=k/\FnOk P w K mg base Fp j f fd ps (spE C attr)/\XInit K C S f/\mg c=some (.ref C)/\je K aa c=some (some (.ref C))/\Binds K fd ps []
def LM(X:Cx)(xw:XW):Prop:=∀ (pins:List (ia×mh)) (σ:L2.St) (H:Hp) (s:ka) (a C:ia) (dx:Option ia) (c:ua) (fs:List D),Inv X pins σ H s->H a=some (.ext (Xj a C dx))->X.s₀.heap.get? a=none->
 je X.K aa c=some (some (.ref C))->ExF (Uw H a) (dx,true) fs->xw c fs (Uw H a)->X.xe (.ref a) s
variable{f:ia}
theorem Mn{P:ic}{w:yd}{K:td}{mg:ua->Option Da}{base:pd}{N:List ua}{qual:ua}{scope:io}{cd:Da}{A:ye}{outer:List cq}{s₀:ka}{H₀:Hp}{E:XK}:
  LM (Xl (HA P w) P w K mg base N qual scope f cd A outer s₀ H₀ E) (F7 K E):=by
 intro pins σ H s a C dx c fs I hH hnew hn xf q;exact FV I rfl rfl rfl hH hnew (q (.ref C) (dx,true) hn xf) λs'' z=>z
theorem Mp{H:Hp}{a d:ia}{o u:HO}(h:H a=none)(n:d≠a):Uw (Lb (Lb H a o) d u) a=Lb H d u:=by
 funext b;unfold Uw Lb;by_cases h1:b=a
 .rw[if_pos h1,h1,if_neg (jg n),h]
 .rw[if_neg h1];by_cases h2:b=d
  .rw[if_pos h2,if_pos h2]
  .rw[if_neg h2,if_neg h2,if_neg h1]
variable{X:Cx}{xw:XW}
section
variable {C S:ia}{fd:lg}{ps:List ua}{k:Nat}{x c attr:ua}{p pos np cpos:bh}{e a:nc}{es:List nc}{t:TA}{fs:Ha->Res (List D)}
end
section
variable {tg it:nc}{f:Ha->Res (List D)}
theorem PI.nox{t:TI}(h:PI X.nox tg it t):PI X tg it t:=λpins s σ H R I hw=>
 se (h pins s σ H R (I.wish _) hw) (λv s1 q=>se q (λ_ _ ⟨a,fp,tn,J,H',e,I',r⟩=>⟨a,fp,tn,J,H',e,I'.unwish,r⟩) λ_ _ z=>ud z) λ_ _ z=>ud z
theorem U8(h:XI X.nox Nr tg it f):XI X xw tg it (Mg f):=⟨PI.weak (PI.nox h.h) λσ H R ⟨W₀,H₀,W,δ,st,q⟩=>⟨W₀,H₀,W,δ,st,by
 dsimp only[Mg]at q;cases hq:f δ with
 |ok d=>rw[hq]at q;exact q
 |ex c fs=>rw[hq]at q;exact q.elim
 |stuck=>rw[hq]at q;exact q.elim⟩⟩
end
end L3
namespace L3
open PySem PySem.Spec PySem.Calls PyProof.Rows PySem.W Builtin Builtin.ObjectAttr Builtin.Getset_descriptor
variable{tk:Tok}{Q:Da->ka->Prop}{expr:Bool}
section
variable {prog:ic}{w:yd}{A:ye}{E:Da->ka->Prop}{h:pd}{g:Array rk}{d:Drawn}{t:Nat}{os:OsState}{K:td}{a C:ia}{o:mh}{od:Option mh}{name:ua}{v:Da}
theorem YS{Q:Fin->ka->Prop}(X:K.In h)(J:InstAt h a o C od)(hf:findObj K C od name=some (.value v))(hq:Q (.done (.ret v)) ⟨h,g,d,t,os⟩):
  cb (jb prog w) A (nk.«object.__getattribute__» ⟨[.ref a,.str name tk],[]⟩) Q E ⟨h,g,d,t,os⟩:=by
 have L0:=J.type (M:=jb prog w);have L1:=looks_find (M:=jb prog w) X J hf;unfold nk.«object.__getattribute__»
 repeat (first|assumption|refine ja (L0.at ?_)|refine ja (L1.at ?_)|wp_step)
theorem TY{R:iq->ka->Prop}(X:K.In h)(J:InstAt h a o C od)(z:ExcK K C)(hf:findObj K C od name=some (.value v))(hq:R (.ok (.ret v)) ⟨h,g,d,t,os⟩):
  kj (jb prog w) A (.call (.builtin "BaseException.__getattribute__") ⟨[.ref a,.str name tk],[]⟩) R ⟨h,g,d,t,os⟩:=by
 have L0:=J.type (M:=jb prog w);have L1:=looks_mroIn (M:=jb prog w) X z.be;have hk:builtinKind "BaseException.__getattribute__"=some .slot:=by decide +kernel
 have hsplit:splitId "BaseException.__getattribute__"=some ("BaseException","__getattribute__"):=by decide +kernel
 have ha:=F.args_bexc_ga (.ref a) (.str name tk);have hp:plainId "BaseException.__getattribute__"=true:=by decide +kernel
 refine og hp F.entry_bexc_ga ?_;simp only[gp,hk,hsplit];refine ja ((L0.andThen L1).at ?_);simp only[jf,Sc,if_false]
 repeat (first|assumption|exact YS X J hf hq|wp_step)
theorem Qa0{fill:Bool}(X:K.In h)(J:InstAt h a o C od)(z:ExcK K C)(hf:findObj K C od name=some (.value v))(hv:handedIn v=true)(hq:Q v ⟨h,g,d,t,os⟩):
  cb (jb prog w) A (getAttrBy (.ref a) (.str name tk) fill expr) Q E ⟨h,g,d,t,os⟩:=by
 have L0:=J.type (M:=jb prog w);have L1:=wm (M:=jb prog w) X z.ga;have L2:=wm (M:=jb prog w) X z.gt;have f3:ut (.builtin "BaseException.__getattribute__") (.ref a)=pure (.builtin "BaseException.__getattribute__",[.ref a]):=F.excAttr_ValueError.ga.bind (.ref a);have hx0:(expr&&onTheHeap (Value.builtin "BaseException.__getattribute__"))=false:=by cases expr<;>rfl
 have hx2:(Value.builtin "BaseException.__getattribute__"==Value.builtin "object.__getattribute__")=false:=by decide +kernel
 have hx1:(onTheHeap (Value.ref C)&&Value.builtin "BaseException.__getattribute__"==Value.builtin "object.__getattribute__")=false:=by rw[hx2];rfl
 have ho:=handedOut_of hv
 repeat (any_goals (first|assumption|refine ja (L0.at ?_)|refine ja (L1.at ?_)|refine ja (L2.at ?_)|wp_step))
 refine TY X J z hf ?_
 repeat (any_goals (first|assumption|(rw[ho];exact kb hq)|wp_step))
theorem SY(X:K.In h)(J:InstAt h a o C od)(z:ExcK K C)(hf:findObj K C od name=some (.value v))(hv:handedIn v=true)(hq:Q v ⟨h,g,d,t+1,os⟩):
  cb (jb prog w) A (getAttr (.ref a) name expr) Q E ⟨h,g,d,t,os⟩:=by
 unfold getAttr
 repeat (any_goals (first|assumption|with_reducible apply Qa0 X J z hf hv|wp_step))
end
end L3
namespace L3
open PySem PySem.Spec PyProof.Rows L2 SeqAt
structure FldX(K:td)(c attr:ua):Prop where
 ex:∃ C,je K aa c=some (some (.ref C))/\ExcK K C/\zn K C=true/\fg K (.ref C) attr=some none
def Yw(f:ua):List D->List D->Option D
 | .str n::ns,x::vs=>if f=n then some x else Yw f ns vs
 |_,_=>none
def XN(cs:List ua)(f:ua):D->Res D
 | .exc c (.tup ns::vs)=>if c∈cs then(match Yw f ns vs with|some x=>.ok x|none=>.stuck) else .stuck
 | .exc c (.non:: .tup ns::vs)=>if c∈cs then(match Yw f ns vs with|some x=>.ok x|none=>.stuck) else .stuck
 |_=>.stuck
variable{K:td}{W:WS}{H:Hp}{x:D}{v:V}
theorem GI(h:UR x=some v):Has K W H x v:=by
 cases x with
 |non=>cases h;rw[Has]
 |bl b=>cases h;rw[Has]
 |int i=>cases h;rw[Has]
 |str z=>cases h;rw[Has]
 |_=>cases h
theorem CD{K:td}{W:WS}{H:Hp}:∀ {ds:List D} {xs:List V},ds.map UR=xs.map some->HasL K W H ds xs
 | [],[],_=>by rw[HasL]
 |d::ds,x::xs,h=>by
  rw[db,db]at h
  injection h with h1 h2
  rw[HasL];exact⟨x,xs,rfl,GI h1,CD h2⟩
 | [],_::_,h=>by simp at h
 |_::_,[],h=>by simp at h
theorem ExV.has(h:ExV H x v):Has K W H x v:=by
 rcases h with h|⟨ds,a,o,xs,rfl,rfl,e,q⟩
 .exact GI h
 .rw[Has];exact⟨a,xs,rfl,.inr (.inl ⟨o,e⟩),CD q⟩
theorem GB{H:Hp}{f:ua}{x:D}:∀ {kvs:List (ua×V)} {vs:List D},ExVs H vs (kvs.map (·.2))->Yw f (kvs.map λp=>D.str p.1) vs=some x->∃ v,kvs.lookup f=some v/\ExV H x v
 | [],[],_,e=>by cases e
 |p::kvs,y::vs,⟨h,t⟩,e=>by
  have e:(if f=p.1 then some y else Yw f (kvs.map λp=>D.str p.1) vs)=some x:=e;split at e
  .rename_i q;cases e;exact⟨p.2,by obtain⟨n,v⟩:=p;simp only at q;subst q;simp[sf],h⟩
  .rename_i q;obtain⟨v,h1,h2⟩:=GB t e;refine⟨v,?_,h2⟩;obtain⟨n,u⟩:=p;rw[sf,show(f==n)=false from by simpa using q];exact h1
 | [],_::_,h,_=>h.elim
 |_::_,[],h,_=>h.elim
section
variable {X:Cx}{xw:XW}{e:nc}{f:Ha->Res D}{pos:bh}{attr:ua}{ta:TE}
theorem T4(he:PE X e ta)(hb:dg e attr X.env (eval e X.env)=eval e X.env):PE X (.Attribute e attr pos) (λσ H Q=>ta σ H λx H1=>∃ a C dx z kvs v,x=.ref a/\H1 a=some (.ext (ExcAt a (.ref C) (some dx,z)))/\H1 dx=some (.xd kvs)/\
  ExcK X.K C/\zn X.K C=true/\fg X.K (.ref C) attr=some none/\kvs.lookup attr=some v/\Q v H1):=by
 intro pins s σ H Q I h;refine NG hb (thn (he pins s σ H _ I h) λu s1 ⟨x,H1,I1,rx,a,C,dx,zz,kvs,v,ex,ea,ed,z,hd,na,lk,q⟩=>?_);subst ex;obtain rfl:u=Value.ref a:=rx;obtain⟨⟨o,vs,ho,hc,hdx,hdt,_⟩,_⟩:=I1.hok a _ ea;obtain⟨mA,ns,r⟩:=I1.hok dx _ ed;obtain⟨od,hod,hl⟩:=Kx ns;obtain⟨u,hu,ru⟩:=RelO.some_of (v:=v) (o:=mA attr) (by rw[<-lk];exact r attr);obtain⟨hp,g,d,tk,os⟩:=s1;have J:PySem.W.InstAt hp a o C (some od):=⟨ho,hc,by unfold PySem.W.notCls;rw[hdt],by rw[hdx];exact hod⟩
 exact SY I1.kIn J z (PySem.W.findObj_own hd na rfl (by rw[hl,hu])) (Ax ru) ⟨v,H1,I1.tok _,ru,q⟩
theorem QS{cs:List ua}(T:∀ c∈cs,FldX X.K c attr)(he:XE X xw e f)(hb:dg e attr X.env (eval e X.env)=eval e X.env:=by rfl):XE X xw (.Attribute e attr pos) (b1 (XN cs attr) f):=
 ⟨PE.weak (T4 he.h hb) λσ H Q ⟨W₀,H₀,W,δ,st,q⟩=>Zk st q λH2 d v k w st2 hv _ q2=>by
  have main:∀ (c:ua) (ns vs:List D) (fs:List D),Has X.K W H2 (.exc c fs) v->(∀ dx,ExF H2 dx fs->ExD H2 dx.1 ns vs)->RE X.K xw W H2 (if c∈cs then(match Yw attr ns vs with|some x=>.ok x|none=>.stuck) else .stuck) Q->
    ∃ a C dx z kvs u,v=.ref a/\H2 a=some (.ext (ExcAt a (.ref C) (some dx,z)))/\H2 dx=some (.xd kvs)/\ExcK X.K C/\zn X.K C=true/\fg X.K (.ref C) attr=some none/\kvs.lookup attr=some u/\Q u H2:=by
   intro c ns vs fs hv hx q3;split at q3
   .rename_i hc;split at q3
    .rename_i x hx';rw[Has]at hv
     obtain⟨a,C,dx,rfl,hn,hH,hF⟩:=hv;obtain⟨d,kvs,ed,hd,rfl,hvs⟩:=hx dx hF;obtain⟨C',hn',z,hdt,na⟩:=(T c hc).ex;rw[hn]at hn'
     cases hn';obtain⟨u,h1,h2⟩:=GB hvs hx';obtain⟨d0,z0⟩:=dx;dsimp only at ed;subst ed;exact⟨a,C',d,z0,kvs,u,rfl,hH,hd,z,hdt,na,h1,q3 u H2 (Same.refl _) h2.has⟩
    .exact q3.elim
   .exact q3.elim
  cases d with
  |exc c fs=>
   cases fs with
   |nil=>exact q2.elim
   |cons y vs=>
    cases y with
    |tup ns=>exact main c ns vs _ hv (λdx h=>h.2) q2
    |non=>
     cases vs with
     |nil=>exact q2.elim
     |cons y vs=>
      cases y with
      |tup ns=>exact main c ns vs _ hv (λdx h=>h) q2
      |_=>exact q2.elim
    |_=>exact q2.elim
  |_=>exact q2.elim⟩
end
end L3
namespace PySem
open Sem (wp)
open Builtin Builtin.ObjectAttr W
section
variable {prog:ic}{w:yd}{A:ye}{E:Da->ka->Prop}{h:pd}{g:Array rk}{d:Drawn}{t:Nat}{os:OsState}{K:td}{C e dx:ia}{m:ua->Option Da}{ns:List ua}
end
end PySem
namespace L2
open PySem PySem.Spec PyProof.Rows
def By:V->Prop
 | .int i=>i.natAbs.log2<1920/\(toString i:ua).length<=1000
 | .str x=>(reprText x).length<=1000
 | .non=>True
 |_=>False
structure PJ(X:Cx)(parts:List nc)(P:St->Prop)(b:Nat):Prop where
 h:∀ (pins:List (ia×mh)) (s:ka) (σ:St) (H:Hp) (acc:ua) (Q:Da->ka->Prop),Inv X pins σ H s->P σ->acc.length+b<=sizeLine->(∀ s' z tk,Inv X pins σ H s'->Q (.str z tk) s')->cb (jb X.prog X.w) X.A (joinParts acc (evalEach parts X.env)) Q X.xe s
variable{X:Cx}{x:ua}
section
variable {pos p:bh}{parts:List nc}{P:St->Prop}{b:Nat}
theorem Tt(x y:ua):(x++y).length=x.length+y.length:=by
 show(x++y).cps.size=_;rw[vf,Array.size_append];rfl
theorem F5:PJ X [] (λ_=>True) 0:=⟨λpins s σ H acc Q I _ hl q=>joinParts_nil (q _ _ _ (I.tok _)) (by omega)⟩
theorem AI{z:ua}{j}(h:PJ X parts P b):PJ X (.Constant (.str z) j pos::parts) P (z.length+b):=⟨λpins s σ H acc Q I hp hl q=>by
 show cb _ _ (joinParts acc (eval (.Constant (.str z) j pos) X.env::evalEach parts X.env)) _ _ _;refine joinParts_cons (thn (UQ pins s σ H (λx H1=>x=.str z/\H1=H) I ⟨rfl,rfl⟩) λu s1 ⟨x,H1,I1,r1,e1,e2⟩=>?_);subst e1 e2;obtain⟨tk,rfl⟩:=r1;have e:=Tt acc z
 exact⟨by omega,h.h pins s1 σ _ _ Q I1 hp (by omega) q⟩⟩
theorem E5(i:Nat)(h:PJ X parts P b)(hN:X.N[i]? =some x)(hv:Jw X.env.scope x)(hd:(x==("__debug__":ua))=false:=by decide)(hcd:(x==("__classdict__":ua))=false:=by decide):
  PJ X (.FormattedValue (.Name x p) (-1) none pos::parts) (λσ=>(∃ n,σ[i]? =some (some (.int n))/\By (.int n))/\P σ) (1000+b):=⟨λpins s σ H acc Q I ⟨⟨n,hn,s1,s2⟩,hp⟩ hl q=>by
 show cb _ _ (joinParts acc (eval (.FormattedValue (.Name x p) (-1) none pos) X.env::evalEach parts X.env)) _ _ _;refine joinParts_cons (FormattedValue_plain (thn (Ph hN hv hd hcd pins s σ H (λy H1=>y=.int n/\H1=H) I ⟨.int n,hn,rfl,rfl⟩) λu s2 ⟨y,H2,I2,r2,e1,e2⟩=>?_));subst e1 e2;obtain⟨tk,rfl⟩:=r2;refine formatField_int_small s1 ?_;have e:=Tt acc (toString n:ua)
 exact⟨by omega,h.h pins _ σ _ _ Q (I2.tok _) hp (by omega) q⟩⟩
theorem EX{v1 v2:nc}{rest:List nc}(h:PJ X (v1::v2::rest) P b)(hb:b<=10000):PE X (.JoinedStr (v1::v2::rest) pos) (λσ H Q=>P σ/\∀ z,Q (.str z) H):=by
 intro pins s σ H Q I ⟨hp,q⟩;refine JoinedStr_many ?_;exact h.h pins s σ H Str.empty _ I hp (by rw[qe];show 0+b<=_;omega) λs' z tk I'=>⟨.str z,H,I',⟨tk,rfl⟩,q z⟩
end
variable{C f:ia}
section
variable {apos:bh}{o:nc}{to:TE}{S:ia}
end
structure RoomH(k:Nat)(A:ye):Prop where
 dp:A.depth+3*k+5<cr
 un:A.units+16*k+200<cLine
 gd:A.guards=some []
variable{k:Nat}{A:ye}
theorem Room.h(r:Room k A):RoomH k A:=⟨r.dp,r.un,r.gd⟩
theorem RoomH.mono{j:Nat}(r:RoomH k A)(h:j<=k):RoomH j A:=⟨by have:=r.dp;omega,by have:=r.un;omega,r.gd⟩
theorem RoomH.mark(r:RoomH k A)(h:Option Da):RoomH k (A.mark h):=⟨r.dp,r.un,r.gd⟩
theorem RoomH.deeper(r:RoomH (k+1) A)(env:cq):RoomH k (A.deeper env):=
 ⟨by have:=r.dp;show A.depth+1+3*k+5<_;omega,by have:=r.un;show A.units+3+16*k+200<_;omega,r.gd⟩
theorem RoomH.make(r:RoomH (k+1) A)(C:ia)(us:List Da)(kw:List (ua×Da)):RoomH k (A.under (.builtin "type.__call__" ⟨.ref C::us,kw⟩)):=
 ⟨by have:=r.dp;rw[Ku];omega,by have:=r.un;rw[Lu];omega,by first|exact r.gd|(simpa [uq,Code.guards,pushGuards] using r.gd)⟩
theorem RoomH.depth(r:RoomH k A):A.depth<cr:=by have:=r.dp;omega
abbrev X6(CX:Yx)(P:ic)(w:yd)(K:td)(mg:ua->Option Da)(base:pd)(N:List ua)(qual:ua)(scope:io)(f:ia)(cd:Da)(A:ye)(outer:List cq)(s:ka)(H:Hp)(E:XK):Cx:= {Xl CX P w K mg base N qual scope f cd A outer s H E with calm:=false}
structure FnOkH(P:ic)(w:yd)(K:td)(mg:ua->Option Da)(base:pd)(CX:Yx)(k:Nat)(f:ia)(fd:lg)(ps:List ua)(sp:Sp):Prop where
 len:∀ vs H Q E,sp vs H Q E->vs.length=ps.length
 run:∀ (A:ye) (outer:List cq) (s:ka) (H:Hp) (args:Args) (us:List Da) (vs:List V) (Q:VK) (E:XK),RoomH k A->Env0 P w K mg base A outer s H->xu s fd args (ps.zip us)->Vals vs us->sp vs H Q E->
  kj (jb P w) A (.call (.ref f) args) (CR CX outer P w H s Q E) s
variable{P:ic}{CX:Yx}{w:yd}{K:td}{mg:ua->Option Da}{base:pd}{N ps:List ua}{qual:ua}{scope:io}{s:ka}{H:Hp}{us:List Da}{vs:List V}
theorem OE{cd:Da}{outer:List cq}{s1:ka}{E:XK}(S:FnScope N ps scope)(e0:Env0 P w K mg base A outer s H)(hl:vs.length=ps.length)(r:Vals vs us)(x:InCallC s s.heap.objs.size (bindL (zj qual scope s.heap.objs.size f cd).kindOf (ps.zip us) λ_=>none) (Pi (s.heap.objs.size+1) scope.names []) (bindC (zj qual scope s.heap.objs.size f cd).kindOf (ps.zip us) λ_=>none) s1):
  Inv (X6 CX P w K mg base N qual scope f cd A outer s H E) [] (start N vs) H s1:=by
 have J:=Fx (CX:=CX) (E:=E) (A:= {A with handled:=none}) S rfl ⟨e0.frames,e0.mod,e0.bs,e0.bsz,e0.funs,e0.frf,e0.hok,e0.bare⟩ hl r x;exact⟨⟨J.ok.mod,J.ok.kind,J.ok.glob,J.ok.blt,J.ok.above,J.ok.inj,J.ok.has,J.ok.cab,λz=>absurd (show false=true from z) (by decide),J.ok.frames,J.ok.stk,J.ok.exf,J.ok.bs,J.ok.bsz,J.ok.noex,J.ok.exfs,J.ok.funs,J.ok.frf⟩,J.os,J.bare,J.base,J.loc,J.cell,J.free,J.freeC,J.pin,J.hok,J.len⟩
variable{sp:Sp}
theorem E2{name:ua}{params:Arguments}{body:List yf}{dV kV doc pm cdv ct oc:Da}{an od:Option ia}{osl:Array (Option Da)}(lk:K.lookup f=some ⟨oc,od,.func (mj name qual params body scope dV kV doc pm an cdv ct),osl⟩)(hcd:gg K cdv qual=true)(S:FnScope N ps scope)(len:∀ vs H Q E,sp vs H Q E->vs.length=ps.length)(hbody:∀ (A:ye) (outer:List cq) (s:ka) (H:Hp) (vs:List V) (Q:VK) (E:XK),RoomH k (A.deeper (zj qual scope s.heap.objs.size f cdv))->sp vs H Q E->
   ∃ t,PSs (X6 CX P w K mg base N qual scope f cdv A outer s H E) body t/\t {nx:=λ_ H'=>Q .non H',rt:=Q} (start N vs) H):
  FnOkH P w K mg base CX (k+1) f (mj name qual params body scope dV kV doc pm an cdv ct) ps sp:=by
 refine⟨len,λA outer s H args us vs Q E hr e0 hb r hsp=>?_⟩;have hl:=len _ _ _ _ hsp;have KX:K.In s.heap:=e0.mod.kin.keeps λb o e=>(e0.bs b o e).1;have lim:s.heap.NoLimit:=e0.mod.nolimit.keeps λb o e=>(e0.bs b o e).1
 have hkind:∀ y∈ps.zip us,scope.names.lookup y.1=some .local\/(scope.names.lookup y.1=some .cell/\((Pi (s.heap.objs.size+1) scope.names []).lookup y.1).isSome=true):=λ⟨n,v⟩ hy=>by
  rcases S.par n (kq hy).1 with q|q
  .exact .inl q
  .exact .inr ⟨q,jr _ _ _ (.inl q)⟩
 refine codeAny_call_function hr.depth (KX _ _ lk) rfl S.co S.gen rfl (PySem.W.codeRec_of KX hcd) (hb _ _ _ _ ?_);refine mr S.kind hkind λenv he s1 x=>?_;subst he;refine⟨lim.keeps x.toInCall.keep,codeAny_func ?_⟩;obtain⟨t,ht,hq⟩:=hbody A outer s H vs Q E (hr.deeper _) hsp;have I:Inv (X6 CX P w K mg base N qual scope f cdv A outer s H E) [] (start N vs) H s1:=OE S e0 hl r x;refine se (ht [] s1 (start N vs) H _ I hq) (λfl s' hs=>?_) λe s' hs=>hs
 have fin:∀ {σ':St} {H':Hp} {v:V} {u:Da},Inv (X6 CX P w K mg base N qual scope f cdv A outer s H E) [] σ' H' s'->RelV v u->Q v H'->CE outer P w H s Q u s':=
  λ{σ' H' v u} J rv q=>⟨v,H',J.os,J.bare,J.base,J.hok,rv,q⟩
 cases fl with
 |ret u=>
  obtain⟨v,σ',H',J,rv,q⟩:=hs;exact fin J rv q
 |next=>
  obtain⟨σ',H',J,q⟩:=hs;exact fin (v:=V.non) (u:=Value.none) J rfl q
 |brk=>
  obtain⟨_,_,_,q⟩:=hs;exact ud q
 |cont=>
  obtain⟨_,_,_,q⟩:=hs;exact ud q
variable{fd:lg}
theorem Fun.okH{st:yf}(F:Fun K x qual st f fd)(S:FnScope N ps (Ca st))(len:∀ vs H Q E,sp vs H Q E->vs.length=ps.length)(hbody:∀ (cdv:Da) (A:ye) (outer:List cq) (s:ka) (H:Hp) (vs:List V) (Q:VK) (E:XK),RoomH k (A.deeper (zj qual (Ca st) s.heap.objs.size f cdv))->sp vs H Q E->
   ∃ t,PSs (X6 Fp P w K mg base N qual (Ca st) f cdv A outer s H E).nox (Eb st) t/\t {nx:=λ_ H'=>Q .non H',rt:=Q} (start N vs) H):FnOkH P w K mg base Fp (k+1) f fd ps sp:=by
 obtain⟨oc,od,kV,doc,pm,an,cdv,ct,osl,rfl,lk,hcd⟩:=F.ex;refine E2 lk hcd S len λA outer s H vs Q E hr hsp=>?_;obtain⟨t,h,q⟩:=hbody cdv A outer s H vs Q E hr hsp;exact⟨t,h.nox,q⟩
section
variable {S:ia}
theorem JR{pins:List (ia×mh)}{σ:St}{Q:VK}(Z:XInit X.K C S f)(F:FnOkH X.prog X.w X.K X.mg X.base Fp k f fd ps sp)(hr:RoomH (k+1) X.A)(hb:Binds X.K fd ps [])(I:Inv X pins σ H s)(r:Vals vs us)(hz:us.length<=sizeLine)(h:∀ a,H a=none->s.heap.get? a=none->sp (.ref a::vs) (Lb H a (.ext (Uq a C))) (λv H2=>v=.non/\Q (.ref a) H2) E0):
  cb (jb X.prog X.w) X.A (call (.ref C) us) (EP X pins σ Q) X.xe s:=by
 have hq:=h (s.heap.objs.size+1) (I.hok.fresh (le_succ _)) (pp (le_succ _));obtain⟨nm,qn,N,bs,bm,hdct,sn,sub,ab,col,dd,k0,k1,k2,k3,k5,lk,ok,ni,tl⟩:=Z.obj;have ns:=Heap.Ns.of_isNs (PySem.W.isNs_of_in I.kIn ok);have hi:s.heap.nsMap N "__init__"=some (.ref f):=B4 I.kIn ns ni
 have I2:Inv X pins σ (Lb H (s.heap.objs.size+1) (.ext (Uq (s.heap.objs.size+1) C))) {s with heap:=Kk s.heap C us}:=
  I.laid (h':=Kk s.heap C us) (t':=s.toks) (λb o z=>Lk z) (le_succ _) (YG ⟨_,_,Xw us⟩)
 have r2:Vals (V.ref (s.heap.objs.size+1)::vs) (Value.ref (s.heap.objs.size+1)::us):=.cons rfl r
 have hl:(Value.ref (s.heap.objs.size+1)::us).length=ps.length:=by
  have e:=r2.length;rw[F.len _ _ _ _ hq]at e
  exact e.symm
 have run:=F.run _ X.stack _ _ ⟨Value.ref (s.heap.objs.size+1)::us,[]⟩ (Value.ref (s.heap.objs.size+1)::us) _ _ E0 (hr.make C us []) (I2.env0.make C us []) (by
  have:=hb _ (Value.ref (s.heap.objs.size+1)::us) I2.kIn (by simpa using hl)
  simpa using this) r2 hq
 obtain⟨hp,g,d,tk,os⟩:=s;refine TM jm (dv I.kIn tl) (I.kIn _ _ lk) ns hi hz (λself=>PySem.W.bind_fn I.kIn self Z.ini) (ii run λrr s' z=>?_);cases rr with
 |error e=>exact ud z
 |ok fl=>
  cases fl with
  |ret u=>
   obtain⟨v,H',I3,rv,ev,q3⟩:=I2.after z;subst ev;exact⟨rv,⟨V.ref (hp.objs.size+1),H',I3,rfl,q3⟩⟩
  |next=>exact ud z
  |brk=>exact ud z
  |cont=>exact ud z
end
end L2
namespace L3
open PySem PySem.Spec PyProof.Rows L2 SeqAt
def Ay:Bool->V->Prop
 |true,v=>∃ n,v=.int n/\By (.int n)
 |false,v=>By v
def SmallL:List (ua×Bool)->List V->Prop
 | [],[]=>True
 |k::ks,v::vs=>Ay k.2 v/\SmallL ks vs
 |_,_=>False
def spG(C:ia)(ks:List (ua×Bool)):Sp:=λvs H Q _=>∃ a xs,vs=.ref a::xs/\SmallL ks xs/\H a=some (.ext (Uq a C))/\∀ d,H d=none->Q .non (Lb (Lb H a (.ext (Xj a C (some d)))) d (.xd ((ks.map (·.1)).zip xs)))
theorem SmallL.length:∀ {ks:List (ua×Bool)} {xs:List V},SmallL ks xs->xs.length=ks.length
 | [],[],_=>rfl
 |_::_,_::_,h=>by rw[ba,ba,SmallL.length h.2]
 | [],_::_,h=>h.elim
 |_::_,[],h=>h.elim
structure XInG(X:Cx)(C:ia)(ks:List (ua×Bool))(sts:List yf):Prop where
 h:PSs X sts (λD σ H=>∃ a xs,σ[0]? =some (some (.ref a))/\(∀ i v,xs[i]? =some v->σ[i+1]? =some (some v))/\SmallL ks xs/\H a=some (.ext (Uq a C))/\∀ d,H d=none->D.nx σ (Lb (Lb H a (.ext (Xj a C (some d)))) d (.xd ((ks.map (·.1)).zip xs))))
variable{X:Cx}{C f:ia}{x:ua}
section
variable {S:ia}{xb self y attr attr2:ua}{p1 p2 p3 p7 p8 p9 q1 q2 q3 q4 r1 r2 r3 r4:bh}{v1 v2:nc}{rest:List nc}{P:L2.St->Prop}{b:Nat}{k k2:Bool}
theorem T2{pl:Sem Bool}(Z:XInit X.K C S f)(hm:X.mg xb=some (.ref S))(hna:fg X.K (.ref C) attr=some none)(hj:PJ X (v1::v2::rest) P b)(hP:∀ σ v,σ[1]? =some (some v)->Ay k v->P σ)(hb:b<=10000:=by decide)(hex:X.ex= []:=by rfl)(hg:Gl X xb:=by rfl)(hN0:X.N[0]? =some self:=by rfl)(hN1:X.N[1]? =some x:=by rfl)(hv0:Jw X.env.scope self:=by first|exact Or.inl rfl|exact Or.inr (Or.inl rfl)|exact Or.inr (Or.inr rfl))(hv1:Jw X.env.scope x:=by first|exact Or.inl rfl|exact Or.inr (Or.inl rfl)|exact Or.inr (Or.inr rfl))(d0:(self==("__debug__":ua))=false:=by decide)(d1:(x==("__debug__":ua))=false:=by decide)(d2:(xb==("__debug__":ua))=false:=by decide)(e0:(self==("__classdict__":ua))=false:=by decide)(e1:(x==("__classdict__":ua))=false:=by decide)(s1:Fa [.Name self p3, .JoinedStr (v1::v2::rest) p7] X.env=(false,eval (.Name self p3) X.env)::Fa [.JoinedStr (v1::v2::rest) p7] X.env:=by rfl)(s2:Fa [.JoinedStr (v1::v2::rest) p7] X.env=(false,eval (.JoinedStr (v1::v2::rest) p7) X.env)::Fa [] X.env:=by rfl)(hpl:(yc p8 (Fa [.JoinedStr (v1::v2::rest) p7] X.env)).any (·.1)=false:=by rfl)(hkw:bj p8 (ig [] X.env)= []:=by rfl)(ht:eval (.Call (.Attribute (.Name xb p1) "__init__" p2) [.Name self p3, .JoinedStr (v1::v2::rest) p7] [] p8) X.env=(do
   let ov <-eval (.Name xb p1) X.env
   uu p2.atName
   let (f,first) <-mn [ov] (getMethod ov "__init__" pl)
   callWith p8 f first (yc p8 (Fa [.Name self p3, .JoinedStr (v1::v2::rest) p7] X.env)) (bj p8 (ig [] X.env))):=by rfl)(w1:ki (.Call (.Attribute (.Name xb p1) "__init__" p2) [.Name self p3, .JoinedStr (v1::v2::rest) p7] [] p8) none p9.line X.env=pure false:=by rfl)(w2:swapsWithSole [.Attribute (.Name self q1) attr q2] (.Name x q3) q4.line X.env=pure false:=by rfl)(w3:swappedStores [.Attribute (.Name self q1) attr q2] (.Name x q3) X.env=pure none:=by rfl)(w4:(gh [.Attribute (.Name self q1) attr q2] X.env).map (·.2)= [wu (.Attribute (.Name self q1) attr q2) X.env]:=by rfl):
  XInG X C [(attr,k)] [.Expr (.Call (.Attribute (.Name xb p1) "__init__" p2) [.Name self p3, .JoinedStr (v1::v2::rest) p7] [] p8) p9, .Assign [.Attribute (.Name self q1) attr q2] (.Name x q3) q4]:=⟨by
 refine PSs.weak (Av (Dq (LQ (pl:=pl) Z hg hm (Ie (Ph hN0 hv0 d0 e0) (Ie (EX hj hb) Zh s2) s1) d2 s1 hpl hkw ht) w1) (Lz (BR (Ph hN1 hv1 d1 e1) (Y4 hex Z hna (Ph hN0 hv0 d0 e0)) w2 w3 w4))) λD σ H ⟨a,xs,h0,hx,hs,hH,q⟩=>?_
 match xs,hs with
 | [v],hs=>
  have h1:=hx 0 v rfl
  exact⟨.ref a,h0,hP σ v h1 hs.1,λt=>⟨a,t,rfl,hH,v,h1,.ref a,h0,a,rfl,hH,λd hd _=>q d hd⟩⟩⟩
end
structure FnG(P:ic)(w:yd)(K:td)(mg:ua->Option Da)(base:pd)(k:Nat)(c:ua)(ks:List (ua×Bool)):Prop where
 ex:∃ j C S f fd ps,j+1<=k/\FnOkH P w K mg base Fp j f fd ps (spG C ks)/\XInit K C S f/\mg c=some (.ref C)/\je K aa c=some (some (.ref C))/\Binds K fd ps []
variable{P:ic}{k:Nat}{w:yd}{K:td}{mg:ua->Option Da}{base:pd}{c:ua}{ks:List (ua×Bool)}
theorem FnG.mono{j:Nat}(F:FnG P w K mg base j c ks)(h:j<=k):FnG P w K mg base k c ks:=by
 obtain⟨i,C,S,f,fd,ps,a,b⟩:=F.ex;exact⟨i,C,S,f,fd,ps,bf a h,b⟩
variable{fd:lg}{ps:List ua}
theorem HV{qual:ua}{st:yf}{S fa:ia}{N:List ua}(F:Fun K "__init__" qual st fa fd)(T:FnScope N ps (Ca st))(Z:XInit K C S fa)(hm:mg c=some (.ref C))(hc:je K aa c=some (some (.ref C)))(hb:Binds K fd ps [])(body:∀ (cdv:Da) (A:ye) (outer:List cq) (s:ka) (H:Hp) (E:XK),RoomH k (A.deeper (zj qual (Ca st) s.heap.objs.size fa cdv))->
   XInG (X6 Fp P w K mg base N qual (Ca st) fa cdv A outer s H E).nox C ks (Eb st))(hps:ps.length=ks.length+1:=by rfl):FnG P w K mg base (k+1+1) c ks:=by
 refine⟨k+1,C,S,fa,fd,ps,Uf _,F.okH T (λvs H Q E h=>?_) (λcdv A outer s H vs Q E hr h=>?_),Z,hm,hc,hb⟩
 .obtain⟨a,xs,rfl,hs,_⟩:=h;rw[hps,ba,hs.length]
 .obtain⟨a,xs,rfl,hs,h3,q⟩:=h;refine⟨_,(body cdv A outer s _ E hr).h,a,xs,rfl,λi v e=>?_,hs,h3,q⟩;have hi:=(pb.mp e).1;show((V.ref a::xs).map some++qb _ none)[i+1]? =_;rw[zg (by rw[Db,ba];omega),wg,List.getElem?_cons_succ,e];rfl
def E6:Bool->D->Bool
 |_,.int i=>decide (0<=i)&&decide (i<1000)
 |false,.str x=>decide (x.length<=60)&&x.cps.all (λc=>decide (c<1114112))
 |false,.non=>true
 |_,_=>false
def Jv:List (ua×Bool)->List D->Bool
 | [],[]=>true
 |k::ks,d::ds=>E6 k.2 d&&Jv ks ds
 |_,_=>false
theorem JF(h1:x.length<=60)(h2:x.cps.all (λc=>decide (c<1114112))=true):(reprText x).length<=1000:=by
 have:=StrLaws.reprText_len x λc hc=>by
  rw[<-Array.all_toList,yi]at h2
  have:=of_decide_eq_true (h2 c hc);exact vq this (by decide)
 omega
variable{W:WS}{H:Hp}{v:V}
theorem ZR{k:Bool}{d:D}(h:E6 k d=true)(r:Has K W H d v):Ay k v/\UR d=some v:=by
 cases d with
 |int i=>
  rw[Has]at r;subst r
  have h':(decide (0<=i)&&decide (i<1000))=true:=by cases k<;>exact h
  rw[qf,decide_eq_true_eq,decide_eq_true_eq]at h'
  have:=DY h'.1 h'.2;cases k with
  |true=>exact⟨⟨i,rfl,this⟩,rfl⟩
  |false=>exact⟨this,rfl⟩
 |str x=>
  rw[Has]at r;subst r
  cases k with
  |true=>cases h
  |false=>
   have h':(decide (x.length<=60)&&x.cps.all (λc=>decide (c<1114112)))=true:=h;rw[qf,decide_eq_true_eq]at h'
   exact⟨JF h'.1 h'.2,rfl⟩
 |non=>
  rw[Has]at r;subst r
  cases k with
  |true=>cases h
  |false=>exact⟨trivial,rfl⟩
 |_=>cases k<;>cases h
theorem Kv{K:td}{W:WS}{H:Hp}:∀ {ks:List (ua×Bool)} {ds:List D} {vs:List V},Jv ks ds=true->HasL K W H ds vs->SmallL ks vs/\∀ H',ExVs H' ds vs
 | [],[],vs,_,r=>by rw[HasL]at r;subst r;exact⟨trivial,λ_=>trivial⟩
 |k::ks,d::ds,vs,h,r=>by
  rw[HasL]at r
  obtain⟨v,r',rfl,hv,hr⟩:=r;have h':(E6 k.2 d&&Jv ks ds)=true:=h;rw[qf]at h'
  obtain⟨a,b⟩:=ZR h'.1 hv;obtain⟨c,e⟩:=Kv h'.2 hr;exact⟨⟨a,c⟩,λH'=>⟨.inl b,e H'⟩⟩
 | [],_::_,_,h,_=>by cases h
 |_::_,[],_,h,_=>by cases h
theorem CJ:∀ {ks:List (ua×Bool)} {vs:List V},SmallL ks vs->((ks.map (·.1)).zip vs).map (·.1)=ks.map (·.1)/\((ks.map (·.1)).zip vs).map (·.2)=vs
 | [],[],_=>⟨rfl,rfl⟩
 |k::ks,v::vs,h=>by
  obtain⟨a,b⟩:=CJ h.2;exact⟨by rw[db,ur,db,a],by rw[db,ur,db,b]⟩
 | [],_::_,h=>h.elim
 |_::_,[],h=>h.elim
def Pk(ks:List (ua×Bool))(ds:List D):List D:=.tup (ks.map λk=>D.str k.1)::ds
def P5(c:ua)(ks:List (ua×Bool))(ds:List D):Out:=if Jv ks ds=true then .ex c (Pk ks ds) else .stuck
def Og(c:ua)(ks:List (ua×Bool))(fs:Ha->Res (List D)):Ha->Out:=λδ=>Pm (fs δ) (P5 c ks)
theorem WN{d:ia}{ds:List D}{xs:List V}(h:SmallL ks xs)(e:H d=some (.xd ((ks.map (·.1)).zip xs)))(v:ExVs H ds xs):ExD H (some d) (ks.map λk=>D.str k.1) ds:=by
 obtain⟨a,b⟩:=CJ h;refine⟨d,_,rfl,e,?_,by rw[b];exact v⟩;rw[show((ks.map (·.1)).zip xs).map (λp=>D.str p.1)=(((ks.map (·.1)).zip xs).map (·.1)).map D.str by rw[gl];rfl,a,gl];rfl
variable{σ:L2.St}
section
variable {xw:XW}{S:ia}{p pos np cpos:bh}{e a:nc}{es:List nc}{t:TA}{fs:Ha->Res (List D)}
theorem ZH(Z:XInit X.K C S f)(G:FnOkH X.prog X.w X.K X.mg X.base Fp k f fd ps (spG C ks))(hr:RoomH (k+1) X.A)(hg:Gl X x)(hm:X.mg x=some (.ref C))(hb:Binds X.K fd ps [])(hex:X.ex= [])(ha:PA X (e::es) t)(hdb:(x==("__debug__":ua))=false:=by decide)(he:Fa (e::es) X.env=(false,eval e X.env)::Fa es X.env:=by rfl)(hpl:(yc pos (Fa es X.env)).any (·.1)=false:=by rfl)(hks:ks.length<=50:=by decide):
  PE X (.Call (.Name x p) (e::es) [] pos) (λσ H Q=>t σ H λvs H1=>SmallL ks vs/\∀ a d,H1 a=none->H1 d=none->d≠a->X.s₀.heap.get? a=none->Q (.ref a) (Lb (Lb H1 a (.ext (Xj a C (some d)))) d (.xd ((ks.map (·.1)).zip vs)))):=by
 intro pins s σ H Q I h;refine jh (Bk I hg hm ?_ hdb);refine callWith_K (h₀:=X.base) I.ok.mod.kin Z.kpC (thn (ha pos pins s σ H _ I h) λus s1 ⟨vs,H1,I1,r,hs,q⟩=>⟨I1.kIn,?_⟩) he hpl;refine JR Z G hr hb I1 r (by show us.length<=_;rw[<-r.length,hs.length,qe];omega) λb hb1 hb2=>?_;refine⟨b,vs,rfl,hs,Ta,λd hd=>⟨rfl,?_⟩⟩;have hdb':d≠b:=λz=>by rw[z,Ta]at hd;cases hd
 rw[Ea hdb']at hd
 rw[JY];refine q b d hb1 hd hdb' ?_;cases z:X.s₀.heap.get? b with
 |none=>rfl
 |some o=>
  obtain⟨o',e'⟩:=I1.base.there b o z (by rw[hex];simp);rw[hb2]at e';cases e'
def G8(X:Cx)(xw:XW)(C:ia)(c:ua)(ks:List (ua×Bool))(pre:List D):VK:=λv H'=>∃ b d H2 vs ds,v=.ref b/\H'=Lb (Lb H2 b (.ext (Xj b C (some d)))) d (.xd ((ks.map (·.1)).zip vs))/\H2 b=none/\H2 d=none/\d≠b/\X.s₀.heap.get? b=none/\SmallL ks vs/\(∀ H,ExVs H ds vs)/\xw c (pre++Pk ks ds) (Lb H2 d (.xd ((ks.map (·.1)).zip vs)))
theorem Wc0{W₀:WS}{H₀:Hp}{δ:Ha}{Dn:Ends}{pre:List D}(st:StHas X.K W₀ H₀ W H σ δ)(q:RS X.K xw W₀ H₀ W H (Pm (fs δ) λds=>if Jv ks ds=true then .ex c (pre++Pk ks ds) else .stuck) Dn):
  B7 X.K xw fs σ H (λvs H1=>SmallL ks vs/\∀ b d,H1 b=none->H1 d=none->d≠b->X.s₀.heap.get? b=none->G8 X xw C c ks pre (.ref b) (Lb (Lb H1 b (.ext (Xj b C (some d)))) d (.xd ((ks.map (·.1)).zip vs)))):=by
 refine⟨W₀,H₀,W,δ,st,?_⟩;cases hf:fs δ with
 |stuck=>rw[hf]at q;exact q
 |ex c' fs'=>rw[hf]at q;exact λH2 k2=>q H2 (st.fr.ext.trans k2)
 |ok ds=>
  rw[hf]at q
  have q':RS X.K xw W₀ H₀ W H (if Jv ks ds=true then .ex c (pre++Pk ks ds) else .stuck) Dn:=q;clear q;split at q'
  .rename_i hi;intro vs H2 k2 hv;obtain⟨s1,s2⟩:=Kv hi hv;exact⟨s1,λb d hb1 hd1 hdb hb2=>⟨b,d,H2,vs,ds,rfl,rfl,hb1,hd1,hdb,hb2,s1,s2,q' _ ((st.fr.ext.trans k2).trans λx o e=>by rw[Ea (Sa e hd1)];exact e)⟩⟩
  .exact q'.elim
theorem Hq(F:FnG X.prog X.w X.K X.mg X.base k c ks)(hr:Room k X.A)(hx:LM X xw)(hcalm:X.calm=true)(ha:XA X xw (a::es) fs)(hex:X.ex= []:=by rfl)(hg:Gl X c:=by rfl)(hdb:(c==("__debug__":ua))=false:=by decide)(he:Fa (a::es) X.env=(false,eval a X.env)::Fa es X.env:=by rfl)(hpl:(yc cpos (Fa es X.env)).any (·.1)=false:=by rfl)(hks:ks.length<=50:=by decide):
  XS X xw (.Raise (some (.Call (.Name c np) (a::es) [] cpos)) none pos) (Og c ks fs):=⟨by
 obtain⟨j,C,S,f,fd,ps,hj,G,Z,hm,hn,hb⟩:=F.ex;intro pins s σ H Dn I ⟨W₀,H₀,W,δ,st,q⟩;have rd:=Wc0 (C:=C) (pre:= []) st q;obtain⟨nm,qn,N,bs,bm,hdct,sn,sub,ab,col,dd,k0,k1,k2,k3,k5,lk,_,_,tl⟩:=Z.obj;have T:=dv I.kIn tl;rw[arm_exec_Raise];refine ja (xi (IF (C:=C) (nm:=nm) (q:=qn) (N:=N) (bs:=bs) (bm:=bm) (hdct:=hdct) (sn:=sn) (sub:=sub) (ab:=ab) (col:=col) (dd:=dd) (k0:=k0) (k1:=k1) (k2:=k2) (k3:=k3) (k5:=k5) (newId:="ValueError.__new__") (T.hasType jm.hasBase) (I.ok.hd hcalm) ?_));refine ja (thn (ZH Z G (hr.h.mono hj) hg hm hb hex ha.h hdb he hpl hks pins s σ H (G8 X xw C c ks []) I rd) λv s1 ⟨y,H1,I1,r,b,d,H2,vs,ds,ey,eH,h1,hd1,hdb',h2,hs,hv,qx⟩=>?_);subst ey eH;obtain rfl:v=.ref b:=r;have hbb:Lb (Lb H2 b (.ext (Xj b C (some d)))) d (.xd ((ks.map (·.1)).zip vs)) b=some (.ext (Xj b C (some d))):=by rw[Ea (jg hdb')];exact Ta
 obtain⟨⟨t0,sl,hb'⟩,_,_⟩:=I1.hok b _ hbb;refine ja (xi (kb ?_));refine⟨b,some d,t0,sl,rfl,I1.kIn _ _ lk,hb',?_⟩
 exact hx pins σ _ s1 b C (some d) c (Pk ks ds) I1 hbb h2 hn (by rw[Mp h1 hdb'];exact⟨rfl,WN hs Ta (hv _)⟩) (by rw[Mp h1 hdb'];exact qx)⟩
end
theorem N2{i:Nat}(h:σ[i]? =some (some v))(s:Ay true v):∃ n,σ[i]? =some (some (.int n))/\By (.int n):=by
 obtain⟨n,rfl,q⟩:=s;exact⟨n,h,q⟩
end L3
namespace PySem
open Sem (wp)
variable{ar:ia}
section
variable {prog:ic}{w:yd}{A:ye}{E:Da->ka->Prop}{s:ka}{env:cq}
theorem Uv:entryFor table "proto.unchain"=some nk.«proto.unchain» :=entryFor_of_fast (by kernel_rfl)
theorem Zz{e:Da}{oa:mh}{va:Array Da}{Q:Da->ka->Prop}(ho:s.heap.get? ar=some oa)(hd:oa.data=.fields va)(h2:va[2]? =some .none)(hq:Q .none s):
  cb (jb prog w) A (runValue (.builtin "proto.unchain" ⟨[e,.ref ar,.ref ar,.bool false],[]⟩)) Q E s:=by
 refine wpAny_runValue (pj Uv ?_);unfold nk.«proto.unchain»;refine ja (fm ho hd h2 ?_);exact kb hq
variable {nm q:ua}{C N:ia}{bs bm:List Da}{hdct:Bool}{sn:List ua}{sub:List Da}{ab:Bool}{col:Option Bool}{dd:Option ia}{k0 k1 k2 k3 k5:Option Da}{newId:String}
theorem KC{x:Sem Da}{Q:Flow->ka->Prop}(hbase:bm.contains (.type "BaseException")=true)(hh:A.handled=some (.ref ar)){j:Nat}{p pos:bh}(h:cb (jb prog w) A x (λv s1=>∃ e dx t0 sl oa va,v=.ref e/\s1.heap.get? C=some (im nm q C N bs bm hdct sn sub ab col dd k0 k1 k2 k3 k5 newId)/\
   s1.heap.get? e=some ⟨.ref C,dx,.fields #[.ref t0,.none,.none,.none,.bool false,.none],sl⟩/\e≠ar/\s1.heap.get? ar=some oa/\oa.data=.fields va/\va[2]? =some .none/\
   ∀ h',tm e s1.heap h'->h'.get? e=some ⟨.ref C,dx,.fields #[.ref t0,.none,.ref ar,.none,.bool true,.none],sl⟩->E (.ref e) {s1 with heap:=h'}) E s):
  cb (jb prog w) A (raiseStmt env (some x) (some (do let v <-eval (.Constant .none j p) env;uu pos;pure v))) Q E s:=by
 have own:(Value.ref C::bm).contains (.type "BaseException")=true:=by rw[List.contains_cons,hbase,Bool.or_true]
 unfold raiseStmt;refine ja (se h (λv s1 z=>?_) λ_ _ y=>y);obtain⟨e,dx,t0,sl,oa,va,rfl,kl,at1,ne,ha,hda,h2',last⟩:=z;obtain⟨hp,g,d,tk,os⟩:=s1;refine ja (ph ?_);refine ja (wpAny_Constant_none (ja (xi (kb (ja (kb ?_))))));refine ja ?_;unfold excFromValue;have nC:C≠e:=λz=>by rw[z,at1]at kl;cases kl
 generalize hSF:setField=SF
 repeat (first|with_reducible refine ah at1 ?_|with_reducible refine ah kl ?_|(with_reducible refine zm kl ?_;rw[own])|wp_step)
 subst hSF;have up:∀ (h0:pd) (vs:Array Da) (i:Nat) (x:Da),h0.get? e=some ⟨.ref C,dx,.fields vs,sl⟩->(h0.update e (kn (·.setIfInBounds i x))).get? e=some ⟨.ref C,dx,.fields (vs.setIfInBounds i x),sl⟩:=λh0 vs i x e0=>zi _ e0 rfl;have sb:∀ (h0:pd) (i:Nat) (x:Da),tm e h0 (h0.update e (kn (·.setIfInBounds i x))):=λh0 i x=>tm.update h0 e _;refine gm at1 rfl (by simp) ?_;refine ja (gm (up _ _ _ _ at1) rfl (by simp) ?_);have at2:=up _ _ 4 (.bool true) (up hp _ 3 .none at1);have s2:=(sb hp 3 .none).trans (sb _ 4 (.bool true));have kl2:=(s2.2 C nC).trans kl;have ha2:=(s2.2 ar (jg ne)).trans ha;revert at2 s2 kl2 ha2;generalize ((hp.update e (kn (·.setIfInBounds 3 Value.none))).update e (kn (·.setIfInBounds 4 (Value.bool true))))=h2;intro at2 s2 kl2 ha2;generalize hRN:(raiseNew:Da->Sem Flow)=RN
 repeat (first|with_reducible refine ah at2 ?_|with_reducible refine ah kl2 ?_|(with_reducible refine zm kl2 ?_;rw[own])|wp_step)
 subst hRN;show cb _ _ (raiseNew (.ref e)) _ _ ⟨h2,g,d,tk,os⟩;unfold raiseNew;refine ja (wpAny_handled ?_);rw[hh];have nb:(Value.ref ar != Value.ref e)=true:=by simp[jg ne]
 dsimp only;rw[if_pos nb];refine ja (ph (Zz ha2 hda h2' ?_));have at3:=up h2 _ 2 (.ref ar) at2;have s3:=s2.trans (sb h2 2 (.ref ar));refine ja ?_;show cb _ _ (setField (.ref e) 2 (.ref ar)) _ _ _;exact gm (a:=e) (i:=2) (x:=.ref ar) at2 rfl (by simp) (wpAny_throw (last _ s3 at3))
end
end PySem
namespace L3
open PySem PySem.Spec PyProof.Rows L2 SeqAt
def Iw(X:Cx)(s:ka)(b:ia)(cls a0:Da)(dx:Option ia)(s1:ka):Prop:=
 ∃ h1 t1,s1= {s with heap:=h1,toks:=t1}/\Heap.HeldW (qi s.heap (b::Ff X.stack)) (X.env::X.outer) b cls a0 X.env.locals h1/\
  (∀ c o,c≠X.env.locals->s.heap.get? c=some o->(∀ vs,o.data≠ .fields vs)->∃ sl,h1.get? c=some {o with slots:=sl})/\(∃ o,h1.get? b=some o/\o.dict=dx)/\∃ m,h1.Ns X.env.locals m
variable{X:Cx}{pins:List (ia×mh)}{σ:L2.St}{H:Hp}{s:ka}{C:ia}{cls:Da}{A:ye}{Ex:Da->ka->Prop}{u:HO}{α:Type}{E:XK}
section
variable {s1:ka}{b:ia}{a0:Da}{dx:Option ia}{M:Model}{Q:Unit->ka->Prop}
theorem ZJ{hb:pd}{vs:Array Da}{sl:Array (Option Da)}(I:Inv X pins σ H s)(hst:X.stack=X.env::X.outer)(hfr:X.env.frame=some X.env.locals)(hA:A.frames=X.A.frames)(hH:H b=some u)(hbf:∃ o vs,s.heap.get? b=some o/\o.data=.fields vs)(same:tm b s.heap hb)(at':hb.get? b=some ⟨.ref C,dx,.fields vs,sl⟩)(h0:vs[0]? =some a0)(h1:vs[1]? =some .none)(hq:∀ s1,Iw X s b (.ref C) a0 dx s1->Q () s1):
  cb M A (ck (.ref b) X.env) Q Ex {s with heap:=hb}:=by
 have hin:∀ env∈X.env::X.outer,∀ c,env.frame=some c->c∈b::Ff X.stack:=λenv q c hc=>by
  rw[hst];exact ib _ (uk.mpr ⟨env,q,hc⟩)
 have nst:b∉Ff X.stack:=λz=>by rw[I.stkFree b z]at hH;cases hH
 have ff0:s.heap.FunFrames (qi s.heap (b::Ff X.stack)) (X.env::X.outer):=uo (by rw[<-hst];exact I.stack) hin;have keep:∀ c o,c≠b->s.heap.get? c=some o->hb.get? c=some o:=λc o hc q=>(same.2 c hc).trans q;obtain⟨ob,eb⟩:=Aq (I.hok b u hH)
 have ff:hb.FunFrames (qi s.heap (b::Ff X.stack)) (X.env::X.outer):=by
  have:∀ l:List cq,(∀ env∈l,∀ c,env.frame=some c->c≠b)->s.heap.FunFrames (qi s.heap (b::Ff X.stack)) l->hb.FunFrames (qi s.heap (b::Ff X.stack)) l:=by
   intro l
   induction l with
   |nil=>intro _ _;trivial
   |cons env l ih=>
    intro hl ⟨h1,⟨L,o,f1,f2,f3,f4⟩,h3⟩;exact⟨h1,⟨L,o,f1,f2,keep L o (hl env kc L f1) f3,f4⟩,ih (λe he=>hl e (ib _ he)) h3⟩
  refine this _ (λenv he c hc z=>nst ?_) ff0;rw[<-z,hst];exact uk.mpr ⟨env,he,hc⟩
 have gone:(qi s.heap (b::Ff X.stack)).get? b=none:=jp _ (kc ..);have stays:(qi s.heap (b::Ff X.stack)).StaysIn hb:=λc o q=>keep c o (λz=>by rw[z,gone]at q;cases q) (of_hideAll _ q);obtain⟨m,hm,_⟩:=id I.loc;have hbl:X.env.locals≠b:=λz=>nst (by rw[Sk hst hfr,z];exact kc);have hmb:hb.Ns X.env.locals m:=hm.sameBut same hbl;refine(Az (.ref b) X.env).thn (Q:=λ_ s'=>∃ h',s'= {s with heap:=h'}/\Heap.NotedW (qi s.heap (b::Ff X.stack)) (X.env::X.outer) b (.ref C) a0 (rawInt X.env.locals) hb h') ?_ λ_ s' ⟨h',e',nt⟩ dk=>?_
 .unfold ck;simp only[hfr];refine ja (fm at' rfl h1 ?_);rw[if_neg (by decide)];exact wpAny_entryW (by rw[hA,<-hst];exact I.ok.frames) ff hfr at' stays gone rfl (xr.mp h1).1 h0 λh' nt=>⟨h',rfl,nt⟩
 .subst e';obtain⟨k1,k2,k3,k4⟩:=nt;obtain⟨o',eo,d2⟩:=dk b _ at';refine hq _ ⟨h',s.toks,rfl,⟨k1,gone,k2,k3⟩,λc o hc q nf=>?_,⟨o',eo,d2.1⟩,m,?_⟩
  .have hcb:c≠b:=λz=>by
    obtain⟨o2,vs2,e2,d2⟩:=hbf;rw[z,e2]at q
    cases q;exact nf vs2 d2
   exact k4 c o (keep c o hcb q) nf
  .exact Heap.UpToSlots.ns (h:=hb) k4 hmb
theorem OB(hfr:X.env.frame=some X.env.locals)(hX:Iw X s b cls a0 dx s1)(hq:∀ s2,Iw X s b cls a0 dx s2->Q () s2):
  cb M A (vk (.ref b) X.env.frame) Q Ex s1:=by
 obtain⟨h1,t1,rfl,⟨w1,w2,w3,oe,vs,T,oT,ts,he,hcls,hd,h1',hnT,hTe,hT,hdT,h3⟩,hs,⟨o,eo,ed⟩,m,hm⟩:=hX;have hsz:3<ts.size:=(xr.mp h3).1;rw[hfr];unfold vk;refine ja (fm he hd h1' ?_);rw[if_pos (show(Value.ref T != Value.none)=true from by simp)];have other:∀ c,c≠T->(h1.update T (kn (·.setIfInBounds 3 ((some X.env.locals:Option ia).elim Value.none λf=>rawInt f)))).get? c=h1.get? c:=λc hc=>ui _ _ (jg hc)
 have noRec:∀ c o',h1.get? c=some o'->(∀ vs,o'.data≠ .fields vs)->c≠T:=λc o' q nf z=>by
  rw[z,hT]at q;cases q;exact nf ts hdT
 obtain⟨oL,esL,epL,eL,dL,rL⟩:=id hm;have hLT:X.env.locals≠T:=noRec _ oL eL λvs z=>by rw[dL]at z;cases z
 refine gm hT hdT hsz (hq _ ⟨_,t1,rfl,⟨λc o' q=>(other c λz=>by rw[z,hnT]at q;cases q).trans (w1 c o' q),w2,w3.of_keeps λc o' q nf=>⟨o',(other c (noRec c o' q nf)).trans q,rfl⟩,oe,vs,T,_,_,(other b (jg hTe)).trans he,hcls,hd,h1',hnT,hTe,zi _ hT (xo (dj hdT _)),dj hdT _,by simp[hsz]⟩,
  λc o' hc q nf=>?_,⟨o,(other b (jg hTe)).trans eo,ed⟩,m,⟨oL,esL,epL,(other _ hLT).trans eL,dL,rL⟩⟩)
 obtain⟨sl,e⟩:=hs c o' hc q nf;exact⟨sl,(other c (noRec c _ e nf)).trans e⟩
theorem MV{what:String}{k:Sem α}{Q:α->ka->Prop}(hX:Iw X s b cls a0 dx s1)(hq:cb M A k Q Ex s1):cb M A (do
  if(<-field (.ref b) 1)== .none then unsupported what
  k) Q Ex s1:=by
 obtain⟨h1,t1,rfl,⟨w1,w2,w3,oe,vs,T,oT,ts,he,hcls,hd,h1',_⟩,_⟩:=hX;refine ja (fm he hd h1' ?_);rw[if_neg (show ¬ ((Value.ref T==Value.none)=true) from by simp)];exact hq
theorem HE(I:Inv X pins σ H s)(hex:X.ex= [])(hst:X.stack=X.env::X.outer)(hfr:X.env.frame=some X.env.locals)(hH:H b=some u)(hn1:∀ xs,u≠ .tup xs)(hn2:∀ o v,u≠ .frz o v)(hn3:∀ ps,u≠ .tbl ps)(hn4:∀ c,u≠ .own c)(hnew:X.s₀.heap.get? b=none)(hX:Iw X s b cls a0 dx s1)(hE:E cls (dx,false) (Uw H b))(hQ:∀ s'',HA X.prog X.w X.outer X.H₀ X.s₀ E (.ref b) s''->Q () s''):cb M A (yu X.env (.ref b)) Q Ex s1:=by
 have es:=Sk hst hfr;have noex:∀ c,c∉X.ex:=λc=>by rw[hex];simp
 obtain⟨h1,t1,rfl,hw,hs,⟨o1,eo1,ed1⟩,m,hm⟩:=hX;have nst:∀ c v,H c=some v->c∉Ff X.stack:=λc v q z=>by rw[I.stkFree c z]at q;cases q
 have old:∀ c o,X.s₀.heap.get? c=some o->c≠b:=λc o q z=>by rw[z,hnew]at q;cases q
 have ne:∀ {c:ia} {v:HO},H c=some v->v≠u->c≠b:=λ{c v} q hv z=>by rw[z,hH]at q;cases q;exact hv rfl
 have nl:∀ c,c∉Ff X.outer->((Uw H b c).isSome=true\/(X.s₀.heap.get? c).isSome=true)->c∉b::Ff X.stack:=λc hc h z=>by
  rcases xc.mp z with z|z
  .rw[z,Ik,hnew]at h
   rcases h with h|h<;>cases h
  .rw[es]at z
   rcases xc.mp z with z|z
   .rw[z]at h
    rcases h with h|h
    .obtain⟨o,q⟩:=ve.mp h;have:=(Jk q).2;rw[I.free]at this;cases this
    .obtain⟨o,q⟩:=ve.mp h;exact absurd (bd (sd q) I.ok.above) (xh _)
   .exact hc z
 have inB:∀ c o,s.heap.get? c=some o->c∉b::Ff X.stack->(qi s.heap (b::Ff X.stack)).get? c=some o:=λc o q hc=>hideAll_get _ q hc;unfold yu;refine ja (wpAny_noteFrame_againW hfr hw.2.2.2 ?_);refine(Wk (.ref b) none).thn (Q:=λ_ s''=>∃ h',s''= {s with heap:=h',toks:=t1}/\wn (qi s.heap (b::Ff X.stack)) (X.env::X.outer) b cls a0 h'/\h1.UpToSlots h') (wpAny_landsW hw λh' hfl up=>⟨h',rfl,hfl,up⟩) λ_ s'' ⟨h',e'',hfl,up⟩ dk=>?_;subst e'';obtain⟨o2,eo2,d2⟩:=dk b _ eo1;obtain⟨k1,k2,⟨_,_,k3⟩,k4⟩:=hfl
 have slots:∀ {c:ia} {o:mh},c∈Ff X.outer->s.heap.get? c=some o->∃ sl,h'.get? c=some {o with slots:=sl}:=λ{c o} hc q=>by
  obtain⟨_,o',e',nf⟩:=I.funs.mem hc;rw[q]at e';cases e'
  have hcL:c≠X.env.locals:=λz=>by
   obtain⟨_,o0,e0,_⟩:=I.ok.funs.mem hc;rw[z]at e0
   exact absurd (bd (sd e0) I.ok.above) (xh _)
  obtain⟨sl,e1⟩:=hs c o hcL q nf;obtain⟨sl2,e2⟩:=up c _ e1 nf;exact⟨sl2,e2⟩
 refine hQ _ ⟨b,cls,(dx,false),Uw H b,rfl,I.os,I.bare,⟨⟨λc o e n hc hx=>?_,λc o e n hc hx=>?_,λc o e n hx=>?_,λc o e hx=>?_,λc xs e=>?_,λc o v e=>?_,λc ps e=>?_⟩,λc v e=>?_,λc hc=>?_,hnew,Ik,⟨o2,eo2,d2.1.trans ed1,λz=>by cases z⟩,_,_,⟨k1,k2,k3,k4⟩,λc hc h=>?_⟩,hE⟩
 .exact k1 c o (inB c o (I.base.keep c o e n hc (noex c)) (nl c hc (.inr (by rw[e];rfl))))
 .obtain⟨z1,e1⟩:=I.base.slot c o e n hc (noex c);obtain⟨z2,e2⟩:=slots hc e1;exact⟨z2,e2⟩
 .rw[Hh (old c o e)];exact I.base.free c o e n (noex c)
 .obtain⟨o',e1⟩:=I.base.there c o e (noex c);by_cases hc:c∈Ff X.outer
  .obtain⟨z,e2⟩:=slots hc e1;exact⟨_,e2⟩
  .exact⟨o',k1 c o' (inB c o' e1 (nl c hc (.inr (by rw[e];rfl))))⟩
 .have q:=I.base.tups c xs e;rw[Hh (ne q (jg (hn1 xs)))];exact q
 .have q:=I.base.frzs c o v e;rw[Hh (ne q (jg (hn2 o v)))];exact q
 .obtain⟨more,q⟩:=I.base.tbls c ps e;exact⟨more,by rw[Hh (ne q (jg (hn3 _)))];exact q⟩
 .obtain⟨nb,q⟩:=Jk e
  have nin:∀ c v,c≠b->H c=some v->c∉b::Ff X.stack:=λc v hc hq z=>by
   rcases xc.mp z with z|z
   .exact hc z
   .exact nst c v hq z
  refine(I.hok c v q).stay (λc' v' hc q2=>?_) (λc' z=>?_) λc' xs z=>?_
  .rcases hc with rfl|hc
   .exact k1 c' v' (inB c' v' q2 (nin c' v nb q))
   .exact k1 c' v' (inB c' v' q2 (nin c' _ (ne hc (jg (hn4 _))) hc))
  .rw[Hh (ne z (jg (hn4 _)))];exact z
  .rw[Hh (ne z (jg (hn1 _)))];exact z
 .by_cases hcb:c=b
  .rw[hcb];exact Ik
  .rw[Hh hcb];exact I.stkFree c (by rw[es];exact ib _ hc)
 .have hb':=nl c hc h
  have:∃ o,s.heap.get? c=some o:=by
   rcases h with h|h
   .obtain⟨v,q⟩:=ve.mp h;exact Aq (I.hok c v (Jk q).2)
   .obtain⟨o,q⟩:=ve.mp h;exact I.base.there c o q (noex c)
  obtain⟨o,q⟩:=this;rw[inB c o q hb'];rfl
end
abbrev MB(X:Cx)(ar:ia)(Ex:Da->ka->Prop):Cx:= {X with A:=X.A.mark (some (.ref ar)),calm:=false,xe:=Ex}
def ND(X:Cx)(xw:XW):Prop:=∀ (pins:List (ia×mh)) (σ:L2.St) (H:Hp) (s s1:ka) (b C:ia) (dx:Option ia) (a0:Da) (c:ua) (fs:List D),Inv X pins σ H s->H b=some (.ext (Xj b C dx))->X.s₀.heap.get? b=none->
 Iw X s b (.ref C) a0 dx s1->je X.K aa c=some (some (.ref C))->ExF (Uw H b) (dx,false) fs->xw c fs (Uw H b)->X.xe (.ref b) s1
variable{w:yd}{K:td}{scope:io}{H₀:Hp}
theorem CL{P:ic}{mg:ua->Option Da}{base:pd}{N:List ua}{qual:ua}{f:ia}{cd:Da}{outer:List cq}{s₀:ka}:
  ND (Xl (HA P w) P w K mg base N qual scope f cd A outer s₀ H₀ E) (F7 K E):=by
 intro pins σ H s s1 b C dx a0 c fs I hH hnew hX hn xf q;exact HE I rfl rfl rfl hH (λ_ z=>by cases z) (λ_ _ z=>by cases z) (λ_ z=>by cases z) (λ_ z=>by cases z) hnew hX (q (.ref C) (dx,false) hn xf) λs'' z=>z
variable{xw:XW}{k:Nat}{c:ua}{ks:List (ua×Bool)}{np cpos pos:bh}{a:nc}{es:List nc}{W₀ W:WS}{δ:Ha}{Dn:Ends}
section
variable {ar:ia}{p:bh}{j:Nat}{fs:Ha->Res (List D)}
theorem IW(ok:X.Ok):(MB X ar Ex).Ok:=
 ⟨ok.mod,ok.kind,ok.glob,ok.blt,ok.above,ok.inj,ok.has,ok.cab,λz=>absurd (show false=true from z) (by decide),ok.frames,ok.stk,ok.exf,ok.bs,ok.bsz,ok.noex,ok.exfs,ok.funs,ok.frf⟩
theorem VO(I:Inv X pins σ H s):Inv (MB X ar Ex) pins σ H s:=⟨IW I.ok,I.os,I.bare,I.base,I.loc,I.cell,I.free,I.freeC,I.pin,I.hok,I.len⟩
theorem QE(ok:X.Ok)(I:Inv (MB X ar Ex) pins σ H s):Inv X pins σ H s:=⟨ok,I.os,I.bare,I.base,I.loc,I.cell,I.free,I.freeC,I.pin,I.hok,I.len⟩
theorem ZW{t:TA}(h:PA (markX X ar) es t):PA (MB X ar Ex) es t:=λps pins s σ H Q I hw=>by
 have I':Inv (markX X ar) pins σ H s:=⟨⟨I.ok.mod,I.ok.kind,I.ok.glob,I.ok.blt,I.ok.above,I.ok.inj,I.ok.has,I.ok.cab,I.ok.hd,I.ok.frames,I.ok.stk,I.ok.exf,I.ok.bs,I.ok.bsz,I.ok.noex,I.ok.exfs,I.ok.funs,I.ok.frf⟩,I.os,I.bare,I.base,I.loc,I.cell,I.free,I.freeC,I.pin,I.hok,I.len⟩
 refine se (h ps pins s σ H Q I' hw) (λus s1 ⟨v,H',J,r,z⟩=>⟨v,H',?_,r,z⟩) λ_ _ z=>ud z;exact⟨I.ok,J.os,J.bare,J.base,J.loc,J.cell,J.free,J.freeC,J.pin,J.hok,J.len⟩
theorem LC{H':Hp}{dz:Dx}{Q:Flow->ka->Prop}(F:FnG X.prog X.w X.K X.mg X.base k c ks)(hr:RoomH k X.A)(ha:XA (markX X ar) Nr (a::es) fs)(hex:X.ex= [])(hg:Gl X c)(hdb:(c==("__debug__":ua))=false)(he:Fa (a::es) X.env=(false,eval a X.env)::Fa es X.env)(hpl:(yc cpos (Fa es X.env)).any (·.1)=false)(hks:ks.length<=50)(I:Inv X pins σ H s)(hA:H ar=some (.ext (ExcAt ar cls dz)))(hz:dz.2=true)(st:StHas X.K W₀ H₀ W H σ δ)(q:RS X.K xw W₀ H₀ W H (Pm (Mg fs δ) λds=>if Jv ks ds=true then .ex c (.non::Pk ks ds) else .stuck) Dn)(hEx:∀ (b C:ia) (dx:Option ia) (H1:Hp) (s1:ka) (h':pd) (t0:ia) (sl:Array (Option Da)) (fs':List D),Inv X pins σ H1 s1->H1 b=some (.ext (Xj b C dx))->X.s₀.heap.get? b=none->tm b s1.heap h'->
   h'.get? b=some ⟨.ref C,dx,.fields #[.ref t0,.none,.ref ar,.none,.bool true,.none],sl⟩->je X.K aa c=some (some (.ref C))->ExF (Uw H1 b) (dx,false) fs'->xw c fs' (Uw H1 b)->Ex (.ref b) {s1 with heap:=h'}):
  cb (jb X.prog X.w) (X.A.mark (some (.ref ar))) (execs [.Raise (some (.Call (.Name c np) (a::es) [] cpos)) (some (.Constant .none j p)) pos] X.env) Q Ex s:=by
 obtain⟨i,C,S,f,fd,ps,hj,G,Z,hm,hn,hb⟩:=F.ex;obtain⟨nm,qn,N,bs,bm,hdct,sn,sub,ab,col,dd,k0,k1,k2,k3,k5,lk,_,_,tl⟩:=Z.obj;have T:=dv I.kIn tl
 have rd:B7 X.K Nr fs σ H (λvs H1=>(SmallL ks vs/\∀ b d,H1 b=none->H1 d=none->d≠b->X.s₀.heap.get? b=none->(∃ H2 ds vs',H1=H2/\vs'=vs/\(∀ H,ExVs H ds vs)/\H2 b=none/\H2 d=none/\H2 ar=some (.ext (ExcAt ar cls dz))/\xw c (.non::Pk ks ds) (Lb H2 d (.xd ((ks.map (·.1)).zip vs)))))):=by
  refine⟨W₀,H₀,W,δ,st,?_⟩;have q0:RS X.K xw W₀ H₀ W H (Pm (noex (fs δ)) λds=>if Jv ks ds=true then .ex c (.non::Pk ks ds) else .stuck) Dn:=q;cases hf:fs δ with
  |stuck=>rw[hf]at q0;exact q0
  |ex c' fs'=>rw[hf]at q0;exact q0.elim
  |ok ds=>
   rw[hf]at q0
   have q':RS X.K xw W₀ H₀ W H (if Jv ks ds=true then .ex c (.non::Pk ks ds) else .stuck) Dn:=q0;split at q'
   .rename_i hi;intro vs H2 k2 hv;obtain⟨s1,s2⟩:=Kv hi hv;exact⟨s1,λb d hb1 hd1 hdb hb2=>⟨H2,ds,vs,rfl,rfl,s2,hb1,hd1,k2 _ _ hA,q' _ ((st.fr.ext.trans k2).trans λx o e=>by rw[Ea (Sa e hd1)];exact e)⟩⟩
   .exact q'.elim
 refine cu ?_;rw[arm_exec_Raise];refine ja (xi (KC (C:=C) (ar:=ar) (nm:=nm) (q:=qn) (N:=N) (bs:=bs) (bm:=bm) (hdct:=hdct) (sn:=sn) (sub:=sub) (ab:=ab) (col:=col) (dd:=dd) (k0:=k0) (k1:=k1) (k2:=k2) (k3:=k3) (k5:=k5) (newId:="ValueError.__new__") (T.hasType jm.hasBase) rfl ?_))
 have pe:=ZH (X:=MB X ar Ex) (p:=np) (pos:=cpos) Z G ((hr.mark _).mono hj) hg hm hb hex (ZW (Ex:=Ex) ha.h) hdb he hpl hks pins s σ H (λv H'=>∃ b d H2 vs ds,v=.ref b/\H'=Lb (Lb H2 b (.ext (Xj b C (some d)))) d (.xd ((ks.map (·.1)).zip vs))/\H2 b=none/\H2 d=none/\d≠b/\X.s₀.heap.get? b=none/\SmallL ks vs/\(∀ H,ExVs H ds vs)/\H2 ar=some (.ext (ExcAt ar cls dz))/\xw c (.non::Pk ks ds) (Lb H2 d (.xd ((ks.map (·.1)).zip vs)))) (VO I) (by
  obtain⟨W₀',H₀',W',δ',st',q'⟩:=rd;refine⟨W₀',H₀',W',δ',st',?_⟩;revert q';cases hf:fs δ' with
  |stuck=>exact id
  |ex c' fs'=>exact id
  |ok ds0=>
   intro q' vs H1 k1 hv;obtain⟨s1,q1⟩:=q' vs H1 k1 hv;refine⟨s1,λb d hb1 hd1 hdb' hb2=>?_⟩;obtain⟨H2,ds,vs',rfl,rfl,s2,e1,e2,e3,e4⟩:=q1 b d hb1 hd1 hdb' hb2
   exact⟨b,d,_,_,ds,rfl,rfl,hb1,hd1,hdb',hb2,s1,s2,e3,e4⟩)
 refine ja (thn pe λv s1 ⟨y,H1,I1,r,b,d,H2,vs,ds,ey,eH,h1,hd1,hdb',h2,hs,hv,hA2,qx⟩=>?_);subst ey eH;obtain rfl:v=.ref b:=r;have hbb:Lb (Lb H2 b (.ext (Xj b C (some d)))) d (.xd ((ks.map (·.1)).zip vs)) b=some (.ext (Xj b C (some d))):=by rw[Ea (jg hdb')];exact Ta
 obtain⟨⟨t0,sl,hb'⟩,_,_⟩:=I1.hok b _ hbb;have hab:ar≠b:=λz=>by rw[z,h1]at hA2;cases hA2
 have had:ar≠d:=λz=>by rw[z,hd1]at hA2;cases hA2
 obtain⟨⟨oa,va,ea,_,_,da,za⟩,_,_⟩:=I1.hok ar (.ext (ExcAt ar cls dz)) (by rw[Ea had,Ea hab];exact hA2);refine ja (xi (kb ?_));refine⟨b,some d,t0,sl,oa,va,rfl,I1.kIn _ _ lk,hb',jg hab,ea,da,za hz,λh' same at'=>?_⟩;refine hEx b C (some d) _ s1 h' t0 sl (.non::Pk ks ds) (QE I.ok I1) hbb h2 same at' hn ?_ ?_
 .rw[Mp h1 hdb'];exact WN hs Ta (hv _)
 .rw[Mp h1 hdb'];exact qx
end
def YJ(c2:ua)(ks:List (ua×Bool))(fa:Ha->Res (List D)):ua->List D->Ha->Out:=λ_ xs δ=>match xs with
 | .non::_=>.stuck
 |_=>Pm (Mg fa δ) λds=>if Jv ks ds=true then .ex c2 (.non::Pk ks ds) else .stuck
theorem YN{dx:Dx}{xs:List D}(h:ExF H dx xs)(hn:∀ r,xs≠ .non::r):dx.2=true:=by
 cases xs with
 |nil=>exact h.1
 |cons y r=>
  cases y with
  |non=>exact absurd rfl (hn r)
  |_=>exact h.1
variable{pos2 p2:bh}{st:yf}{x:ua}
section
variable {ea:nc}{eas:List nc}{fs fa:Ha->Res (List D)}{p hpos tpos np2 cpos2:bh}{orelse:List yf}{k2 nn jj:Nat}{C n c2:ua}{m:List D->Res D}{gK:D->Ha->Out}{go:Ha->Out}
theorem XZ(cs:List ua)(hcs:∀ c∈cs,MatchX X.K C c)(hex:X.ex= [])(hst:X.stack=X.env::X.outer)(hfr:X.env.frame=some X.env.locals)(hgC:Gl X C)(hdC:(C==("__debug__":ua))=false)(F:FnG X.prog X.w X.K X.mg X.base k2 c2 ks)(hr:RoomH k2 X.A)(hx:ND X xw)(ha:∀ ar,XA (markX X ar) Nr (ea::eas) fa)(hg:Gl X c2)(hdb:(c2==("__debug__":ua))=false)(he:Fa (ea::eas) X.env=(false,eval ea X.env)::Fa eas X.env)(hpl:(yc cpos2 (Fa eas X.env)).any (·.1)=false)(hks:ks.length<=50)(pins:List (ia×mh))(σ:L2.St)(H H0 H':Hp)(s s':ka)(ar:ia)(cls:Da)(dx:Dx)(c:ua)(xs:List D)(W₀:WS)(H₀:Hp)(W:WS)(δ:Ha)(Dn:Ends)(I:Inv X pins σ H s)(os:s'.os=s.os)(bare:gj s'.gens)(fl:Fly X.prog X.w X.stack H s H' ar cls dx s'.heap)(xf:ExF H' dx xs)(hn:je X.K aa c=some (some cls))(hc:c∈cs)(sth:StHas X.K W₀ H₀ W H0 σ δ)(sm:Same H0 H')(q:RS X.K xw W₀ H₀ W H0 (YJ c2 ks fa c xs δ) Dn):
  cb (jb X.prog X.w) X.A (ck (.ref ar) X.env) (λ_ s₂=>cb (jb X.prog X.w) X.A (vk (.ref ar) none) (λ_ s₃=>
   cb (jb X.prog X.w) X.A (sr (.ref ar) X.env [.ExceptHandler (some (.Name C np)) none [.Raise (some (.Call (.Name c2 np2) (ea::eas) [] cpos2)) (some (.Constant .none jj p2)) pos2] hpos]) (SP X pins Dn) X.xe s₃) X.xe s₂) X.xe s':=by
 obtain⟨vc,vC,e1,e2,e3⟩:=(hcs c hc).ex;rw[hn]at e1
 cases e1;have k2:Same H0 (Lb H' ar (.ext (ExcAt ar cls dx))):=λb o e=>by rw[Ea (Sa (sm b o e) fl.nh)];exact sm b o e
 have hnn:∀ r,xs≠ .non::r:=λr z=>by rw[z]at q;exact q
 have q1:RS X.K xw W₀ H₀ W H0 (Pm (Mg fa δ) λds=>if Jv ks ds=true then .ex c2 (.non::Pk ks ds) else .stuck) Dn:=by
  unfold YJ at q;split at q
  .exact q.elim
  .exact q
 have q2:=RS.step q1 (Step.same (W:=W) k2);refine Sr I hst hfr fl λh5 x5=>?_;refine wpAny_handleBy_cons (Tr (s':= {s' with heap:=h5}) I hst hfr os bare x5 hgC e2 e3 hdC λh6 x6=>codeAny_handlers_suite ?_) (by intro q;cases q);obtain⟨B,a0,f,cov⟩:=x6.fl;refine(Wk (.ref ar) none).thn (Q:=λ_ s7=>∃ h7,s7= {s' with heap:=h7}/\wn B X.stack ar cls a0 h7/\h6.UpToSlots h7) (lands_againW f λh7 f7 up7=>⟨h7,rfl,f7,up7⟩) λ_ s7 ⟨h7,e7,f7,up7⟩ dk7=>?_;subst e7;have x7:=Bu (s':= {s' with heap:=h6}) x6 f cov f7 up7 dk7;have I7:Inv X pins σ H' {s' with heap:=h7}:=Hn (s':= {s' with heap:=h7}) I os bare x7;have I8:=Gx I I7 hex x7.new x7.nh (VN (GH x7));refine LC (H':=H') F hr (ha ar) hex hg hdb he hpl hks I8 Ta (YN xf hnn) (sth.same k2) q2 λb C1 dx1 H1 s1 h' t0 sl fs' I1 hb1 hb2 same at' hn1 xf1 qx=>?_;obtain⟨⟨t9,sl9,e9⟩,_,_⟩:=I1.hok b _ hb1;refine ZJ I1 hst hfr rfl hb1 ⟨_,_,e9,rfl⟩ same at' rfl rfl λs2 h2=>?_;unfold cameBackBy;exact MV h2 (OB hfr h2 λs5 h5=>hx pins _ H1 s1 s5 b C1 dx1 _ c2 fs' I1 hb1 hb2 h5 hn1 xf1 qx)
theorem XX(cs:List ua)(F:FnX X.prog X.w X.K X.mg X.base k x nn m)(hcs:∀ c∈cs,MatchX X.K C c)(hr:Room k X.A)(ha:XA X.nox Nr (a::es) fs)(kd:KindX X (.Call (.Name x p) (a::es) [] cpos) st gK)(hor:XSs X xw orelse go)(F2:FnG X.prog X.w X.K X.mg X.base k2 c2 ks)(hr2:Room k2 X.A)(hx:ND X xw)(ha2:∀ ar,XA (markX X ar) Nr (ea::eas) fa)(hex:X.ex= []:=by rfl)(hst:X.stack=X.env::X.outer:=by rfl)(hfr:X.env.frame=some X.env.locals:=by rfl)(hgC:Gl X C:=by rfl)(hdC:(C==("__debug__":ua))=false:=by decide)(hg:Gl X x:=by rfl)(hdb:(x==("__debug__":ua))=false:=by decide)(he:Fa (a::es) X.env=(false,eval a X.env)::Fa es X.env:=by rfl)(hpl:(yc cpos (Fa es X.env)).any (·.1)=false:=by rfl)(hg2:Gl X c2:=by rfl)(hdb2:(c2==("__debug__":ua))=false:=by decide)(he2:Fa (ea::eas) X.env=(false,eval ea X.env)::Fa eas X.env:=by rfl)(hpl2:(yc cpos2 (Fa eas X.env)).any (·.1)=false:=by rfl)(hks:ks.length<=50:=by decide):
  XS X xw (.Try [st] [.ExceptHandler (some (.Name C np)) none [.Raise (some (.Call (.Name c2 np2) (ea::eas) [] cpos2)) (some (.Constant .none jj p2)) pos2] hpos] orelse [] tpos) (Dr cs (Jr fs nn m []) gK go (YJ c2 ks fa)):=by
 obtain⟨fa',fd,ps,G,hm,hkp,hb⟩:=F.ex;exact XB.try<|KD cs G hm hkp hb .nil (λW H=>HasL.nil) hr ha kd hor (XZ cs hcs hex hst hfr hgC hdC F2 hr2.h hx ha2 hg2 hdb2 he2 hpl2 hks) hg hdb he hpl
end
section
variable {p:bh}{fa:Ha->Res D}
end
section
variable {W1:WS}{H1:Hp}
def M7(K:td)(W₀:WS)(H₀:Hp)(ks:List Jd)(ds:List D)(Q:V->Hp->Prop):Prop:=∀ a kvs H',Same H₀ H'->H₀ a=none->H' a=some (.dK kvs)->kvs.map (·.1)=ks->HasL K (λb=>W₀ b\/b=a) H' ds (kvs.map (·.2))->Q (.ref a) H'
def RSQ(K:td)(xw:XW)(W₀:WS)(H₀:Hp)(W:WS)(H:Hp)(o:Out)(Dn:Ends):Prop:=match o with
 | .rt (.dct ks ds)=>M7 K W₀ H₀ ks ds Dn.rt
 |o=>RS K xw W₀ H₀ W H o Dn
def Ed0(K:td)(xw:XW)(g:Ha->Out):TS:=λDn σ H=>∃ W₀ H₀ W δ,StHas K W₀ H₀ W H σ δ/\RSQ K xw W₀ H₀ W H (g δ) Dn
end
structure NoQ(g:Ha->Out):Prop where
 h:∀ δ ks ds,g δ≠ .rt (.dct ks ds)
section
variable {sts:List yf}{g1 g2:Ha->Out}{p:bh}
structure XSQ(X:Cx)(xw:XW)(sts:List yf)(g:Ha->Out):Prop where
 h:PSs X sts (Ed0 X.K xw g)
def Yc0(K:td)(n:Nat)(m:List D->Res D):Sp:=λvs H Q E=>vs.length=n/\∃ W ds,WL W H/\HasL K W H ds vs/\match m ds with
 | .ok (.dct ks fs)=>M7 K W H ks fs Q
 | .ok d=>∀ v H',Same H H'->Has K W H' d v->Q v H'
 | .ex c fs=>∀ cls dx H',je K aa c=some (some cls)->Same H H'->ExF H' dx fs->E cls dx H'
 | .stuck=>False
structure FnQX(P:ic)(w:yd)(K:td)(mg:ua->Option Da)(base:pd)(k:Nat)(x:ua)(n:Nat)(m:List D->Res D):Prop where
 ex:∃ f fd ps,FnOk P w K mg base (HA P w) k f fd ps (Yc0 K n m)/\mg x=some (.ref f)/\kf K (.ref f)=true/\Binds K fd ps []
end
variable{f:Ha->Res D}{e:nc}
section
variable {p:bh}
end
variable{apos:bh}
section
variable {p:bh}
end
section
variable {b:nc}{fa fb:Ha->Res (List (Jd×D))}{p:bh}
end
section
variable {H':Hp}
end
variable{p1 p3:bh}{tg:nc}
section
variable {p:bh}{ie:nc}{fi:Ha->Res D}{ff:Ha->Res (List D)}
def RN(K:td)(xw:XW)(W:WS)(H:Hp)(r:Res (List D))(Q:VK):Prop:=match r with
 | .ok all=>∀ a (bs:List ia) H1,Same H H1->H a=none->H1 a=some (.lst (bs.map V.ref))->bs.Nodup->a∉bs->bs.length=all.length->(∀ b∈bs,H b=none/\H1 b=some (.lst []))->Q (.ref a) H1
 | .ex c fs=>∀ H',Same H H'->xw c fs H'
 | .stuck=>False
def tNil:TE:=λ_ H Q=>∀ a,H a=none->Q (.ref a) (Lb H a (.lst []))
variable {iter:nc}{fl:Ha->Res (List D)}{t:D->Ha->Res Ha}
end
section
variable {p:bh}{fs:Ha->Res (List D)}
end
structure NoR(g:Ha->Out):Prop where
 h:∀ δ d,g δ≠ .rt d
def T7(xs:List ua):Prop:=xs.length<=100/\∀ x∈xs,(reprText x).length<=1000
section
variable {p:bh}
end
def spR(K:td)(C:ia)(attr:ua):Sp:=λvs H Q _=>∃ a l xs,vs= [.ref a,.ref l]/\SqL K H l (xs.map V.str)/\T7 xs/\H a=some (.ext (Uq a C))/\∀ n o d,H n=none->H d=none->d≠n->Q .non (Lb (Lb (Lb H n (.frz o (.lst (xs.map V.str)))) a (.ext (Xj a C (some d)))) d (.xd [(attr,.ref n)]))
structure XInR(X:Cx)(C:ia)(attr:ua)(sts:List yf):Prop where
 h:PSs X sts (λD σ H=>∃ a l xs,σ[0]? =some (some (.ref a))/\σ[1]? =some (some (.ref l))/\SqL X.K H l (xs.map V.str)/\T7 xs/\H a=some (.ext (Uq a C))/\∀ n o d,H n=none->H d=none->d≠n->D.nx σ (Lb (Lb (Lb H n (.frz o (.lst (xs.map V.str)))) a (.ext (Xj a C (some d)))) d (.xd [(attr,.ref n)])))
variable{attr:ua}
section
variable {S f:ia}{xb self:ua}{p7 p8 p9 q1 q2 q3 q4 q5 q6 r1 r2 r3:bh}{z:ua}
end
structure FnR(P:ic)(w:yd)(K:td)(mg:ua->Option Da)(base:pd)(k:Nat)(c attr:ua):Prop where
 ex:∃ j C S f fd ps,j+1<=k/\FnOkH P w K mg base Fp j f fd ps (spR K C attr)/\XInit K C S f/\mg c=some (.ref C)/\je K aa c=some (some (.ref C))/\Binds K fd ps []
section
variable {S f:ia}{fd:lg}{ps:List ua}{p:bh}{t:TA}{fs:Ha->Res (List D)}
end
def cntV(y:V)(xs:List V):Nat:=xs.countP λz=>BB z y
def Qc0(K:td):V->List V->Hp->VK->Prop:=λx vs H Q=>∃ l xs y,x=.ref l/\vs= [y]/\SqL K H l xs/\Ak y=true/\xs.all Ak=true/\Q (.int (cntV y xs:Int)) H
theorem U3:PZ X "list.count" (Qc0 X.K):=by
 intro pins s σ H x vs v us Q I rx rv h;obtain⟨l,xs,y,rfl,rfl,sq,fy,fs,q⟩:=h;cases rx;obtain⟨u,rfl,ru⟩:=rv.one;obtain⟨its,r,pl,hz⟩:=I.list sq;obtain⟨o,n,e,hc,hd,hdt⟩:=pl;obtain⟨cls,dd,data,sl⟩:=o;simp only at hc hd hdt;subst hc hd hdt
 have ce:∀ {xs:List V} {its:List Da},Vals xs its->xs.all Ak=true->its.countP (SN y)=xs.countP λz=>BB z y:=by
  intro xs its r
  induction r with
  |nil=>intro _;rfl
  |cons h t ih=>
   intro f;rw[dn,qf]at f
   rw[List.countP_cons,List.countP_cons,ih f.2,BE h f.1]
 refine cj F.slot_list_count ⟨_,e,rfl⟩ F.entry_list_count (F.args_list_count_2 _ _) (SeqAt.list_countAt l its.toArray n none sl u (SN y)) ⟨e,λz hz'=>Xp ru fy r fs z (by simpa using hz'),?_⟩;refine⟨.int (cntV y xs:Int),H,I.tok _,⟨s.toks,?_⟩,q⟩;unfold cntV;rw[<-ce r fs]
def Ls(d:D)(as:List D):Res D:=match d,as with
 | .lst ds,[y]=>if(Qf y&&ds.all Qf)=true then .ok (.int ((ds.countP λz=>Pj z y:Nat):Int)) else .stuck
 |_,_=>.stuck
def bL(op:D->List D->Res D)(f:Ha->Res D)(g:Ha->Res (List D)):Ha->Res D:=λδ=>(f δ).bind λx=>match x with
 | .lst ds=>(g δ).bind (op (.lst ds))
 |_=>.stuck
theorem KH{d:D}{v:V}(h:Has K W H d v)(f:Qf d=true):∀ {ds:List D} {xs:List V},HasL K W H ds xs->ds.all Qf=true->xs.all Ak=true/\(xs.map λz=>BB z v)=ds.map λz=>Pj z d
 | [],_,r,_=>by rw[HasL]at r;subst r;exact⟨rfl,rfl⟩
 |e::ds,_,r,fs=>by
  rw[HasL]at r
  obtain⟨x,q,rfl,hx,hq⟩:=r;rw[dn,qf]at fs
  obtain⟨h1,h2⟩:=KH h f hq fs.2;refine⟨by rw[dn,Gm hx fs.1,h1];rfl,?_⟩;rw[db,db,h2,TN hx h fs.1 f]
theorem SG(p:α->Bool)(l:List α):l.countP p=(l.map p).countP id:=by rw[List.countP_map];rfl
section
variable {o:nc}{fs:Ha->Res (List D)}
theorem MK{Q:VK}{op:D->List D->Res D}{r:V->List V->Hp->VK->Prop}(hop:∀ W H2 ds as l xs vs,WL W H2->SqL X.K H2 l xs->HasL X.K W H2 ds xs->HasL X.K W H2 as vs->RE X.K xw W H2 (op (.lst ds) as) Q->r (.ref l) vs H2 Q)(h:OT X.K xw (bL op f fs) σ H Q):MI X.K xw f σ H λx H1=>tyV X.K "list" x H1/\B7 X.K xw fs σ H1 λvs H2=>r x vs H2 Q:=by
 obtain⟨W₀,H₀,W,δ,st,q⟩:=h;refine⟨W₀,H₀,W,δ,st,?_⟩;unfold bL at q;cases h1:f δ with
 |stuck=>rw[h1]at q;exact q
 |ex c fs=>rw[h1]at q;exact q
 |ok d=>
  rw[h1]at q
  intro v H1 k1 hv;cases d with
  |lst ds=>
   have q':RE X.K xw W H ((fs δ).bind (op (.lst ds))) Q:=q;obtain⟨l,xs,rfl,sq,rr⟩:=hv.lst;refine⟨.inl ⟨rfl,xs,sq⟩,W₀,H₀,W,δ,st.same k1,?_⟩;cases h2:fs δ with
   |stuck=>rw[h2]at q';exact q'
   |ex c gs=>rw[h2]at q';exact λH2 k2=>q' H2 (k1.trans k2)
   |ok as=>
    rw[h2]at q'
    intro vs H2 k2 ha
    have sq2:SqL X.K H2 l xs:=by
     rcases sq with(z|⟨o,z⟩)|z
     .exact .inl (.inl (k2 _ _ z))
     .exact .inl (.inr ⟨o,k2 _ _ z⟩)
     .exact .inr z
    exact hop W H2 ds as l xs vs ((st.fr.wl.same k1).same k2) sq2 (rr.same k2 (st.fr.wl.same k1)) ha (RE.same (show RE X.K xw W H (op (.lst ds) as) Q from q') (k1.trans k2))
  |_=>exact q.elim
theorem BA(ho:XP X xw o f)(ha:XA X xw [e] fs)(hbase:dg o "count" X.env (eval o X.env)=eval o X.env:=by rfl)(hfew:((yc cpos (Fa [e] X.env)).all (λx=> !x.1)&&(bj cpos (ig [] X.env)).all (λx=>x.1.isSome)
   &&decide (([e]:List nc).length+([]:List li).length+(if([]:List li).isEmpty then 0 else 1)<30))=true:=by rfl)(hline:(apos.endLine==cpos.line)=true:=by rfl)(hs:Fa [e] X.env=(false,eval e X.env)::Fa [] X.env:=by rfl)(hplain:(yc cpos (Fa [] X.env)).any (·.1)=false:=by rfl):
  XE X xw (.Call (.Attribute o "count" apos) [e] [] cpos) (bL Ls f fs):=
 ⟨PE.weak (As fk PySem.F.slot_list_count PySem.F.type_list_count U3 ho.h ha.h hbase hfew hline hs hplain) λσ H Q h=>MK (λW H2 ds as l xs vs w sq r ra q=>by
  unfold Ls at q;split at q
  .rename_i ds' y e1;cases e1;rw[HasL]at ra
   obtain⟨v,t,rfl,hv,ht⟩:=ra;rw[HasL]at ht
   subst ht;split at q
   .rename_i hf;rw[qf]at hf
    obtain⟨a1,a2⟩:=KH hv hf.1 r hf.2;refine⟨l,xs,v,rfl,rfl,sq,Gm hv hf.1,a1,q (.int _) H2 (Same.refl _) ?_⟩;rw[Has];unfold cntV;rw[SG,a2,<-SG]
   .exact q.elim
  .exact q.elim) h⟩
end
section
variable {prog:ic}{E:Da->ka->Prop}{it l:ia}{xs:Array Da}
end
section
variable {p:bh}
end
section
variable {p:bh}{fs:Ha->Res (List D)}
end
end L3
namespace L3
open PySem
open Sem (wp)
def JT{K:Type}[DecidableEq K](σ:List K)(k:K):List K:=if k∈σ then σ else σ++ [k]
def Ts{K:Type}[DecidableEq K](ks:List K):List K:=ks.foldl JT []
theorem KU{K:Type}[DecidableEq K](σ:List K)(k:K):(JT σ k).length<=σ.length+1:=by unfold JT;split<;>simp
theorem Zw{K:Type}[DecidableEq K]:∀ (ns σ:List K),(ns.foldl JT σ).length<=σ.length+ns.length
 | [],σ=>by simp
 |n::ns,σ=>by have:=Zw ns (JT σ n);have:=KU σ n;rw[Op,ba];omega
theorem TH{K:Type}[DecidableEq K](ns:List K):(Ts ns).length<=ns.length:=by have:=Zw ns [];simpa [Ts] using this
theorem QP{K:Type}[DecidableEq K]{ns:List K}{i:Nat}{k:K}(h:ns[i]? =some k):Ts (ns.take (i+1))=JT (Ts (ns.take i)) k:=by
 unfold Ts;rw[List.take_add_one,List.foldl_append,h];rfl
variable{a:ia}
section
variable {prog:ic}{w:yd}{K:Type}[DecidableEq K]{knd:KeyKind prog w K}{A:ye}{R:iq->ka->Prop}{I:ia}{fp wr:List ia}{G:Array rk->Array rk->Prop}{n:Nat}{P:Nat->Da->Prop}{St:Nat->ka->Prop}{E:Da->ka->Prop}{s:ka}
def SB(knd:KeyKind prog w K)(h:pd)(a:ia)(σ:List K):Prop:=h.SetOf knd a (λk=>decide (k∈σ)) σ.length
theorem SB.at'{h h':pd}{σ:List K}(x:SB knd h a σ)(k:∀ o,h.get? a=some o->h'.get? a=some o):SB knd h' a σ:=by
 obtain⟨o,es,ep,t,ho,r⟩:=x;exact⟨o,es,ep,t,k o ho,r⟩
theorem Z5{σ:List K}{k:K}{v:Da}{Q:Bool->ka->Prop}(hk:knd.is k v=true)(hsc:v.scannable=true)(hS:SB knd s.heap a σ)(room:σ.length+1<nu)(h:∀ h' b,tm a s.heap h'->SB knd h' a (JT σ k)->Q b {s with heap:=h'}):cb (jb prog w) A (setAddHashed a v (knd.hash k)) Q E s:=by
 refine wpAny_setAddHashed_of hk hsc hS room λh' sb hS'=>h h' _ sb ?_;unfold SB JT;by_cases hm:k∈σ
 .rw[if_pos hm];rw[decide_eq_true hm]at hS'
  have e:(λk'=>decide (k'∈σ)||decide (k'=k))=λk'=>decide (k'∈σ):=by
   funext k';by_cases h1:k'=k
   .rw[h1,decide_eq_true hm];rfl
   .rw[decide_eq_false h1,Bool.or_false]
  rw[e]at hS'
  exact hS'
 .rw[if_neg hm];rw[decide_eq_false hm]at hS'
  have e:(λk'=>decide (k'∈σ)||decide (k'=k))=λk'=>decide (k'∈σ++ [k]):=by
   funext k';by_cases h1:k'=k
   .rw[h1];simp
   .simp[h1]
  rw[e]at hS'
  rw[md,aj];exact hS'
theorem ZX(W:WalksS prog w A.in1 I fp wr G n P St)(S:ia)(hSf:S∉fp)(ks:List K)(hn:ks.length=n)(hv:∀ i v,P i v->∃ k,ks[i]? =some k/\knd.is k v=true/\v.scannable=true)(hb:n+1<nu):
  ∀ (k i:Nat) (s:ka),n-i=k->i<=n->St i s->SB knd s.heap S (Ts (ks.take i))->(∀ s',Moved (S::wr) G s s'->SB knd s'.heap S (Ts ks)->R (.ok (.ret .none)) s')->
   kj (jb prog w) A (.builtin "set.update.loop" ⟨[.ref S,.ref I],[]⟩) R s:=by
 have hSw:S∉wr:=λh=>hSf (W.sub _ h);have up:∀ b∈wr,b∈S::wr:=λb hb=>ib _ hb;intro k
 induction k with
 |zero=>
  intro i s hk hi st hS hR;have:i=n:=by omega
  subst this;refine pj On ?_;rw[zp pi _];show cb _ A.in1 (pyNext (.ref I) >>= _) _ _ s;refine ja (W.done s _ _ st λs' mv=>kb (hR s' (mv.mono up) ?_));rw[uj (Nat.le_of_eq hn)]at hS
  exact hS.at' λo e=>mv.heap S o hSw e
 |succ k ih=>
  intro i s hk hi st hS hR;have lt:i<n:=by omega
  refine pj On ?_;rw[zp pi _];show cb _ A.in1 (pyNext (.ref I) >>= _) _ _ s;refine ja (W.item i s _ _ lt st λv s' pv st' mv=>?_);obtain⟨kk,ek,hkk,hsc⟩:=hv i v pv;have hS':SB knd s'.heap S (Ts (ks.take i)):=hS.at' λo e=>mv.heap S o hSw e;have room:(Ts (ks.take i)).length+1<nu:=by have:=TH (ks.take i);rw[js]at this;omega
  show cb _ A.in1 (mn [v] (setAdd S v) >>= _) _ _ s';refine ja (ph ?_);unfold setAdd;refine ph (ja (knd.pyHash (k:=kk) hkk ?_));refine Z5 (s:= {s' with toks:=s'.toks+1}) hkk hsc hS' room λh' b sb hS2=>kb ⟨plainId_quiet pi _,?_⟩;refine ih (i+1) _ (by omega) lt (W.frame _ s' _ _ st' (le_succ _) λb hb o e=>sb.extBut _ _ (λq=>hSf (q▸hb)) e) (by rw[QP ek];exact hS2) λs'' mv2 hS3=>hR s'' ?_ hS3;exact Moved.trans W.gtrans ((mv.mono up).then_heap (le_succ _) λb o hb e=>sb.extBut _ _ (λq=>hb (by rw[q];exact kc)) e) mv2
theorem QR{h:pd}{led:Bool}(hg:h.get? a=some {cls:=.type "set",dict:=none,data:=.set #[] 0 (.fresh 0 0 led)}):SB knd h a []:=
 ⟨_,#[],0,_,hg,⟨rfl,rfl,rfl⟩,rfl,λe he=>by simp at he,λk=>by simp,by decide,by rfl,rfl⟩
theorem Sv{T:String}{l:ia}{ol:mh}{items:Array Da}{ks:List K}{Q:Da->ka->Prop}(hh:A.handled=none)(hol:s.heap.get? l=some ol)(hcl:ol.cls=.type T)(hs1:isSubtype (.type T) (.type "set")=pure false)(hs2:isSubtype (.type T) (.type "frozenset")=pure false)(hnd:(Value.type T==Value.type "dict")=false)(hit:Itr prog w l ol items)(hn:ks.length=items.size)(hv:∀ (i:Nat) (v:Da),items[i]? =some v->∃ k,ks[i]? =some k/\knd.is k v=true/\v.scannable=true)(hb:items.size+1<nu)(h:∀ h' tk,SB knd h' s.heap.objs.size (Ts ks)->(∀ b o,s.heap.get? b=some o->h'.get? b=some o)->Q (.ref s.heap.objs.size) {s with heap:=h',toks:=tk}):cb (jb prog w) A (call (.type "set") [.ref l]) Q E s:=by
 obtain⟨c,tl,hmro⟩:=lh.mro;have hmade:=lh.made;have hsub:=lh.sub;refine xl (mq ?_);show cb _ _ (callAny (.type "set") _) _ _ _;refine kb ⟨pk _ (by decide +kernel),pj PySem.F.entry_type_call ?_⟩;rw[Around.under_plain (weight_type_call_type "set" [.ref l] []) rfl];have q1:=lh.notType;have q2:=lh.canCreate;have q3:=PySem.F.typeCall_set_1 (.ref l)
 repeat (any_goals (first|assumption|wp_step))
 refine ii (WR (.ref l) (E:=E) (Q₁:=λobj s₁=>∃ led:Bool,led=(!w.params.followText "set-order")/\obj=.ref s.heap.objs.size/\s₁= {s with heap:=s.heap.push {cls:=.type "set",dict:=none,data:=.set #[] 0 (.fresh 0 0 led)}}) λled e=>⟨led,e,rfl,rfl⟩) λr s₁ hr=>?_;cases r with
 |error e=>exact hr
 |ok fl=>
  cases fl with
  |ret obj=>
   obtain⟨led,hled,rfl,rfl⟩:=hr;generalize hg:s.heap.push {cls:=.type "set",dict:=none,data:=.set #[] 0 (.fresh 0 0 led)}=h1;have k1:∀ b o,s.heap.get? b=some o->h1.get? b=some o:=λb o e=>by rw[<-hg];exact ya _ e
   have n1:h1.get? s.heap.objs.size=some {cls:=.type "set",dict:=none,data:=.set #[] 0 (.fresh 0 0 led)}:=by rw[<-hg];exact ue _ rfl
   have z1:h1.objs.size=s.heap.objs.size+1:=by rw[<-hg,xq]
   clear hg;have hT:Shared.TypeIs {s with heap:=h1} (.ref s.heap.objs.size) "set":=⟨_,n1,rfl⟩
   have q4:=lh.init.lookup;have q5:=lh.init.bind (.ref s.heap.objs.size)
   repeat (any_goals (first|assumption|wp_step))
   refine ii (og (R:=wants (λr s₂=>r=.none/\∃ h' tk,s₂= {s with heap:=h',toks:=tk}/\SB knd h' s.heap.objs.size (Ts ks)/\∀ b o,s.heap.get? b=some o->h'.get? b=some o) E)
    lh.init.plain PySem.F.entry_set_init (check_set_init_1 hT ?_)) λr₂ s₂ hr₂=>?_
   .have hol':=k1 _ _ hol;have hTl:Shared.TypeIs {s with heap:=h1} (.ref l) T:=⟨_,hol',hcl⟩
    unfold nk.«set.__init__» noKeywords Builtin.Frozenset.updateFrom;generalize hPI:pyIter=PI;wp_walk;subst hPI;refine hit _ _ _ _ hol' λI St h2 W st eI k2=>?_;refine ja (wpAny_runValue ?_);have lS:s.heap.objs.size<I:=by rw[eI];show _<h1.objs.size;rw[z1];exact um _
    have ll:l<s.heap.objs.size:=sd hol
    have hSf:s.heap.objs.size∉ [I,l]:=by
     simp only[xc,mf,or_false,not_or];exact⟨ag lS,du ll⟩
    refine ZX ((W _ (by simp[hh])).toS) s.heap.objs.size hSf ks hn hv hb items.size 0 _ (by omega) (si _) st (QR (k2 _ _ n1)) λs' mv hS=>?_;obtain⟨h',g',d',tk',os'⟩:=s';have eg:g'=s.gens:=mv.gens;have ed:d'=s.drawn:=mv.drawn;have eo:os'=s.os:=mv.os;subst eg ed eo;refine kb (kb ⟨rfl,h',tk',rfl,hS,λb o e=>?_⟩);have lb:b<s.heap.objs.size:=sd e;refine mv.heap b o (λz=>?_) (k2 _ _ (k1 _ _ e));simp only[xc,mf,or_false]at z;rcases z with z|z
    .rw[z]at lb;exact xh _ lb
    .rw[z]at lb;exact xh _ (vq lb lS)
   .cases r₂ with
    |error e=>exact hr₂
    |ok fl₂=>
     cases fl₂ with
     |ret r=>
      obtain⟨rfl,h',tk,rfl,hS',hk'⟩:=hr₂
      repeat (any_goals (first|assumption|wp_step))
      exact h _ _ hS' hk'
     |_=>exact hr₂.elim
  |_=>exact hr.elim
end
open PySem.Spec PyProof.Rows L2 SeqAt
variable{a e:nc}{X:Cx}{xw:XW}{pos p2:bh}{fa:Ha->Res D}
section
variable {p pos2:bh}
theorem LI:∀ {us:List Da} {xs:List ua},Vals (xs.map V.str) us->xs.length=us.length/\∀ (i:Nat) v,us[i]? =some v->∃ k,xs[i]? =some k/\vt k v=true/\v.scannable=true
 |us,[],r=>by cases r;exact⟨rfl,λi v h=>by simp at h⟩
 |us,x::xs,r=>by
  cases r with
  |cons h1 t=>
   obtain⟨l,q⟩:=LI t;refine⟨by rw[ba,ba,l],λi v hv=>?_⟩;cases i with
   |zero=>
    obtain⟨tk,rfl⟩:=h1;have e:Value.str x tk=v:=by simpa using hv
    subst e;exact⟨x,rfl,by simp[vt],rfl⟩
   |succ i=>
    obtain⟨k,e1,e2⟩:=q i v (by simpa using hv);exact⟨k,by simpa using e1,e2⟩
def tLT(K:td)(ta:TE):TE:=λσ H Q=>ta σ H λv H1=>∃ l xs,v=.ref l/\SqL K H1 l (xs.map V.str)/\xs.length<64/\Q (.int (Ts xs).length) H1
theorem FF{ta:TE}(hc:X.calm=true)(hg1:Gl X "len")(hm1:X.mg "len"=none)(hg2:Gl X "set")(hm2:X.mg "set"=none)(ha:PE X a ta)(h1:Fa [.Call (.Name "set" p2) [a] [] pos2] X.env=(false,eval (.Call (.Name "set" p2) [a] [] pos2) X.env)::Fa [] X.env)(h2:Fa [a] X.env=(false,eval a X.env)::Fa [] X.env)(h3:(yc pos (Fa [] X.env)).any (·.1)=false)(h4:(yc pos2 (Fa [] X.env)).any (·.1)=false):PE X (.Call (.Name "len" p) [.Call (.Name "set" p2) [a] [] pos2] [] pos) (tLT X.K ta):=by
 intro pins s σ H Q I h;refine jh (Yo I hg1 hm1 (show ug "len"=some (.builtin "len") by decide +kernel) ?_);refine yo ?_ h1 h3;rw[h1];show cb _ _ (spliced ((false,eval (.Call (.Name "set" p2) [a] [] pos2) X.env)::yc pos (Fa [] X.env))) _ _ s;refine gr ?_;refine jh (Yo I hg2 hm2 (show ug "set"=some (.type "set") by decide +kernel) ?_);refine Tl ?_ h2 h4;rw[h2];show cb _ _ (spliced ((false,eval a X.env)::yc pos2 (Fa [] X.env))) _ _ s;refine gr (thn (ha pins s σ H _ I h) λu s1 ⟨x,H1,I1,r1,q1⟩=>?_);refine Rs ?_;obtain⟨l,xs,rfl,sq,hl,q⟩:=q1;cases (show u=Value.ref l from r1);obtain⟨its,rv,ps,_⟩:=I1.list sq;obtain⟨el,hat⟩:=LI rv;have hb:its.toArray.size+1<nu:=by rw[qc,<-el];unfold nu;omega
 obtain⟨ol,nl,hol,hcl,_,hd⟩:=ps;refine Sv (knd:=strKind X.prog X.w) (I1.ok.hd hc) hol hcl (by rw[isSubtype_type];kernel_rfl) (by rw[isSubtype_type];kernel_rfl) (by decide) (BP hcl hd) (by rw[qc];exact el) (λi v e=>hat i v (by simpa using e)) hb λh' tk hS k=>?_;refine Rs ?_;obtain⟨o,es,ep,t,ho,hex,hd,hel,hp,hb,hf,ht⟩:=hS;have hsz:es.size=(Ts xs).length:=ht
 have hfit:(es.size:Int)<2^63:=by
  have:=TH xs;rw[hsz];omega
 refine call_len_set (s:= {s1 with heap:=h',toks:=tk}) ho hex hd hf hfit ?_;rw[hsz];exact⟨.int ((Ts xs).length:Int),H1,(I1.kept (t':=tk) k).tok _,⟨_,rfl⟩,q⟩
def Gu:D->Res D
 | .lst ds=>match Ul ds with
  |some xs=>@ite _ (xs.length<64) (uc _) (.ok (.int (Ts xs).length)) .stuck
  |none=>.stuck
 |_=>.stuck
theorem EM(hc:X.calm=true)(hm1:X.mg "len"=none)(hm2:X.mg "set"=none)(ha:XP X xw a fa)(hg1:Gl X "len":=by rfl)(hg2:Gl X "set":=by rfl)(h1:Fa [.Call (.Name "set" p2) [a] [] pos2] X.env=(false,eval (.Call (.Name "set" p2) [a] [] pos2) X.env)::Fa [] X.env:=by rfl)(h2:Fa [a] X.env=(false,eval a X.env)::Fa [] X.env:=by rfl)(h3:(yc pos (Fa [] X.env)).any (·.1)=false:=by rfl)(h4:(yc pos2 (Fa [] X.env)).any (·.1)=false:=by rfl):
  XE X xw (.Call (.Name "len" p) [.Call (.Name "set" p2) [a] [] pos2] [] pos) (b1 Gu fa):=
 ⟨PE.weak (FF hc hg1 hm1 hg2 hm2 ha.h h1 h2 h3 h4) λσ H Q ⟨W₀,H₀,W,δ,st,q⟩=>Ng st q λH2 d v k w st2 hv _ q2=>by
  unfold Gu at q2;split at q2
  .split at q2
   .rename_i xs hn;split at q2
    .rename_i hl;obtain⟨p,ys,e,sq,r⟩:=hv.lst;have:=Cp hn r;subst this;exact⟨p,xs,e,sq,hl,q2 _ H2 (Same.refl _) (by rw[Has])⟩
    .exact q2.elim
   .exact q2.elim
  .exact q2.elim⟩
end
section
variable {o:nc}{es:List nc}{f:Ha->Res D}{gs:Ha->Res (List D)}{p apos:bh}{fld m:ua}{cs:List ua}
structure OwnK(K:td)(C:ia):Prop where
 hg:plainGet K C "__class__"=true
 hd:zn K C=true
 ha:fg K (.ref C) "__class__"=some (some (.builtin "object.__class__"))
 hn:specialIn K (.builtin "object.__class__") "__get__"=some (some (.builtin "getset_descriptor.__get__"))
 ht:PySem.W.takesIn K (.builtin "object.__class__")=some true
 hm:nv K C (.type "object")=some true
structure IsiO(K:td)(tb:List (ua×Bool))(vc:V):Prop where
 cls:∃ a,vc=.ref a
 ok:∀ c b,tb.lookup c=some b->∃ C,je K aa c=some (some (.ref C))/\OwnK K C/\kitOne K (.ref C) (HG vc)=some b
structure MtK(P:ic)(w:yd)(K:td)(mg:ua->Option Da)(base:pd)(k:Nat)(c m:ua)(n:Nat)(g:List D->Res D):Prop where
 ex:∃ C f fd ps,je K aa c=some (some (.ref C))/\Cls K C/\Meth K C m f/\FnOk P w K mg base Fp k f fd ps (F6 K n g)/\Binds K fd ps []
end
end L3
namespace L3
open PySem PyProof.Rows
section
variable {prog:ic}{w:yd}{A:ye}{E:Da->ka->Prop}{s:ka}{T:String}{r d:ia}{n:Nat}{P:Nat->Da->Prop}{OK:pd->Prop}
end
open PySem.Spec L2 SeqAt
section
variable {X:Cx}{xw:XW}{e:nc}{f:Ha->Res D}{p pos:bh}
end
end L3
namespace L3
open PySem PySem.SeqAt PySem.MeetsSeq PySem.MeetsSeq2 PySem.MeetsSeq3
section
variable {P:ic}{w:yd}
end
end L3
namespace L3
open PySem PySem.Spec PyProof.Rows L2 SeqAt
variable{X:Cx}{xw:XW}{pins:List (ia×mh)}{σ:L2.St}{W:WS}{H:Hp}{s:ka}
variable{W₀:WS}{H₀:Hp}{δ:Ha}{i:Nat}{cs:List Ch}{a:ia}{sl:S}
section
variable {K:td}{H':Hp}
theorem StHas.innerK{j:Nat}{t:Tp}{c c':Ch}{b:ia}{ob ob':HO}(h:StHas K W₀ H₀ W H σ δ)(hi:δ[i]? =some (some (.k t cs)))(hs:σ[i]? =some (some (.ref a)))(ha:H a=some ob)(hc:cs[j]? =some c)(co:DJ c)(hb:(BK ob)[j]? =some (.ref b))(mo:Ro ob')(co':DJ c')(q:H₀ b=none->W b->Yj W H (Lb H b ob')->ChHas K H₀ W (Lb H b ob') c' (.ref b)):StHas K W₀ H₀ W (Lb H b ob') σ (δ.set i (some (.k t (cs.set j c')))):=by
 obtain⟨v,e,a',ob2,e',h1,h2,h3,h4,h5,h6⟩:=h.at' i _ hi;rw[hs]at e;cases e;cases e'
 rw[ha]at h1;cases h1
 have own:Owns H (.k t cs) (.ref a) b:=.inr ⟨a,ob,j,c,rfl,ha,hc,co,hb⟩;obtain⟨hba,hap⟩:=h5 j c b hc co hb;have ha':Lb H b ob' a=some ob:=by rw[Ea (jg hba)];exact ha
 have hj:j<cs.length:=(pb.mp hc).1
 obtain⟨hWb,h0b,_⟩:=(h.at' i _ hi).elim λv z=>by
  have:v=.ref a:=by have:=z.1;rw[hs]at this;exact(jc (jc this)).symm
  subst this;exact z.2.owns own
 have get:∀ k z,(cs.set j c')[k]? =some z->(k=j/\z=c')\/(k≠j/\cs[k]? =some z):=λk z e=>by
  by_cases hk:j=k
  .subst hk;rw[ze hj]at e
   exact .inl ⟨rfl,(jc e).symm⟩
  .rw[zc hk]at e
   exact .inr ⟨jg hk,e⟩
 refine h.changeS hi hs own mo (λh0 kk=>⟨a,ob,rfl,ha',h2,h3,by rw[List.length_set];exact h4,?_,λk z x e1 e2=>?_⟩) (λb2 o m t' v hm e e'=>h.ap i m _ _ _ _ b2 hm hi e hs e' ?_)
 .intro k z b2 e1 zo e2
  have old:∀ m z,(cs.set j c')[m]? =some z->DJ z->∃ z',cs[m]? =some z'/\DJ z':=λm z e o=>by
   rcases get m z e with⟨rfl,rfl⟩|⟨_,e⟩
   .exact⟨c,hc,co⟩
   .exact⟨z,e,o⟩
  obtain⟨z',g1,g2⟩:=old k z e1 zo;obtain⟨f1,f2⟩:=h5 k z' b2 g1 g2 e2;refine⟨f1,λm z2 hm e3 o3=>?_⟩;obtain⟨z3,g3,g4⟩:=old m z2 e3 o3;exact f2 m z3 hm g3 g4
 .rcases get k z e1 with⟨rfl,rfl⟩|⟨hk,e1⟩
  .rw[hb]at e2;cases e2
   exact q h0b hWb kk
  .have hz:=h6 k z x e1 e2;cases z with
   |d y=>exact Has.keep kk h.fr.wl (λb z=>.inl z) hz
   |l ds=>
    obtain⟨b2,xs,rfl,f1,f2,f3,f4⟩:=hz;have ne:b2≠b:=λy=>hap k _ hk e1 trivial (by rw[<-y];exact e2);exact⟨b2,xs,rfl,f1,f2,by rw[Ea ne];exact f3,HasL.keep kk h.fr.wl (λb z=>.inl z) f4⟩
   |q ks ds=>
    obtain⟨b2,xs,rfl,f1,f2,f3,f4,f5⟩:=hz;have ne:b2≠b:=λy=>hap k _ hk e1 trivial (by rw[<-y];exact e2);exact⟨b2,xs,rfl,f1,f2,by rw[Ea ne];exact f3,f4,HasL.keep kk h.fr.wl (λb z=>.inl z) f5⟩
 .rcases o with o|⟨a2,ob2,k,z,e2,g,e3,zo,e4⟩
  .exact .inl o
  .cases e2;rw[ha']at g;cases g
   rcases get k z e3 with⟨rfl,rfl⟩|⟨_,e3⟩
   .exact .inr ⟨a,ob,_,c,rfl,ha,hc,co,e4⟩
   .exact .inr ⟨a,ob,k,z,rfl,ha,e3,zo,e4⟩
theorem StHas.demote{N:WS}{so:S}{w:V}(h:StHas K W₀ H₀ W H σ δ)(hi:δ[i]? =some (some so))(hs:σ[i]? =some (some w))(oN:∀ b,N b->Owns H so w b)(hd:SlotHas K W₀ H₀ (λb=>W b/\¬ N b) H sl w)(ow:∀ b,Owns H sl w b->Owns H so w b):StHas K W₀ H₀ (λb=>W b/\¬ N b) H σ (δ.set i (some sl)):=by
 obtain⟨v,h1,h2⟩:=h.at' i _ hi;rw[hs]at h1
 cases h1;have kk:Yj W H H:=λ_ _ e _=>e;have hw:∀ b,(W b/\¬ N b)->W b\/H b=none:=λb z=>.inl z.1;have hl:i<δ.length:=(pb.mp hi).1
 have back:∀ (m:Nat) (t:S) (x:V) (b:ia),(δ.set i (some sl))[m]? =some (some t)->σ[m]? =some (some x)->Owns H t x b->∃ t',δ[m]? =some (some t')/\Owns H t' x b:=λm t x b e e' o=>by
  by_cases hm:i=m
  .subst hm;rw[ze hl]at e;cases e
   rw[hs]at e';cases e'
   exact⟨so,hi,ow b o⟩
  .rw[zc hm]at e
   exact⟨t,e,o⟩
 refine⟨⟨h.fr.ext,λb z=>⟨h.fr.sub b z,λe=>?_⟩,⟨λb z=>h.fr.wl b z.1,h.fr.wl.tab⟩,h.fr.wl0⟩,by simp[h.len],λj s e=>?_,λj l s1 s2 u u' b hjl e1 e2 e3 e4 os ot=>?_⟩
 .obtain⟨ys,z',_⟩:=h.fr.wl0 _ z;rw[(h2.owns (oN _ e)).2.1]at z';cases z'
 .by_cases hj:i=j
  .subst hj;rw[ze hl]at e
   cases e;exact⟨_,hs,hd⟩
  .rw[zc hj]at e
   obtain⟨v,g1,g2⟩:=h.at' j s e;exact⟨v,g1,g2.mv h.fr.wl kk hw λb o e1 h1' _ h3' _=>⟨⟨h1',λz=>h.ap i j _ _ _ _ b hj hi e hs g1 (oN b z) e1⟩,h3'⟩⟩
 .obtain⟨t1,g1,o1⟩:=back j s1 u b e1 e3 os;obtain⟨t2,g2,o2⟩:=back l s2 u' b e2 e4 ot;exact h.ap j l t1 t2 u u' b hjl g1 g2 e3 e4 o1 o2
def chD:Ch->D
 | .d x=>x
 | .l ds=>.lst ds
 | .q ks ds=>.dct ks ds
def chL:Ch->Bool
 | .q _ _=>false
 |_=>true
theorem StHas.demoteQ{ks:List Jd}(h:StHas K W₀ H₀ W H σ δ)(hi:δ[i]? =some (some (.k (.dct ks) cs)))(hL:cs.all chL=true):
  ∃ W':WS,(∀ b,W' b->W b)/\StHas K W₀ H₀ W' H σ (δ.set i (some (.q ks (cs.map chD)))):=by
 obtain⟨v,hs,a,ob,rfl,h1,h2,h3,h4,h5,h6⟩:=h.at' i _ hi;cases ob with
 |dK kvs=>
  have hk:kvs.map (·.1)=ks:=h2;refine⟨λb=>W b/\¬ ∃ (j:Nat) (c:Ch),cs[j]? =some c/\DJ c/\(kvs.map (·.2))[j]? =some (V.ref b),λb z=>z.1,h.demote (N:=λb=>∃ (j:Nat) (c:Ch),cs[j]? =some c/\DJ c/\(kvs.map (·.2))[j]? =some (V.ref b)) hi hs (λb ⟨j,c,e1,co,e2⟩=>.inr ⟨a,_,j,c,rfl,h1,e1,co,e2⟩) ?_ (λb o=>.inl ⟨trivial,o⟩)⟩;have na:¬ ∃ (j:Nat) (c:Ch),cs[j]? =some c/\DJ c/\(kvs.map (·.2))[j]? =some (V.ref a):=λ⟨j,c,e1,co,e2⟩=>(h5 j c a e1 co e2).1 rfl;refine⟨a,kvs,rfl,⟨(h3 trivial).1,na⟩,(h3 trivial).2,h1,hk,?_⟩;have hl:cs.length=(kvs.map (·.2)).length:=h4;have kk:Yj W H H:=λ_ _ e _=>e;have hw:∀ b,(W b/\¬ ∃ (j:Nat) (c:Ch),cs[j]? =some c/\DJ c/\(kvs.map (·.2))[j]? =some (V.ref b))->W b\/H b=none:=λb z=>.inl z.1
  have el:∀ (j:Nat) (c:Ch) (x:V),cs[j]? =some c->(kvs.map (·.2))[j]? =some x->Has K (λb=>W b/\¬ ∃ (j:Nat) (c:Ch),cs[j]? =some c/\DJ c/\(kvs.map (·.2))[j]? =some (V.ref b)) H (chD c) x:=λj c x e1 e2=>by
   have hc:=h6 j c x e1 e2;cases c with
   |d y=>exact Has.keep kk h.fr.wl hw hc
   |l ds=>
    obtain⟨b,xs,rfl,f1,f2,f3,f4⟩:=hc;show Has _ _ _ (.lst ds) _;rw[Has];exact⟨b,xs,rfl,.inl ⟨f3,λz=>z.2 ⟨j,_,e1,trivial,e2⟩⟩,HasL.keep kk h.fr.wl hw f4⟩
   |q ks' ds=>
    have:=yi.mp hL _ (mi e1);cases this
  generalize (λb=>W b/\¬ ∃ (j:Nat) (c:Ch),cs[j]? =some c/\DJ c/\(kvs.map (·.2))[j]? =some (V.ref b))=W' at*;generalize kvs.map (·.2)=vs at*;clear na hw h4 h5 h6 hL h2 hk h3 hi
  induction cs generalizing vs with
  |nil=>
   cases vs with
   |nil=>exact HasL.nil
   |cons _ _=>cases hl
  |cons c cs ih=>
   cases vs with
   |nil=>cases hl
   |cons x vs=>
    exact HasL.cons (el 0 c x rfl rfl) (ih vs (by simpa using hl) λj c x e1 e2=>el (j+1) c x (by simpa using e1) (by simpa using e2))
 |_=>exact h2.elim
end
section
variable {e:nc}{f:Ha->Res D}
theorem _root_.L2.Inv.thaw{o:mh}{kvs:List (Jd×V)}(I:Inv X pins σ H s)(ha:H a=some (.frz o (.dK kvs)))(h1:∀ o u,X.H₀ a≠some (.frz o u))(h2:∀ xs,X.H₀ a≠some (.tup xs))(h3:∀ ps,X.H₀ a≠some (.tbl ps)):Inv X pins σ (Lb H a (.dK kvs)) s:=by
 have ne:∀ {b:ia},H b=none->b≠a:=λ{b} e z=>by rw[z,ha]at e;cases e
 have st:∀ {b:ia} {u:HO},ObjOk X.prog X.w H s.heap b u->ObjOk X.prog X.w (Lb H a (.dK kvs)) s.heap b u:=λ{b u} x=>x.stay (λ_ _ _ q=>q)
  (λc e=>by rw[Ea (λz=>by rw[z,ha]at e;cases e)];exact e) λc xs e=>by rw[Ea (λz=>by rw[z,ha]at e;cases e)];exact e
 refine⟨I.ok,I.os,I.bare,⟨I.base.keep,I.base.slot,λb u e n x=>?_,I.base.there,λb xs e=>?_,λb u v e=>?_,λb ps e=>?_⟩,I.loc,I.cell,by rw[Ea (ne I.free)];exact I.free,λx c e=>by rw[Ea (ne (I.freeC x c e))];exact I.freeC x c e,λp hp=>?_,λb u e=>?_,I.len⟩
 .have:=I.base.free b u e n x;rw[Ea (ne this)];exact this
 .rw[Ea (λz=>by rw[z]at e;exact h2 xs e)];exact I.base.tups b xs e
 .rw[Ea (λz=>by rw[z]at e;exact h1 _ _ e)];exact I.base.frzs b u v e
 .rw[Ea (λz=>by rw[z]at e;exact h3 _ e)];exact I.base.tbls b ps e
 .obtain⟨g1,g2,g3⟩:=I.pin p hp;exact⟨g1,by rw[Ea (ne g2)];exact g2,g3⟩
 .by_cases hb:b=a
  .rw[hb,Ta]at e
   cases e;rw[hb];exact st (I.hok a _ ha).2
  .rw[Ea hb]at e
   exact st (I.hok b u e)
def OS:S->Option D
 | .q ks ds=>some (.dct ks ds)
 | .k (.dct ks) cs=>if cs.all chL=true then some (.dct ks (cs.map chD)) else none
 |_=>none
def Pq(i:Nat)(f:Ha->Res D):Ha->Res D:=λδ=>match δ[i]? with
 |some (some s)=>match OS s with
  |some d=>match f (δ.set i (some (.d d))) with
   | .ok x=>if Qf x=true then .ok x else .stuck
   |_=>.stuck
  |none=>.stuck
 |_=>.stuck
theorem CM{d:D}(I:Inv X pins σ H s)(st:StHas X.K W₀ H₀ W H σ δ)(hi:δ[i]? =some (some sl))(hv:OS sl=some d):
  ∃ (a:ia) (kvs:List (Jd×V)) (o:mh) (W':WS),H a=some (.dK kvs)/\(∀ b,W' b->W b)/\Inv X pins σ (Lb H a (.frz o (.dK kvs))) s/\StHas X.K W₀ H₀ W' (Lb H a (.frz o (.dK kvs))) σ (δ.set i (some (.d d))):=by
 have main:∀ {W:WS} {δ:Ha} {ks:List Jd} {ds:List D},StHas X.K W₀ H₀ W H σ δ->δ[i]? =some (some (.q ks ds))->∃ (a:ia) (kvs:List (Jd×V)) (o:mh) (W':WS),H a=some (.dK kvs)/\(∀ b,W' b->W b)/\Inv X pins σ (Lb H a (.frz o (.dK kvs))) s/\StHas X.K W₀ H₀ W' (Lb H a (.frz o (.dK kvs))) σ (δ.set i (some (.d (.dct ks ds)))):=by
  intro W δ ks ds st h;obtain⟨v,e,a,kvs,rfl,r2,r3,r4,r5,r6⟩:=st.at' i _ h;have ok:=I.hok _ _ r4;obtain⟨z,hS,vs,rel,dd⟩:=id ok;obtain⟨o,es,ep,ho,_⟩:=dd;exact⟨a,kvs,o,_,r4,λb z=>z.1,I.write (x:=a) (e:=a) (o:=.frz o (.dK kvs)) (h':=s.heap) (t':=s.toks) (by rw[r4];exact trivial) (.inl rfl) (λb' u hb hu=>hu) ⟨_,ho⟩ ⟨ho,ok⟩,st.frzQ o h e r2 r5 r6⟩
 cases sl with
 |q ks ds=>cases hv;exact main st hi
 |k t cs=>
  cases t with
  |dct ks=>
   unfold OS at hv;dsimp only at hv;split at hv
   .rename_i hL;cases hv;obtain⟨W',hw,st'⟩:=st.demoteQ hi hL;have hl:i<δ.length:=(pb.mp hi).1;obtain⟨a,kvs,o,W2,g1,g2,g3,g4⟩:=main st' (ze hl);rw[List.set_set]at g4
    exact⟨a,kvs,o,W2,g1,λb z=>hw b (g2 b z),g3,g4⟩
   .cases hv
  |_=>cases hv
 |_=>cases hv
theorem R6(i:Nat)(h:XE X xw e f):XE X xw e (Pq i f):=⟨λpins s σ H Q I ⟨W₀,H₀,W,δ,st,q⟩=>by
 unfold Pq at q;split at q
 .rename_i sl hi;split at q
  .rename_i d hv;split at q
   .rename_i x hf;split at q
    .rename_i fl;obtain⟨a,kvs,o,W',ha,hw,I',st'⟩:=CM I st hi hv;refine thn (h.h pins s σ _ (λv H2=>Same (Lb H a (.frz o (.dK kvs))) H2/\Has X.K W' H2 x v) I' ⟨W₀,H₀,W',_,st',?_⟩) λu s' ⟨v,H2,I2,rv,k2,hx⟩=>?_
     .rw[hf];exact λv H2 k2 hx=>⟨k2,hx⟩
     .have h2:H2 a=some (.frz o (.dK kvs)):=k2 _ _ Ta;refine⟨v,Lb H2 a (.dK kvs),I2.thaw h2 (λo u z=>by have:=I.base.frzs _ _ _ z;rw[ha]at this;cases this) (λxs z=>by have:=I.base.tups _ _ z;rw[ha]at this;cases this) (λps z=>by obtain⟨m,this⟩:=I.base.tbls _ _ z;rw[ha]at this;cases this),rv,q v _ (λb u e=>?_) (CO hx fl)⟩;by_cases hb:b=a
      .rw[hb]at e ⊢;rw[Ta,<-ha];exact e
      .rw[Ea hb];exact k2 _ _ (by rw[Ea hb];exact e)
    .exact q.elim
   .exact q.elim
  .exact q.elim
 .exact q.elim⟩
end
end L3
namespace L3
open PySem PySem.Spec PyProof.Rows L2
variable{prog:ic}{w:yd}{A:ye}{E:Da->ka->Prop}{s:ka}{z i1 i2:ia}{k:Nat}
section
variable {TI TO:ia}{f1 f2:List ia}{n1 n2:Nat}{P1 P2:Nat->Da->Prop}{S1 S2:Nat->pd->Prop}
end
structure ZN(z TI TO i1 i2 l1 l2 N:ia):Prop where
 za:ZA z TI TO i1 i2 [i1,l1] [i2,l2]
 n1:l1≠i1
 n2:l2≠i2
 nz:N≠z
 nT:N≠TI
 nO:N≠TO
 m1:N≠i1
 m2:N≠i2
 k1:N≠l1
 k2:N≠l2
variable{l1 l2 N:ia}{t1 t2:Bool}{xs ys:Array Da}
section
variable {TI TO:ia}
end
structure ZG(xs ys:Array Da)(lo:ia)(h:pd)(as:List ia):Prop where
 rise:as.Pairwise (· < ·)
 above:∀ a∈as,lo<a
 pairs:∀ (j:Nat) (a:ia),as[j]? =some a->∃ x y,xs[j]? =some x/\ys[j]? =some y/\IsPair h a x y
section
variable {R:iq->ka->Prop}{TI TO:ia}
end
variable{X:Cx}{xw:XW}{a:nc}{p2 pos:bh}
section
variable {b:nc}{fs:Ha->Res (List D)}{p pos2:bh}
end
open SeqAt
variable{pos':bh}
section
variable {p spos:bh}{fa:Ha->Res D}
end
variable{e:nc}
section
variable {f:Ha->Res Bool}
end
variable{x:ua}{p1 p3 p0:bh}{a1 a2 a3:nc}
section
variable {ie:nc}{f fi:Ha->Res D}
def F3:List Jd->Jd->Option Nat
 | [],_=>none
 |k::ks,x=>if k=x then some 0 else(F3 ks x).map (· +1)
theorem RH{α:Type}{x:Jd}:∀ {kvs:List (Jd×α)} {j:Nat},F3 (kvs.map (·.1)) x=some j->∃ v,Lq kvs x=some v/\(kvs.map (·.2))[j]? =some v
 | [],_,e=>by cases e
 |p::kvs,j,e=>by
  unfold F3 at e;rw[db]at e
  dsimp only at e;by_cases hk:p.1=x
  .rw[if_pos hk]at e
   cases e;exact⟨p.2,Nq hk,rfl⟩
  .rw[if_neg hk]at e
   cases h:F3 (kvs.map (·.1)) x with
   |none=>rw[h]at e;cases e
   |some i=>
    rw[h]at e
    cases e;obtain⟨v,g1,g2⟩:=RH h;exact⟨v,by rw[Mq hk];exact g1,by simpa using g2⟩
theorem BM{σ:L2.St}{H:Hp}{W₀ W:WS}{H₀:Hp}{δ:Ha}{k:D->Out}{Dn:Ends}{R:V->Hp->Prop}(st:StHas X.K W₀ H₀ W H σ δ)(q:RS X.K xw W₀ H₀ W H (Pm (f δ) k) Dn)(h:∀ H2 d v,Same H H2->StHas X.K W₀ H₀ W H2 σ δ->Has X.K W H2 d v->RS X.K xw W₀ H₀ W H2 (k d) Dn->R v H2):OT X.K xw f σ H R:=by
 refine⟨W₀,H₀,W,δ,st,?_⟩;cases h1:f δ with
 |stuck=>rw[h1]at q;exact q
 |ex c fs=>rw[h1]at q;exact λH' k'=>q H' (st.fr.ext.trans k')
 |ok d=>
  rw[h1]at q
  exact λv H2 k2 hv=>h H2 d v k2 (st.same k2) hv (RS.step (o:=k d) q (Step.same k2))
def U7(i:Nat)(f:Ha->Res D)(δ:Ha)(ks:List Jd)(cs:List Ch)(kd:D):Out:=match TV kd with
 |some k=>match F3 ks k with
  |some j=>match cs[j]? with
   |some (.l ds)=>if ds.length<=100000 then Pm (f δ) λd=>.nx (δ.set i (some (.k (.dct ks) (cs.set j (.l (ds++ [d])))))) else .stuck
   |_=>.stuck
  |none=>.stuck
 |none=>.stuck
def FI(i:Nat)(fi f:Ha->Res D):Ha->Out:=λδ=>match δ[i]? with
 |some (some (.k (.dct ks) cs))=>Pm (fi δ) (U7 i f δ ks cs)
 |_=>.stuck
theorem W5(i:Nat){p4:bh}(hi:XE X xw ie fi)(he:XE X xw e f)(hs:Ki ie:=by intro _ _;rfl)(hN:X.N[i]? =some x:=by rfl)(hv:Jw X.env.scope x:=by first|exact Or.inl rfl|exact Or.inr (Or.inl rfl)|exact Or.inr (Or.inr rfl))(hd:(x==("__debug__":ua))=false:=by decide)(hcd:(x==("__classdict__":ua))=false:=by decide)(hsE:Fa [e] X.env=(false,eval e X.env)::Fa [] X.env:=by rfl)(hbase:dg (.Subscript (.Name x p1) ie p4) "append" X.env (eval (.Subscript (.Name x p1) ie p4) X.env)=eval (.Subscript (.Name x p1) ie p4) X.env:=by rfl)(hfew:((yc p3 (Fa [e] X.env)).all (λx=> !x.1)&&(bj p3 (ig [] X.env)).all (λx=>x.1.isSome)
   &&decide (([e]:List nc).length+([]:List li).length+(if([]:List li).isEmpty then 0 else 1)<30))=true:=by rfl)(hline:(p2.endLine==p3.line)=true:=by rfl)(hplain:(yc p3 (Fa [] X.env)).any (·.1)=false:=by rfl)(hsw:ki (.Call (.Attribute (.Subscript (.Name x p1) ie p4) "append" p2) [e] [] p3) none pos.line X.env=pure false:=by rfl):
  XS X xw (.Expr (.Call (.Attribute (.Subscript (.Name x p1) ie p4) "append" p2) [e] [] p3) pos) (FI i fi f):=
 ⟨PS.weak (Dq (As fk yt zt Br (YH (Ph hN hv hd hcd) hi.h hs) (Ie he.h Zh hsE) hbase hfew hline hsE hplain) hsw) λDn σ H ⟨W₀,H₀,W,δ,st,q⟩=>by
  unfold FI at q;split at q
  .rename_i ks cs h;obtain⟨v,e1,a,ob,rfl,_⟩:=st.at' i _ h;refine⟨_,e1,?_⟩;refine Wm st q λH2 kd y st2 hy q2=>?_;unfold U7 at q2;split at q2
   .rename_i k hk;split at q2
    .rename_i j hj;split at q2
     .rename_i ds hc;split at q2
      .rename_i hlen;obtain⟨v2,e2,a2,ob2,e',r1,r2,r3,r4,r5,r6⟩:=st2.at' i _ h;rw[e1]at e2
       cases e2;cases e';cases ob2 with
       |dK kvs=>
        have hks:kvs.map (·.1)=ks:=r2;obtain⟨z,g1,g2⟩:=RH (kvs:=kvs) (by rw[hks];exact hj);obtain⟨b,xs,rfl,f1,f2,f3,f4⟩:=r6 j _ z hc g2;refine⟨a,kvs,k,.ref b,rfl,.inl r1,UB (.inl hy) hk,g1,.inl ⟨rfl,xs,.of f3⟩,?_⟩;refine BM st2 q2 λH3 d u k3 st3 hu q3=>?_;have sz:sizeLine=16777216:=qe;have f3':=k3 _ _ f3;have f4':=HasL.keep (Same.keep k3) st2.fr.wl (λb z=>.inl z) f4;refine⟨b,xs,u,rfl,rfl,f3',?_,?_⟩
        .rw[<-f4.length];omega
        .refine q3 W _ σ ⟨λc o e n=>?_,λ_ z=>.inl z⟩ (st3.innerK (c':=.l (ds++ [d])) h e1 (k3 _ _ r1) hc trivial g2 trivial trivial λh0 hw kk=>⟨b,xs++ [u],rfl,hw,h0,Ta,HasL.keep kk st3.fr.wl (λb z=>.inl z) (f4'.snoc hu)⟩);rw[Ea (λz=>n (by rw[z];exact f1))];exact e
       |_=>exact r2.elim
      .exact q2.elim
     .exact q2.elim
    .exact q2.elim
   .exact q2.elim
  .exact q.elim⟩
def Rc0(t1 t2 t3:TE):TE:=λσ H Q=>∀ d,H d=none->t1 σ (Lb H d (.dK [])) λx1 H1=>∀ c1,H1 c1=none->t2 σ (Lb H1 c1 (.lst [])) λx2 H2=>∀ c2,H2 c2=none->t3 σ (Lb H2 c2 (.lst [])) λx3 H3=>∀ c3,H3 c3=none->
 ∃ k1 k2 k3,x1=kV k1/\x2=kV k2/\x3=kV k3/\k1≠k2/\k1≠k3/\k2≠k3/\Lb H3 c3 (.lst []) d=some (.dK [])/\Q (.ref d) (Lb (Lb H3 c3 (.lst [])) d (.dK [(k1,.ref c1),(k2,.ref c2),(k3,.ref c3)]))
theorem S4{t1 t2 t3:TE}(h1:PE X a1 t1)(h2:PE X a2 t2)(h3:PE X a3 t3):PE X (.Dict [some a1,some a2,some a3] [.List [] p1, .List [] p2, .List [] p3] p0) (Rc0 t1 t2 t3):=by
 intro pins s σ H Q I h
 have big:jk<s.heap.objs.size:=by
  have h:aa<s.heap.objs.size:=(I.mod.glob.keeps I.bk).lt;exact vq (by decide) h
 refine wpAny_Dict_walk (knd:=Od X.prog X.w) rfl rfl (by simp) (by simp) ?_;have I0:=I.laid (a:=s.heap.objs.size) (o:=.dK []) (t':=s.toks) (λ_ _ q=>ya _ q) (Uf _) (JN s.heap big);have nl:∀ {p:bh},PE X (.List [] p) (Ea0 L2.tNil):=TQ Zh;refine oq (thn (h1 pins _ σ _ _ I0 (h _ I.fresh)) λu1 s1 ⟨x1,H1,I1,r1,q1⟩=>thn (nl pins s1 σ H1 (λv H'=>∃ c,v=.ref c/\H1 c=none/\H'=Lb H1 c (.lst [])) I1 ⟨si _,λc hc=>⟨c,rfl,hc,rfl⟩⟩) λw1 s1' ⟨y1,H1',I1',ry1,c1,e1,n1,g1⟩=>?_);subst e1 g1;refine oq (thn (h2 pins _ σ _ _ I1' (q1 c1 n1)) λu2 s2 ⟨x2,H2,I2,r2,q2⟩=>thn (nl pins s2 σ H2 (λv H'=>∃ c,v=.ref c/\H2 c=none/\H'=Lb H2 c (.lst [])) I2 ⟨si _,λc hc=>⟨c,rfl,hc,rfl⟩⟩) λw2 s2' ⟨y2,H2',I2',ry2,c2,e2,n2,g2⟩=>?_);subst e2 g2;refine oq (thn (h3 pins _ σ _ _ I2' (q2 c2 n2)) λu3 s3 ⟨x3,H3,I3,r3,q3⟩=>thn (nl pins s3 σ H3 (λv H'=>∃ c,v=.ref c/\H3 c=none/\H'=Lb H3 c (.lst [])) I3 ⟨si _,λc hc=>⟨c,rfl,hc,rfl⟩⟩) λw3 s3' ⟨y3,H3',I3',ry3,c3,e3,n3,g3⟩=>pairTrees_nil_walk ?_);subst e3 g3;obtain⟨k1,k2,k3,rfl,rfl,rfl,k12,k13,k23,hd,q⟩:=q3 c3 n3;obtain⟨_,hS,vs,rkv,dof⟩:=I3'.hok _ _ hd;have hvs:vs= []:=by cases rkv;rfl
 subst hvs;refine⟨[(k1,w1),(k2,w2),(k3,w3)],?_,dof,λh' hd' sb=>?_⟩
 .exact⟨Ot r1,rfl,Ot r2,rfl,Ot r3,rfl,trivial⟩
 .have em:merged ([]:List (Jd×Da)) [(k1,w1),(k2,w2),(k3,w3)]= [(k1,w1),(k2,w2),(k3,w3)]:=by
   exact merged_nil_of_nodup _ (by simp[k12,k13,k23])
  rw[em]at hd'
  obtain⟨o,es,ep,e,rr⟩:=id hd';refine⟨.ref _,_,I3'.write (x:=s.heap.objs.size) (e:=s.heap.objs.size) (by rw[hd];exact trivial) (.inl rfl) (λb' u hb hu=>(sb.2 b' hb).trans hu) ⟨_,e⟩ ?_,rfl,q⟩;exact⟨by show 3<=sizeLine;rw[qe];decide,hS,_,.cons ⟨rfl,ry1⟩ (.cons ⟨rfl,ry2⟩ (.cons ⟨rfl,ry3⟩ .nil)),hd'⟩
def UX(i:Nat)(a b c:ua):Ha->Out:=λδ=>.nx (δ.set i (some (.k (.dct [.inr a,.inr b,.inr c]) [.l [],.l [],.l []])))
theorem V9(i:Nat){a b c:ua}(h1:XE X xw a1 (kD (.str a)))(h2:XE X xw a2 (kD (.str b)))(h3:XE X xw a3 (kD (.str c)))(hN:X.N.Nodup)(hab:a≠b:=by decide)(hac:a≠c:=by decide)(hbc:b≠c:=by decide)(hi:X.N[i]? =some x:=by rfl)(hx:Loc X.env.scope x:=by first|exact Or.inl rfl|exact Or.inr rfl)(hs:ki (.Dict [some a1,some a2,some a3] [.List [] p1, .List [] p2, .List [] p3] p0) (some (.Name x pos')) pos.line X.env=pure false:=by rfl)(hf:X.fn x=true\/X.env.scope.names.lookup x=some .local:=by first|exact .inl rfl|exact .inr rfl|assumption):XS X xw (.Assign [.Name x pos'] (.Dict [some a1,some a2,some a3] [.List [] p1, .List [] p2, .List [] p3] p0) pos) (UX i a b c):=
 ⟨PS.weak (HF hN hi hx (S4 h1.h h2.h h3.h) hs hf) λDn σ H ⟨W₀,H₀,W,δ,st,q⟩=>by
  intro d hd;have k0:Same H (Lb H d (.dK [])):=Ye hd;refine⟨W₀,H₀,W,δ,st.same k0,λx1 H1 m1 hx1 c1 n1=>?_⟩;have k1:Same H1 (Lb H1 c1 (.lst [])):=Ye n1;refine⟨W₀,H₀,W,δ,((st.same k0).same m1).same k1,λx2 H2 m2 hx2 c2 n2=>?_⟩;have k2:Same H2 (Lb H2 c2 (.lst [])):=Ye n2;refine⟨W₀,H₀,W,δ,((((st.same k0).same m1).same k1).same m2).same k2,λx3 H3 m3 hx3 c3 n3=>?_⟩;have k3:Same H3 (Lb H3 c3 (.lst [])):=Ye n3;rw[Has]at hx1 hx2 hx3
  have d1:H1 d=some (.dK []):=m1 _ _ Ta;have d2:H2 d=some (.dK []):=m2 _ _ (k1 _ _ d1);have d3:H3 d=some (.dK []):=m3 _ _ (k2 _ _ d2);have b2:H2 c1=some (.lst []):=m2 _ _ Ta;have b3:H3 c1=some (.lst []):=m3 _ _ (k2 _ _ b2);have g3:H3 c2=some (.lst []):=m3 _ _ Ta;have s3:Same H H3:=k0.trans (m1.trans (k1.trans (m2.trans (k2.trans m3))));have nd1:c1≠d:=λz=>by rw[z,d1]at n1;cases n1
  have nd2:c2≠d:=λz=>by rw[z,d2]at n2;cases n2
  have nd3:c3≠d:=λz=>by rw[z,d3]at n3;cases n3
  have n12:c2≠c1:=λz=>by rw[z,b2]at n2;cases n2
  have n13:c3≠c1:=λz=>by rw[z,b3]at n3;cases n3
  have n23:c3≠c2:=λz=>by rw[z,g3]at n3;cases n3
  have f1:H c1=none:=Same.free (k0.trans m1) n1;have f2:H c2=none:=Same.free (k0.trans (m1.trans (k1.trans m2))) n2;have f3:H c3=none:=Same.free s3 n3;refine⟨.inr a,.inr b,.inr c,hx1,hx2,hx3,λz=>hab (Ps z),λz=>hac (Ps z),λz=>hbc (Ps z),by rw[Ea (jg nd3)];exact d3,?_⟩;generalize hH:Lb (Lb H3 c3 (.lst [])) d (.dK [(.inr a,.ref c1),(.inr b,.ref c2),(.inr c,.ref c3)])=H';have e0:H' d=some (.dK [(.inr a,.ref c1),(.inr b,.ref c2),(.inr c,.ref c3)]):=by rw[<-hH];exact Ta
  have e1:H' c1=some (.lst []):=by rw[<-hH,Ea nd1,Ea (jg n13)];exact b3
  have e2:H' c2=some (.lst []):=by rw[<-hH,Ea nd2,Ea (jg n23)];exact g3
  have e3:H' c3=some (.lst []):=by rw[<-hH,Ea nd3];exact Ta
  have kk:Same H H':=λy o e=>by
   rw[<-hH,Ea (Sa e hd)];exact k3 _ _ (s3 _ _ e)
  clear hH;have q':RS X.K xw W₀ H₀ W H (.nx (δ.set i (some (.k (.dct [.inr a,.inr b,.inr c]) [.l [],.l [],.l []])))) Dn:=q
  have ow:∀ y,Owns H' (.k (.dct [.inr a,.inr b,.inr c]) [.l [],.l [],.l []]) (.ref d) y->y=d\/y=c1\/y=c2\/y=c3:=λy o=>by
   rcases o with⟨_,o⟩|⟨a',ob,j,ch,z,g,z1,_,z2⟩
   .cases o;exact .inl rfl
   .cases z;rw[e0]at g
    cases g
    match j with
    |0=>cases z2;exact .inr (.inl rfl)
    |1=>cases z2;exact .inr (.inr (.inl rfl))
    |2=>cases z2;exact .inr (.inr (.inr rfl))
    |j+3=>cases z2
  have nn:∀ y,(y=d\/y=c1\/y=c2\/y=c3)->H y=none/\∃ ob,H' y=some ob/\Ro ob:=λy hy=>by
   rcases hy with rfl|rfl|rfl|rfl
   .exact⟨hd,_,e0,trivial⟩
   .exact⟨f1,_,e1,trivial⟩
   .exact⟨f2,_,e2,trivial⟩
   .exact⟨f3,_,e3,trivial⟩
  have st1:=st.ownS (i:=i) (a:=d) (sl:=.k (.dct [.inr a,.inr b,.inr c]) [.l [],.l [],.l []]) (N:=λy=>y=d\/y=c1\/y=c2\/y=c3) kk nn ⟨d,_,rfl,e0,rfl,λ_=>⟨.inr (.inl rfl),Same.free st.fr.ext hd⟩,rfl,?_,?_⟩ (λy o=>(nn y (ow y o)).1)
  .exact q' _ _ _ ⟨λy o e _=>kk _ _ e,λy z=>z.elim .inl λz=>.inr (nn y z).1⟩ st1
  .intro j ch y z1 _ z2
   have key:∀ (j:Nat) (y:ia),(BK (.dK [(.inr a,.ref c1),(.inr b,.ref c2),(.inr c,.ref c3)]))[j]? =some (.ref y)->(j=0/\y=c1)\/(j=1/\y=c2)\/(j=2/\y=c3):=λj y z=>by
    match j with
    |0=>cases z;exact .inl ⟨rfl,rfl⟩
    |1=>cases z;exact .inr (.inl ⟨rfl,rfl⟩)
    |2=>cases z;exact .inr (.inr ⟨rfl,rfl⟩)
    |j+3=>cases z
   refine⟨?_,λm ch' hm _ _ z3=>?_⟩
   .rcases key j y z2 with⟨_,rfl⟩|⟨_,rfl⟩|⟨_,rfl⟩<;>assumption
   .rcases key j y z2 with⟨rfl,rfl⟩|⟨rfl,rfl⟩|⟨rfl,rfl⟩<;>rcases key m _ z3 with⟨rfl,z⟩|⟨rfl,z⟩|⟨rfl,z⟩<;>first|exact hm rfl|exact absurd z (by assumption)|exact absurd z.symm (by assumption)
  .intro j ch y z1 z2
   match j with
   |0=>cases z1;cases z2;exact⟨c1,[],rfl,.inr (.inr (.inl rfl)),Same.free st.fr.ext f1,e1,HasL.nil⟩
   |1=>cases z1;cases z2;exact⟨c2,[],rfl,.inr (.inr (.inr (.inl rfl))),Same.free st.fr.ext f2,e2,HasL.nil⟩
   |2=>cases z1;cases z2;exact⟨c3,[],rfl,.inr (.inr (.inr (.inr rfl))),Same.free st.fr.ext f3,e3,HasL.nil⟩
   |j+3=>cases z1⟩
def qK(i:Nat)(δ:Ha):Ha:=match δ[i]? with
 |some (some (.k (.dct ks) cs))=>if cs.all chL=true then δ.set i (some (.q ks (cs.map chD))) else δ
 |_=>δ
def JZ(i:Nat)(g:Ha->Out):Ha->Out:=λδ=>VX i g (qK i δ)
theorem X5(i:Nat){st:yf}{g:Ha->Out}(h:XS X xw st g):XS X xw st (JZ i g):=⟨λpins s σ H Dn I ⟨W₀,H₀,W,δ,st,q⟩=>(W9 i h).h pins s σ H Dn I (by
 have q':RS X.K xw W₀ H₀ W H (VX i g (qK i δ)) Dn:=q;unfold qK at q';split at q'
 .rename_i ks cs h;split at q'
  .rename_i hL;obtain⟨W',k,st2⟩:=st.demoteQ h hL;exact⟨W₀,H₀,W',_,st2,RS.less k q'⟩
  .exact⟨W₀,H₀,W,δ,st,q'⟩
 .exact⟨W₀,H₀,W,δ,st,q'⟩)⟩
end
end L3
namespace L3
open PySem PySem.Spec PyProof.Rows L2
theorem VJ(t:Bool)(l:ia)(xs:Array Da)(tk:Tok):Meets (nk.«enumerate.__new__» ⟨[.type "enumerate",.ref l],[("start",.int 1 tk)]⟩) (λ_ R s=>IsSq t s.heap l xs/\R (.ok (.ret (.ref (F8 t s.heap l).objs.size))) {s with heap:=(F8 t s.heap l).push {cls:=.type "enumerate",data:=.fields #[.none,.bool false,.ref s.heap.objs.size,rawInt 1,.none,.none]}}):=
 .of_wp λprog w A R s h=>by
  obtain⟨hp,g,d,tk,os⟩:=s;obtain⟨q,h⟩:=h;have hsub:=sub_enumerate;have e1:IsSq t (Shared.heap ⟨hp,g,d,tk,os⟩) l xs:=q;wp_walk;refine wpAny_stack_any λst=>kb ?_;split
  .rename_i c _ _ _ _ _;cases (c==Value.type "enumerate")
   .wp_walk using Wz e1;exact⟨_,rfl,h⟩
   .wp_walk using Wz e1;exact⟨_,rfl,h⟩
  .wp_walk using Wz e1;exact⟨_,rfl,h⟩
variable{a:Da}
theorem ZD{self k:Da}:Meets (nk.«object.__init__» ⟨[self,a],[("start",k)]⟩) (λ_ R s=>s.TypeIs self "enumerate"/\R (.ok (.ret .none)) s):=by
 have hl:=F.called_enumerate.init.lookup;have hm:=F.called_enumerate.made;have hne:(some "enumerate.__new__" != some "object.__new__")=true:=by decide
 refine Meets.of_wp λprog w A R s ⟨hT,hq⟩=>?_
 repeat (any_goals (first|wp_step|assumption))
 exact⟨_,rfl,hq⟩
variable{prog:ic}{w:yd}{A:ye}{E Q:Da->ka->Prop}{s:ka}
theorem AE{v:Da}{S:PySem.Spec}(g:Meets (nk.«enumerate.__new__» ⟨[.type "enumerate",a],[("start",v)]⟩) S)(h:S A.in1 (wants (λobj s₁=>s₁.TypeIs obj "enumerate"/\Q obj s₁) E) s):
  cb (jb prog w) A (call (.type "enumerate") [a] [("start",v)]) Q E s:=by
 have ft:=F.called_enumerate;obtain⟨c,tl,m1⟩:=ft.mro;have m2:=ft.made;have m3:=ft.sub;have m4:=ft.notType;have m5:=ft.canCreate;have m6:checkTypeCall "enumerate" ⟨[a],[("start",v)]⟩=pure ():=by kernel_rfl
 have m7:gp "enumerate.__new__" ⟨[.type "enumerate",a],[("start",v)]⟩=pure ():=by kernel_rfl
 refine xl (mq (show cb _ _ (callAny (.type "enumerate") _) _ _ _ from kb ⟨pk _ (by decide +kernel),pj F.entry_type_call ?_⟩));rw[Around.under_plain (weight_type_call_type "enumerate" [a] [("start",v)]) (units_type_call_type "enumerate" [a] [("start",v)])]
 repeat (any_goals (first|wp_step|assumption))
 refine ii (og ft.plain F.entry_enumerate_new (wpAny_of_eq m7 (g prog w A.in1 _ s h))) λr s1 hr=>?_;cases r with
 |error e=>exact hr
 |ok fl=>
  cases fl with
  |ret obj=>
   obtain⟨hT,hQ⟩:=hr;have m8:=ft.init.lookup;have m9:=ft.init.bind obj;have ok:argsOk "object.__init__" ⟨[obj,a],[("start",v)]⟩:=by first|exact F.args_object_init_kw|kernel_rfl|(intro _ _;kernel_rfl)|decide +kernel
   repeat (any_goals (first|wp_step|assumption))
   refine ii (og ft.init.plain F.entry_object_init (ft.init.check _ _ _ _ _ _ _ _ hT ok (ZD prog w A.in1 (wants (λr s2=>r=.none/\Q obj s2) E) s1 ⟨hT,rfl,hQ⟩))) λr2 s2 hr2=>?_;cases r2 with
   |error e=>exact hr2
   |ok f2=>
    cases f2 with
    |ret z=>
     obtain⟨rfl,hq⟩:=hr2
     repeat (any_goals (first|wp_step|assumption))
    |_=>exact hr2.elim
  |_=>exact hr.elim
def K7(K : td)(t : Bool)(l : ia) : It :=
  ⟨λi H => ∃ xs x, XY t K H l xs /\ xs[i]? = some x,
   λi H v H' => ∃ p x, v = .ref p /\ H p = none /\ H' = Lb H p (.tup [.int ((i + 1 : Nat) : Int), x]) /\ ∀ xs, XY t K H l xs -> xs[i]? = some x,
   λi H => ∃ xs, XY t K H l xs /\ i = xs.length⟩
variable{it:ia}{n:Nat}
theorem LN{fp:List ia}{P:Nat->Da->Prop}{St:Nat->pd->Prop}(D:Draws prog w A it fp n P St):
  Draws prog w A it fp (n+1) (λi x=>P (i-1) x) (λi h=>∃ j,i=j+1/\St j h) where
 live:=λi h ⟨j,_,z⟩=>D.live j h z
 frame:=λi h h' ⟨j,e,z⟩ k=>⟨j,e,D.frame j h h' z k⟩
 item:=λi s Q E hi ⟨j,e,z⟩ hQ=>by
  subst e;exact D.item j s Q E (by omega) z λx h' tk px st sb=>hQ x h' tk px ⟨j+1,rfl,st⟩ sb
 done:=λs Q E ⟨j,e,z⟩ hE=>by
  have:n=j:=by omega
  subst this;exact D.done s Q E z hE
variable{l:ia}
theorem YD{t:Bool}{xs:Array Da}{tk:Tok}(q:IsSq t s.heap l xs)(h:∀ n h',n=s.heap.objs.size->IsEnum h' (n+1) n ((0+1:Nat):Int) .none->SqI t h' n l 0->(∀ c o,s.heap.get? c=some o->h'.get? c=some o)->Q (.ref (n+1)) {s with heap:=h'}):
  cb (jb prog w) A (call (.type "enumerate") [.ref l] [("start",.int 1 tk)]) Q E s:=by
 refine AE (VJ t l xs tk) ⟨q,?_⟩;have z1:(F8 t s.heap l).objs.size=s.heap.objs.size+1:=xq ..;have g2:=ue (F8 t s.heap l) (o:= {cls:=.type "enumerate",data:=.fields #[.none,.bool false,.ref s.heap.objs.size,rawInt 1,.none,.none]}) rfl;have f1:(itO t l).isFreed=false:=by cases t<;>rfl
 have g1:((F8 t s.heap l).push {cls:=.type "enumerate",data:=.fields #[.none,.bool false,.ref s.heap.objs.size,rawInt 1,.none,.none]}).get? s.heap.objs.size=some (itO t l):=ya _ (ue _ f1);show _/\_;rw[z1]at g2 ⊢
 refine⟨⟨_,g2,rfl⟩,h _ _ rfl g2 ?_ λc o e=>ya _ (ya _ e)⟩;cases t with
 |true=>exact⟨_,g1,rfl,rfl⟩
 |false=>exact⟨_,g1,rfl,rfl⟩
variable{P:ic}{elts:List nc}{kt:Nat}
theorem AG{K:td}{pt:bh}{t:Bool}{e:ia}(n1:l≠it)(n2:e≠it)(n3:e≠l):
  Turn P w K (.Tuple elts kt pt) (K7 K t l) [e,it] e (λi h=>(∃ old,IsEnum h e it ((i+1:Nat):Int) old)/\SqI t h it l i) where
 mem:=by simp
 obj:=λi h st b hb=>by
  obtain⟨⟨old,he⟩,s1⟩:=st;simp only[xc,mf,or_false]at hb;rcases hb with rfl|rfl
  .exact⟨_,he,λv q=>nomatch q⟩
  .obtain⟨o,vs,e,d⟩:=s1.rec;exact⟨o,e,λv q=>by rw[d]at q;cases q⟩
 keep:=λi h h' st k=>by
  obtain⟨⟨old,he⟩,s1⟩:=st;exact⟨⟨old,k e (by simp) _ he⟩,s1.at' λo q=>k it (by simp) o q⟩
 item:=by
  intro X hP hw hK hc i pins s σ H E I hf st hg;subst hP hw hK;obtain⟨⟨old,he⟩,s1⟩:=st;obtain⟨xs,x,q1,e1⟩:=hg;obtain⟨it1,r1,p1,_⟩:=JE I q1;obtain⟨u1,hu1,ru1⟩:=r1.get e1;have hef:e∉ [it,l]:=by simp only[xc,mf,or_false,not_or];exact⟨n2,n3⟩
  have hlt:i<it1.toArray.size:=by
   rcases Nat.lt_or_ge i it1.length with z|z
   .simpa using z
   .rw[yk z]at hu1;cases hu1
  refine wpAny_pyNext_enum_itemD (LN (KN (show X.A.in1.handled=none from I.ok.hd hc) t it l n1 it1.toArray)) he ⟨i,rfl,s1,p1⟩ (Nat.succ_lt_succ hlt) n2 hef λx' h1 tk px eo st1 nw sz kk=>⟨_,rfl,?_⟩;have px':it1[i]? =some x':=by simpa using px
  rw[hu1]at px';cases px'
  refine wpAny_letOwnedTupleGo_enum (s:= {s with heap:=h1,toks:=tk+1}) eo λh2 e2 c2=>?_;have le:e<s.heap.objs.size:=sd he;have lit:it<s.heap.objs.size:=by obtain⟨o,_,q,_⟩:=s1.rec;exact sd q
  have up:∀ b o,b≠e->h1.get? b=some o->h2.get? b=some o:=λb o ne q=>c2.extBut _ _ ne q;obtain⟨j,ej,st2⟩:=st1;have:j=i+1:=by omega
  subst this;refine⟨.ref s.heap.objs.size,Lb H s.heap.objs.size (.tup [.int ((i+1:Nat):Int),x]),?_,rfl,⟨_,x,rfl,I.hok.fresh (Uf _),rfl,λzs hs=>by rw[ME I hs q1];exact e1⟩,⟨⟨_,e2⟩,st2.1.at' λo q=>up _ _ (jg n2) q⟩,λb hb=>?_⟩
  .show Inv X pins σ (Lb H s.heap.objs.size (.tup [.int ((i+1:Nat):Int),x])) {s with heap:=h2,toks:=tk+1};refine CK (ch:= [e,it]) (t':=tk+1) I hf (λb o hb q=>?_) (Uf _) (.cons (by exact⟨tk,rfl⟩) (.cons ru1 .nil)) (show(2:Nat)<=sizeLine by rw[qe];decide) ⟨_,up _ _ (du le) nw,rfl,_,rfl⟩;simp only[xc,mf,or_false,not_or]at hb;exact up _ _ hb.1 (kk b o hb.1 hb.2 q)
  .have hb1:=(hf b hb).1
   have:b<s.heap.objs.size:=by
    simp only[xc,mf,or_false]at hb;rcases hb with rfl|rfl
    .exact le
    .exact lit
   rw[Ea (ag this)];exact hb1
 done:=by
  intro X hP hw hK hc i pins s σ H E I hf st hg;subst hP hw hK;obtain⟨⟨old,he⟩,s1⟩:=st;obtain⟨xs,q1,rfl⟩:=hg;obtain⟨it1,r1,p1,_⟩:=JE I q1;have hsz:xs.length=it1.toArray.size:=by simp[r1.length]
  rw[hsz]at s1 he
  refine wpAny_pyNext_enum_endD (KN (show X.A.in1.handled=none from I.ok.hd hc) t it l n1 it1.toArray) he ⟨s1,p1⟩ λh1 k=>⟨rfl,?_⟩;refine EK (ch:= [e,it]) (t':=s.toks) I hf λb o hb q=>?_;simp only[xc,mf,or_false,not_or]at hb;exact k b o hb.2 q
 self:=λ_ _ _ _ _ st h=>let ⟨⟨_,he⟩,_⟩:=st;wpAny_pyIter_enum he h
variable{a b:nc}{X:Cx}{xw:XW}{pos:bh}
section
variable {pt p kp:bh}{fs:Ha->Res (List D)}
def O2(K:td)(ta:TA):TI:=λσ H R=>ta σ H λvs H1=>∃ t l xs,vs= [.ref l]/\XY t K H1 l xs/\R (K7 K t l) H1
theorem YQ{ta:TA}(hg:Gl X "enumerate")(hm:X.mg "enumerate"=none)(ha:PA X [a] ta)(hb:PE X b (tC (.int 1)))(hs:Fa [a] X.env= [(false,eval a X.env)])(he:eval (.Call (.Name "enumerate" p) [a] [⟨some "start",b,kp⟩] pos) X.env=(do callWith pos (<-eval (.Name "enumerate" p) X.env) [] (yc pos (Fa [a] X.env)) (bj pos (ig [⟨some "start",b,kp⟩] X.env))):=by rfl)(hk:ig [⟨some "start",b,kp⟩] X.env= [(some ("start":ua),eval b X.env)]:=by rfl):
  PI X (.Tuple elts kt pt) (.Call (.Name "enumerate" p) [a] [⟨some "start",b,kp⟩] pos) (O2 X.K ta):=by
 intro pins s σ H R I h;rw[he,hk];refine ja (Yo I hg hm (show ug "enumerate"=some (.type "enumerate") by decide +kernel) ?_);refine PySem.W.callWith_of (P:=λ_=>True) ?_ (λh _=>⟨.machine,.inr (.inl rfl),.now⟩) ?_
 .rw[hs];rfl
 .rw[hs];refine evalArgs_kw (by rfl) ?_;have ha':=ha pos pins s σ H _ I h;rw[hs]at ha'
  refine thn ha' λus s1 ⟨vs,H1,I1,r1,t,l,xs,e,q1,q⟩=>?_;subst e;obtain⟨u1,rfl,ru1⟩:=r1.one;cases (show u1=Value.ref l from ru1);refine wpAny_evalAll_cons (ja (thn (hb pins s1 σ H1 (λv H'=>v=.int 1/\H'=H1) I1 ⟨rfl,rfl⟩) λu s2 ⟨v,H2,I2,rv,ev,eh⟩=>ja (xi (kb (wpAny_evalAll_nil ⟨trivial,?_⟩)))));subst ev eh;obtain⟨tk,rfl⟩:=rv;obtain⟨it1,v1,p1,_⟩:=JE I2 q1;have a1:=p1.lt;refine YD p1 λn h' hn he s1' kk=>wpAny_pyIter_enum he ?_;subst hn;have J:Inv X pins σ H2 {s2 with heap:=h'}:=I2.kept (t':=s2.toks) λc o e=>kk c o e;refine⟨s2.heap.objs.size+1,[s2.heap.objs.size+1,s2.heap.objs.size],_,_,H2,rfl,J,AG (t:=t) (ag a1) (du (um _)) (du (jt a1)),⟨⟨_,he⟩,s1'⟩,λc hc=>?_,q⟩
  have hcs:s2.heap.objs.size<=c:=by
   simp only[xc,mf,or_false]at hc;rcases hc with rfl|rfl
   .exact le_succ _
   .exact Uf _
  exact I2.fpOk hcs (I2.hok.fresh hcs)
def Wo(ds:List D):Res (List D):=match ds with
 | [x]=>match ZO x with
  |some xs=>.ok (Of 1 xs)
  |_=>.stuck
 |_=>.stuck
theorem NV{elts:List nc}{kt:Nat}{pt:bh}{fs:Ha->Res (List D)}(hm:X.mg "enumerate"=none)(ha:XA X xw [a] fs)(hb:PE X b (tC (.int 1)):=by exact SQ)(hg:Gl X "enumerate":=by rfl)(hs:Fa [a] X.env= [(false,eval a X.env)]:=by rfl)(he:eval (.Call (.Name "enumerate" p) [a] [⟨some "start",b,kp⟩] pos) X.env=(do callWith pos (<-eval (.Name "enumerate" p) X.env) [] (yc pos (Fa [a] X.env)) (bj pos (ig [⟨some "start",b,kp⟩] X.env))):=by rfl)(hk:ig [⟨some "start",b,kp⟩] X.env= [(some ("start":ua),eval b X.env)]:=by rfl):
  XI X xw (.Tuple elts kt pt) (.Call (.Name "enumerate" p) [a] [⟨some "start",b,kp⟩] pos) (b1 Wo fs):=
 ⟨PI.weak (YQ hg hm ha.h hb hs he hk) λσ H R ⟨W₀,H₀,W,δ,st,q⟩=>by
  refine⟨W₀,H₀,W,δ,st,?_⟩;simp only[b1]at q;cases h1:fs δ with
  |stuck=>rw[h1]at q;exact q
  |ex c gs=>rw[h1]at q;exact q
  |ok ds=>
   rw[h1]at q
   intro vs H1 k1 hv;dsimp only[Res.bind]at q;unfold Wo at q;split at q
   .rename_i ds' hq;split at hq
    .rename_i x;split at hq
     .rename_i xs ex;have e':Of 1 xs=ds':=by cases hq;rfl
      subst e';rw[HasL]at hv
      obtain⟨v1,r1,rfl,g1,hv⟩:=hv;rw[HasL]at hv
      subst hv;have w1:=st.fr.wl.same k1;obtain⟨t1,l1,xs1,rfl,r1,f1⟩:=G6 w1 g1 ex;refine⟨t1,l1,xs1,rfl,f1 W H1 Step.refl,q _ H1 k1 λW' H2 k2 w2=>?_⟩;have c1:=f1 W' H2 k2;refine⟨λi d e=>?_,xs1,c1,by rw[Ww,r1.length]⟩;obtain⟨x0,e1,rfl⟩:=Vw e;obtain⟨x1,o1,hx1⟩:=r1.get e1;refine⟨⟨xs1,x1,c1,o1⟩,λu H3 ⟨p0,x2,e2,hp,e3,z1⟩=>?_⟩;subst e2 e3;have:=z1 xs1 c1;rw[o1]at this;cases this
      refine⟨Ye hp,?_⟩;rw[Has];have hx2:=(Has.keep k2.keep w1 k2.new hx1).same (Ye (o:=.tup [.int ((i+1:Nat):Int),x1]) hp) w2;refine⟨p0,[.int ((i+1:Nat):Int),x1],rfl,.of Ta,HasL.cons ?_ (HasL.cons hx2 HasL.nil)⟩;rw[Has,Nat.add_comm]
     .cases hq
    .cases hq
   .rename_i hq;split at hq
    .split at hq<;>cases hq
    .cases hq
   .exact q.elim⟩
end
open SeqAt
variable{α:Type}{ad:ia}{es:Array yq}{x:ua}
section
variable {p p2 apos cpos:bh}{e o:nc}{f fa fb:Ha->Res D}{fs:Ha->Res (List D)}
def QX:V->List V->Hp->VK->Prop:=λx vs H Q=>∃ z y,x=.str z/\vs= [.str y]/\Q (.bl (wf z y)) H
theorem QK:PZ X "str.startswith" QX:=by
 intro pins s σ H x vs v us Q I rx rv h;obtain⟨z,y,rfl,rfl,q⟩:=h;obtain⟨t,rfl⟩:=rx;obtain⟨u',rfl,ru⟩:=rv.one;obtain⟨u,rfl⟩:=ru;exact PySem.SC.startswith ⟨.bl _,H,I,rfl,q⟩
def Sl(z:ua):List D->Res D
 | [.str y]=>.ok (.bl (wf z y))
 |_=>.stuck
theorem VS(ho:XE X xw o f)(ha:XA X xw [e] fs)(hbase:dg o "startswith" X.env (eval o X.env)=eval o X.env:=by rfl)(hfew:((yc cpos (Fa [e] X.env)).all (λx=> !x.1)&&(bj cpos (ig [] X.env)).all (λx=>x.1.isSome)
   &&decide (([e]:List nc).length+([]:List li).length+(if([]:List li).isEmpty then 0 else 1)<30))=true:=by rfl)(hline:(apos.endLine==cpos.line)=true:=by rfl)(hs:Fa [e] X.env=(false,eval e X.env)::Fa [] X.env:=by rfl)(hplain:(yc cpos (Fa [] X.env)).any (·.1)=false:=by rfl):
  XE X xw (.Call (.Attribute o "startswith" apos) [e] [] cpos) (bM Sl f fs):=
 ⟨PE.weak (As (T:="str") F.plainAttrs_str F.slot_str_startswith F.type_str_startswith QK ho.h ha.h hbase hfew hline hs hplain) λσ H Q ⟨W₀,H₀,W,δ,st,q⟩=>by
  unfold bM at q;refine⟨W₀,H₀,W,δ,st,?_⟩;cases h1:f δ with
  |stuck=>rw[h1]at q;exact q
  |ex c fs=>rw[h1]at q;exact q
  |ok d=>
   rw[h1]at q
   intro v H1 k1 hv;cases d with
   |str z=>
    rw[Has]at hv
    subst hv;have q':RE X.K xw W H ((fs δ).bind (Sl z)) Q:=q;refine⟨rfl,W₀,H₀,W,δ,st.same k1,?_⟩;cases h2:fs δ with
    |stuck=>rw[h2]at q';exact q'
    |ex c gs=>rw[h2]at q';exact λH2 k2=>q' H2 (k1.trans k2)
    |ok ds=>
     rw[h2]at q'
     intro vs H2 k2 hvs;have q2:RE X.K xw W H (Sl z ds) Q:=q';unfold Sl at q2;split at q2
     .rename_i y;rw[HasL]at hvs
      obtain⟨y',r,rfl,hy,hr⟩:=hvs;rw[HasL]at hr
      rw[Has]at hy
      subst hr hy;exact⟨z,y,rfl,rfl,q2 _ H2 (k1.trans k2) (by rw[Has])⟩
     .exact q2.elim
   |_=>exact q.elim⟩
def IM(w:yd)(R:Da->α->Prop)(e:yq)(p:ua×α):Prop:=e.hash=VV w (.inr p.1)/\(∃ t,e.key=.str p.1 t)/\R e.val p.2
theorem Nv{α:Type}{R:Da->α->Prop}{P:ic}{w:yd}:∀ {es:List yq} {l:List (ua×α)},zq (IM w R) es l->∃ vs:List (Jd×Da),Pairs (Od P w) es vs/\vs.map (·.1)=l.map (λp=>Sum.inr p.1)/\
  (∀ k,match l.lookup k with|some v=>∃ u,ml vs (.inr k)=some u/\R u v|none=>ml vs (.inr k)=none)/\∀ e∈es,∃ k,(Od P w).is k e.key=true/\e.hash=(Od P w).hash k
 | [],_,h=>by
  cases h;exact⟨[],.nil,rfl,λk=>rfl,λe he=>by simp at he⟩
 |e::es,_,h=>by
  cases h with
  |@cons _ p _ l h1 h2=>
   obtain⟨vs,g1,g2,g3,g4⟩:=Nv (P:=P) h2;obtain⟨k1,⟨t,k2⟩,k3⟩:=h1;have hk:(Od P w).is (.inr p.1) e.key=true:=by rw[k2];exact Yr P w _ _
   refine⟨(.inr p.1,e.val)::vs,.cons hk rfl g1,by rw[db,db,g2],λk=>?_,λe' he=>?_⟩
   .rw[show p=(p.1,p.2) from rfl,sf];cases hb:k==p.1 with
    |true=>
     have:=eq_of_beq hb;subst this;exact⟨e.val,by simp[ml,qr],k3⟩
    |false=>
     have ne:¬ p.1=k:=λz=>by rw[z]at hb;simp at hb
     have ev:ml ((Sum.inr p.1,e.val)::vs) (Sum.inr k:Jd)=ml vs (.inr k):=by simp[ml,qr,ne]
     rw[ev];exact g3 k
   .rcases xc.mp he with rfl|he
    .exact⟨_,hk,k1⟩
    .exact g4 e' he
structure GlobG{α:Type}(R:Da->α->Prop)(w:yd)(K:td)(mg:ua->Option Da)(x:ua)(l:List (ua×α)):Prop where
 h:∃ (ad:ia) (o:mh) (es:Array yq) (n:Nat),mg x=some (.ref ad)/\K.lookup ad=some o/\o.ExactDict/\o.data=.dict es n/\zq (IM w R) es.toList l/\(l.map (·.1)).Nodup/\(ad==jk)=false
theorem IB{R:Da->α->Prop}{l:List (ua×α)}{o:mh}{hp:pd}(hx:hp.get? ad=some o)(h3:o.ExactDict)(h4:o.data=.dict es n)(h5:zq (IM w R) es.toList l)(h6:(l.map (·.1)).Nodup):
  ∃ vs,hp.DictOf (Od P w) ad vs/\∀ k,match l.lookup k with|some v=>∃ u,ml vs (.inr k)=some u/\R u v|none=>ml vs (.inr k)=none:=by
 obtain⟨vs,g1,g2,g3,g4⟩:=Nv (P:=P) h5;refine⟨vs,⟨o,es,n,hx,h3,h4,λe he=>g4 e (vp.mpr he),g1,?_⟩,g3⟩;rw[g2,show(l.map (λp=>(Sum.inr p.1:Jd)))=(l.map (·.1)).map Sum.inr by rw[gl];rfl];exact List.Pairwise.map _ (λ_ _ h z=>h (Ps z)) h6
def Pu(l:List (ua×α)):D->Res D
 | .str k=>.ok (.bl (!(l.lookup k).isSome))
 |_=>.stuck
theorem OW{R:Da->α->Prop}{l:List (ua×α)}{o:mh}(h2:X.K.lookup ad=some o)(h3:o.ExactDict)(h4:o.data=.dict es n)(h5:zq (IM X.w R) es.toList l)(h6:(l.map (·.1)).Nodup)(h7:(ad==jk)=false):
  OpR X (yh .NotIn) (λy x H Q=>∃ k,x=.ref ad/\y=.str k/\Q (.bl (!(l.lookup k).isSome)) H):=by
 intro pins s σ H y x u v Q I ry rx h;obtain⟨k,rfl,rfl,q⟩:=h;cases rx;obtain⟨vs,dd,g⟩:=IB (P:=X.prog) (I.kIn ad o h2) h3 h4 h5 h6;refine wpAny_notIn_of (SE (k:=.inr k) ry) h7 dd.mapOf ⟨.bl (!(l.lookup k).isSome),H,I.tok _,?_,q⟩;have:=g k;cases hl:l.lookup k with
 |none=>rw[hl]at this;rw[this];rfl
 |some v=>rw[hl]at this;obtain⟨u,e,_⟩:=this;rw[e];rfl
theorem U6{R:Da->α->Prop}{l:List (ua×α)}(hm:GlobG R X.w X.K X.mg x l)(ha:XP X xw a fa)(hmk:gi .NotIn (.Name x p)=false:=by rfl)(hg:Gl X x:=by rfl)(hdb:(x==("__debug__":ua))=false:=by decide):
  XT X xw (.Compare a [.NotIn] [.Name x p] pos) (tR (b1 (Pu l) fa)):=⟨by
 obtain⟨ad,o,es,n,h1,h2,h3,h4,h5,h6,h7⟩:=hm.h;refine DE.t_of (f:=b1 (Pu l) fa) (PT.weak (Mz (OW h2 h3 h4 h5 h6 h7) ha.h (Mt (v:=.ref ad) hg h1 rfl hdb) hmk) λσ H Q ⟨W₀,H₀,W,δ,st,q⟩=>?_);show MI X.K xw fa σ H _;refine Ng st q λH2 d v k w st2 hv _ q2=>?_;unfold Pu at q2;cases d with
 |str k=>rw[hv.str];exact⟨k,rfl,rfl,q2 _ _ (Same.refl _) (by rw[Has])⟩
 |_=>exact q2.elim⟩
def Hr(dd:α->D)(l:List (ua×α)):D->Res D
 | .str k=>match l.lookup k with
  |some v=>.ok (dd v)
  |none=>.stuck
 |_=>.stuck
def N9(K:td)(ad:ia)(dd:α->D)(l:List (ua×α)):R2:=λx y H Q=>∃ k v,x=.ref ad/\y=.str k/\l.lookup k=some v/\∀ z,(∀ W H,Has K W H (dd v) z)->Q z H
theorem OQ{R:Da->α->Prop}{dd:α->D}{ta tb:TE}{l:List (ua×α)}{o:mh}(h2:X.K.lookup ad=some o)(h3:o.ExactDict)(h4:o.data=.dict es n)(h5:zq (IM X.w R) es.toList l)(h6:(l.map (·.1)).Nodup)(hR:∀ u v,R u v->∃ z,L2.RelV z u/\∀ W H,Has X.K W H (dd v) z)(ha:PE X a ta)(hb:PE X b tb)(hs:Ki b):PE X (.Subscript a b pos) (D7 (N9 X.K ad dd l) ta tb):=by
 intro pins s σ H Q I h;refine Subscript_ (PM ha hb I h λv u s2 x y H2 I2 rx ry q=>?_);obtain⟨k,z,rfl,rfl,hg,q⟩:=q;cases rx;obtain⟨vs,dd',g⟩:=IB (P:=X.prog) (I2.kIn ad o h2) h3 h4 h5 h6;have g':=g k;rw[hg]at g'
 obtain⟨uv,hw,hr⟩:=g';obtain⟨zv,r1,r2⟩:=hR _ _ hr;unfold wt;refine ja ?_;rw[getitemInPython_of_ne dd'.typeIs.not_modules];refine ja (dq dd'.typeIs Os.lookup ?_)
 have fin:cb (jb X.prog X.w) X.A (subscripted b false (.ref ad) u) (λr s₃=>cb (jb X.prog X.w) X.A (letTemporaryGo a (.ref ad) r >>= λ_=>pure r) (EP X pins σ Q) X.xe s₃) X.xe s2:=by
  rw[hs (.ref ad) u];exact wpAny_operating (wpAny_getItem_of (SE (k:=.inr k) ry) dd'.mapOf hw (ja (wpAny_letTemporaryGo (kb ⟨zv,H2,I2.tok _,r1,q zv r2⟩))))
 first
  |exact kb (ja fin)
  |exact ja (kb (ja fin))
  |exact ja fin
theorem VI{R:Da->α->Prop}{dd:α->D}{l:List (ua×α)}(hm:GlobG R X.w X.K X.mg x l)(hR:∀ u v,R u v->∃ z,L2.RelV z u/\∀ W H,Has X.K W H (dd v) z)(hb:XP X xw b fb)(hs:Ki b:=by intro _ _;rfl)(hg:Gl X x:=by rfl)(hdb:(x==("__debug__":ua))=false:=by decide):
  XE X xw (.Subscript (.Name x p) b pos) (b1 (Hr dd l) fb):=⟨by
 obtain⟨ad,o,es,n,h1,h2,h3,h4,h5,h6,h7⟩:=hm.h;refine PE.weak (OQ h2 h3 h4 h5 h6 hR (Mt (v:=.ref ad) hg h1 rfl hdb) hb.h hs) λσ H Q ⟨W₀,H₀,W,δ,st,q⟩=>?_;show MI X.K xw fb σ H _;refine Ng st q λH2 d v k w st2 hv _ q2=>?_;unfold Hr at q2;cases d with
 |str k=>
  dsimp only at q2;split at q2
  .rename_i z hz;rw[hv.str];exact⟨k,z,rfl,rfl,hz,λy hy=>q2 _ _ (Same.refl _) (hy _ _)⟩
  .exact q2.elim
 |_=>exact q2.elim⟩
def Q7:Da->ua->Prop:=λu x=>∃ t,u=.str x t
def P7(K:td):Da->List ua->Prop:=λu xs=>∃ (c:ia) (o:mh) (its:Array Da) (n:Nat),u=.ref c/\K.lookup c=some o/\o.cls=.type "tuple"/\o.data=.seq its n/\its.size<=sizeLine/\Vals (xs.map V.str) its.toList
def VA(xs:List ua):D:=.tup (xs.map D.str)
theorem WI{l:List (ua×ua)}(hm:GlobG Q7 X.w X.K X.mg x l)(hb:XP X xw b fb)(hs:Ki b:=by intro _ _;rfl)(hg:Gl X x:=by rfl)(hdb:(x==("__debug__":ua))=false:=by decide):
  XE X xw (.Subscript (.Name x p) b pos) (b1 (Hr D.str l) fb):=VI hm (λu v ⟨t,e⟩=>⟨.str v,⟨t,e⟩,λW H=>by rw[Has]⟩) hb hs hg hdb
theorem NY{l:List (ua×List ua)}(hm:GlobG (P7 X.K) X.w X.K X.mg x l)(hb:XP X xw b fb)(hs:Ki b:=by intro _ _;rfl)(hg:Gl X x:=by rfl)(hdb:(x==("__debug__":ua))=false:=by decide):
  XE X xw (.Subscript (.Name x p) b pos) (b1 (Hr VA l) fb):=VI hm (λu v ⟨c,o,its,n,e,g1,g2,g3,g4,g5⟩=>⟨.ref c,e,λW H=>by
   unfold VA;rw[Has]
   exact⟨c,v.map V.str,rfl,.inr ⟨o,its,n,g1,g2,g3,g4,g5⟩,Oq v⟩⟩) hb hs hg hdb
end
end L3
namespace L3
open PySem PySem.Spec PyProof.Rows L2 SeqAt
open Builtin Builtin.Str
variable{X:Cx}{xw:XW}{apos cpos:bh}{o:nc}{f:Ha->Res D}
section
variable {pos p p2:bh}{a b e:nc}{fa fb:Ha->Res D}{fs:Ha->Res (List D)}
theorem FL(bs:List Bool):(wo bs.length).any (λi=>bs.getD i false)=bs.any id:=by
 induction bs with
 |nil=>rfl
 |cons b bs ih=>
  rw[ba,qo,xt,List.any_map,xt,<-ih];rfl
theorem IJ(hc:X.calm=true):CallR X (.builtin "any") (λxs H Q=>∃ W ds bs v,xs= [v]/\HasT X.K W H (.lst ds) v/\Qb ds=some bs/\Q (.bl (bs.any id)) H):=by
 intro pins s σ H xs us Q I r h;obtain⟨W,ds,bs,v,rfl,hd,hb,q⟩:=h;obtain⟨u,rfl,rx⟩:=vals1 r;obtain⟨a,ys,rfl,sq,rl⟩:=hd.lst;cases (show u=Value.ref a from rx);obtain⟨its,rv,pl,hz⟩:=I.list sq;have hlt:a<s.heap.objs.size:=by obtain⟨_,e,_⟩:=pl.isList;exact sd e
 have hh:X.A.in1.handled=none:=I.ok.hd hc;refine call_any_walk (il pl.isList ⟨s.heap.objs.size,_,_,_,_,_,λi=>bs.getD i false,rfl,Walks.list hh s.heap.objs.size a (ag hlt) its.toArray,⟨⟨_,ue _ rfl,rfl,rfl⟩,pl.isList.push _⟩,λi v s' Q' E' hP hQ'=>?_,λh' tk hk=>?_⟩)
 .have hi:its[i]? =some v:=by simpa using hP
  have hil:i<ys.length:=by rw[rv.length];exact(pb.mp hi).1
  obtain⟨x,e1⟩:∃ x,ys[i]? =some x:=⟨_,qd hil⟩
  obtain⟨d,e2,hx⟩:=rl.at' e1;obtain⟨b,rfl,e3⟩:=Bm hb e2;rw[Has]at hx
  subst hx;obtain⟨w',e4,rw'⟩:=rv.get e1;rw[hi]at e4;cases e4
  cases (show v=Value.bool b from rw');have:bs.getD i false=b:=by rw[qh,e3];rfl
  dsimp only at hQ';rw[this]at hQ'
  exact cg hQ'
 .rw[show its.toArray.size=bs.length by rw[qc,Cm hb,rl.length,rv.length],FL];refine⟨.bl _,H,I.kept (λb o e=>hk b o (λz=>?_) (ya _ e)),rfl,q⟩;have:b=s.heap.objs.size:=by simpa using z
  exact absurd (sd e) (by rw[this];exact xh _)
def Wx:D->Res D
 | .lst ds=>match Qb ds with
  |some bs=>.ok (.bl (bs.any id))
  |none=>.stuck
 |_=>.stuck
theorem Na0(hc:X.calm=true)(hm:X.mg "any"=none)(ha:XP X xw a fa)(hg:Gl X "any":=by rfl)(he:Fa [a] X.env=(false,eval a X.env)::Fa [] X.env:=by rfl)(hpl:(yc pos (Fa [] X.env)).any (·.1)=false:=by rfl):
  XE X xw (.Call (.Name "any" p) [a] [] pos) (b1 Wx fa):=
 ⟨Vq (IJ hc) (λW H d v Q w hv q=>by
  unfold Wx at q;split at q
  .split at q
   .rename_i hb;exact⟨W,_,_,v,rfl,hv,hb,q.bl⟩
   .exact q.elim
  .exact q.elim) hm (by decide +kernel) ha.h hg (by decide) (by decide) he hpl⟩
def PX:V->List V->Hp->VK->Prop:=λx vs H Q=>∃ z y,x=.str z/\vs= [.str y]/\(y.length==0)=false/\z.length<=100000/\(vm z (ik z y 0 z.length (z.length+1)) y.length).length<=1000/\
 ∀ p,H p=none->Q (.ref p) (Lb H p (.lst ((yb z y).map V.str)))
theorem PK:PZ X "str.split" PX:=by
 intro pins s σ H x vs v us Q I rx rv h;obtain⟨z,y,rfl,rfl,hy,hz,hp,q⟩:=h;obtain⟨t,rfl⟩:=rx;obtain⟨u',rfl,ru⟩:=rv.one;obtain⟨u,rfl⟩:=ru;have hz':z.length<=sizeLine:=by rw[qe];omega
 have hp':=bf hp Km;have hs:=bf (split_len z y hp) Km
 have one:yb z y= [z]->∀ tk,EP X pins σ Q (.ref s.heap.objs.size) {s with heap:=s.heap.push {cls:=.type "list",data:=.seq [Value.str z t].toArray},toks:=tk}:=λe tk=>by
  rw[e]at q
  exact⟨.ref _,_,I.lnew (t':=tk) (ys:= [.str z]) (its:= [.str z t]) (.cons ⟨t,rfl⟩ .nil) (by rw[qe,aj];decide),rfl,q _ I.fresh⟩
 cases h1:(decide (z.length<y.length)||decide (strKind z<strKind y))
 .cases hf:(ik z y 0 z.length (z.length+1)).isEmpty
  .refine cj F.slot_str_split (dm _ _ _) F.entry_str_split (F.args_str_split_2 _ _) (meets_str_split_sep z y t u h1 hy hf hz' hp') ?_;have e:yb z y=vm z (ik z y 0 z.length (z.length+1)) y.length:=(if_neg (ne_true_of_eq_false h1)).trans (if_neg (ne_true_of_eq_false hf));rw[e]at q hs
   exact⟨.ref _,_,I.lnew (Fk s.toks _) (by rw[Db];exact hs),rfl,q _ I.fresh⟩
  .exact cj F.slot_str_split (dm _ _ _) F.entry_str_split (F.args_str_split_2 _ _) (zr z y t u h1 hy hf) (one ((if_neg (ne_true_of_eq_false h1)).trans (if_pos hf)) s.toks)
 .exact cj F.slot_str_split (dm _ _ _) F.entry_str_split (F.args_str_split_2 _ _) (lq z y t u h1) (one (if_pos h1) s.toks)
def Jf(z:ua):List D->Res (List D)
 | [.str y]=>@ite (Res (List D)) ((y.length==0)=false/\z.length<=100000/\(vm z (ik z y 0 z.length (z.length+1)) y.length).length<=1000) (uc _) (.ok ((yb z y).map D.str)) .stuck
 |_=>.stuck
theorem DB(ho:XE X xw o f)(ha:XA X xw [e] fs)(hbase:dg o "split" X.env (eval o X.env)=eval o X.env:=by rfl)(hfew:((yc cpos (Fa [e] X.env)).all (λx=> !x.1)&&(bj cpos (ig [] X.env)).all (λx=>x.1.isSome)
   &&decide (([e]:List nc).length+([]:List li).length+(if([]:List li).isEmpty then 0 else 1)<30))=true:=by rfl)(hline:(apos.endLine==cpos.line)=true:=by rfl)(hs:Fa [e] X.env=(false,eval e X.env)::Fa [] X.env:=by rfl)(hplain:(yc cpos (Fa [] X.env)).any (·.1)=false:=by rfl):
  XF X xw (.Call (.Attribute o "split" apos) [e] [] cpos) (bM Jf f fs):=
 ⟨PE.weak (As (T:="str") F.plainAttrs_str F.slot_str_split F.type_str_split PK ho.h ha.h hbase hfew hline hs hplain) λσ H Q ⟨W₀,H₀,W,δ,st,q⟩=>by
  unfold bM at q;refine⟨W₀,H₀,W,δ,st,?_⟩;cases h1:f δ with
  |stuck=>rw[h1]at q;exact q
  |ex c fs=>rw[h1]at q;exact q
  |ok d=>
   rw[h1]at q
   intro v H1 k1 hv;cases d with
   |str z=>
    rw[Has]at hv
    subst hv;have q':RF X.K xw W H ((fs δ).bind (Jf z)) Q:=q;refine⟨rfl,W₀,H₀,W,δ,st.same k1,?_⟩;cases h2:fs δ with
    |stuck=>rw[h2]at q';exact q'
    |ex c gs=>rw[h2]at q';exact λH2 k2=>q' H2 (k1.trans k2)
    |ok ds=>
     rw[h2]at q'
     intro vs H2 k2 hvs;have q2:RF X.K xw W H (Jf z ds) Q:=q';unfold Jf at q2;split at q2
     .rename_i y;split at q2
      .rename_i hz;rw[HasL]at hvs
       obtain⟨x,r,rfl,hx,hr⟩:=hvs;rw[HasL]at hr
       rw[Has]at hx
       subst hr hx;exact⟨z,y,rfl,rfl,hz.1,hz.2.1,hz.2.2,λp hp=>q2 p _ H2 (k1.trans k2) hp (Oq _)⟩
      .exact q2.elim
     .exact q2.elim
   |_=>exact q.elim⟩
end
end L3
namespace L3
open PySem
def A7(m i:Nat):Nat:=(i*5+1)%m
section
variable {mask:Nat}{owner:Array (Option Nat)}
end
section
variable {prog:ic}{w:yd}{K:Type}[DecidableEq K]{knd:KeyKind prog w K}{A:ye}{E:Da->ka->Prop}{s:ka}
structure At(knd:KeyKind prog w K)(h:pd)(a:ia)(o:mh)(es:Array (Int×Da))(ep:Nat)(t:yp):Prop where
 get:h.get? a=some o
 ex:o.ExactSet
 dat:o.data=.set es ep t
 el:ElemsOf knd es.toList
 sz:es.size<64
 fit:t.fits es.size=true
section
variable {a b r:ia}{o oo ro:mh}{es eo re:Array (Int×Da)}{ep epo rp:Nat}{t tb rt:yp}
end
end
variable{prog:ic}{w:yd}{K:Type}{A:ye}{E:Da->ka->Prop}{s:ka}{a b r:ia}{o oo ro:mh}{es eo re:Array (Int×Da)}{ep epo rp:Nat}{tb rt:yp}
section
variable [DecidableEq K]{knd:KeyKind prog w K}
variable {t:yp}
end
section
variable [DecidableEq K]{knd:KeyKind prog w K}
variable {t:yp}
end
open PySem.Spec PyProof.Rows L2 SeqAt
section
variable [DecidableEq K]{knd:KeyKind prog w K}
variable {σ τ:List K}
end
variable{a b:nc}{X:Cx}{xw:XW}{pos p2:bh}
section
variable {p1 p3 p4 p5 p6 pc pcc:bh}{fa fb:Ha->Res D}{op:Operator}
end
section
variable {e:nc}{f:Ha->Res D}{fs:Ha->Res (List D)}{p pos2:bh}
end
section
variable {prog:ic}{w:yd}{A:ye}{E:Da->ka->Prop}{s:ka}
section
variable {h0:pd}{l q I S:ia}{vs:List Da}{R:iq->ka->Prop}{Q:Da->ka->Prop}{dk:List (ua×Da)}
end
end
end L3
namespace L3
open PySem PySem.Spec PyProof.Rows L2
open SeqAt
variable{X:Cx}{σ:L2.St}{H:Hp}
section
variable {pins:List (ia×mh)}{s:ka}
structure LamOk(fv lv:ua)(params:Arguments)(sc:io):Prop where
 co:sc.isCoroutine=false
 gen:sc.isGenerator=false
 kind:sc.kind=.function
 cell:∀ x∈sc.names,x.2≠ .cell
 loc:sc.names.lookup lv=some .local
 free:sc.names.lookup fv=some .free
 glob:sc.names.lookup ("len":ua)=some .globalImplicit
 bind:∀ (qual:ua) (body:nc) (clos:List (ua×ia)) (pm:Da) (c':ia) (ctv u:Da),bindArgs (PySem.W.kla_fn "<lambda>" qual params body sc clos pm (.ref c') ctv) ⟨[u],[]⟩=pure [(lv,u)]
 dl:(lv==("__debug__":ua))=false
 df:(fv==("__debug__":ua))=false
 cf:(fv==("__classdict__":ua))=false
end
variable{xw:XW}{e:nc}{f:Ha->Res D}{pos:bh}
section
variable {tg:nc}{apos:bh}
end
section
variable {K:td}{W₀ W:WS}{H₀:Hp}{δ:Ha}
end
section
variable {ie:nc}{fi:Ha->Res D}{p1 p2:bh}
end
section
variable {p:bh}
end
end L3
namespace G
open PySem PySem.Spec PyProof.Rows L2 L3
def Lj:Ha->Out:=(Ab (Nf (tR (b2 NT (Ba 1) (b1 Gc (Ba 0)))) (Gb (b2 Xc (Ba 0) (Ba 1))) Out.nx)
  (Gb (kD (.int 0))))
def Pb:List D->Res D:=Hf 2 Lj
def Kb:Ha->Out:=(Ab (Rb 3 (b2 Xc (Ba 0) (Ba 2)))
  (Ab (Rb 4 (OI (b2 Nu (b2 Kd (Ba 3) (kD (.int 0))) (b2 Kd (Ba 2) (kD (.int 0)))) (OI (Ek (b2 Xy (Ba 3) (kD (.int 1))) (b2 Kd (b2 Xc (Ba 1) (kD (.int 1))) (kD (.int 0)))) (Ek (b2 Xy (Ba 3) (kD (.int 0))) (b2 Kd (b2 Xc (Ba 1) (Ba 3)) (kD (.int 60)))))))
  (Ab (Nf (Fe (tR (Ra 4)) (Fe (Vj (tR (b2 Kd (Ba 3) (kD (.int 1)))) (tR (b2 Xy (b2 Wc (b2 Xc (Ba 1) (kD (.int 2))) (b2 Xc (Ba 1) (kD (.int 3)))) (kD (.int 0))))) (Vj (tR (b2 Kd (Ba 3) (kD (.int 2)))) (tR (b2 Xy (b2 Xc (Ba 1) (kD (.int 3))) (kD (.int 0))))))) (Gb (Ra 2)) Out.nx)
  (Cs 1 (Ra 3) (b2 Wc (b2 Xc (Ba 1) (Ba 3)) (kD (.int 1)))))))
def Hk:Ha->Out:=(Ab (Tj 1 (b1 Oc (Aa (kD (.int 0)) (Aa (kD (.int 0)) (Aa (kD (.int 0)) (Aa (kD (.int 0)) Ja))))))
  (Ab (Aj (Cc 2) Kb (b1 Xe (Aa (b1 Gc (Ba 0)) Ja)))
  (Ab (Nf (tR (b2 Kd (b2 Xc (Ba 1) (kD (.int 1))) (kD (.int 0)))) (Gb (b1 Gc (Ba 0))) Out.nx)
  (Gb (kD .non)))))
def Jc:List D->Res D:=Hf 5 Hk
def Bo:Ha->Res D:=(kD (.int 1))
def Co:Ha->Res D:=(kD (.int 2))
def Eo:Ha->Res D:=(kD (.int 3))
def Fo:Ha->Res D:=(kD (.int 1))
def Ho:Ha->Res D:=(kD (.int 2))
def Io:Ha->Res D:=(kD (.int 3))
def Tg:Ha->Out:=(Ab (Nf (tR (b2 Kd (Ba 0) (kD (.int 1)))) (Gb (Bd (Qc 1 (Cc 0) (λ_=>.ok true) Bo (b1 Xe (Aa (b2 Wc (kD (.int 57)) (Ba 1)) Ja))))) Out.nx)
  (Ab (Nf (tR (b2 Kd (Ba 0) (kD (.int 2)))) (Gb (Bd (Qc 1 (Cc 0) (λ_=>.ok true) Co (b1 Xe (Aa (b2 Wc (kD (.int 58)) (Ba 1)) Ja))))) Out.nx)
  (Ab (Nf (tR (b2 Kd (Ba 0) (kD (.int 3)))) (Gb (Bd (Qc 1 (Cc 0) (λ_=>.ok true) Eo (b1 Xe (Aa (b2 Wc (kD (.int 58)) (Ba 1)) Ja))))) Out.nx)
  (Ab (Nf (tR (b2 Kd (Ba 0) (kD (.int 4)))) (Ab (Rb 2 (Bd (b1 Oc (Aa (b2 Wc (kD (.int 59)) (b1 Wv (b2 Kd (Ba 1) (kD (.int 0))))) (Aa (b2 Wc (kD (.int 60)) (b1 Wv (b2 Kd (Ba 1) (kD (.int 1))))) (Aa (b2 Wc (kD (.int 60)) (b1 Wv (b2 Kd (Ba 1) (kD (.int 2))))) Ja))))))
  (Gb (Bd (OG Vt (Bd (OG Vt (Bd (Qc 1 (Cc 0) (λ_=>.ok true) Fo (b1 Xe (Aa (b2 Xc (Ba 2) (kD (.int 0))) Ja)))) (Bd (Qc 1 (Cc 0) (λ_=>.ok true) Ho (b1 Xe (Aa (b2 Xc (Ba 2) (kD (.int 1))) Ja)))))) (Bd (Qc 1 (Cc 0) (λ_=>.ok true) Io (b1 Xe (Aa (b2 Xc (Ba 2) (kD (.int 2))) Ja)))))))) Out.nx)
  (Gb (Bd (b1 Oc Ja)))))))
def Yc:List D->Res D:=Hf 3 Tg
def Kh:Ha->Out:=(Ws 2 (b2 Xc (Bd (b1 Oc (Aa (kD (.int 1)) (Aa (kD (.int 1)) (Aa (kD (.int 2)) (Aa (kD (.int 1)) (Aa (kD (.int 1)) (Aa (kD (.int 3)) (Aa (kD (.int 1)) (Aa (kD (.int 2)) (Aa (kD (.int 1)) (Aa (kD (.int 1)) (Aa (kD (.int 1)) (Aa (kD (.int 2)) (Aa (kD (.int 1)) (Aa (kD (.int 0)) Ja)))))))))))))))) (b2 Gf (Ba 3) (kD (.int 14)))))
def Fl:Ha->Out:=(Ab (Rb 1 (b1 (Pa 2 Pb) (Aa (Ra 0) (Aa (kD (.int 0)) Ja))))
  (Ab (Tj 2 (b1 Oc (Aa (kD (.int 0)) (Aa (kD (.int 1)) Ja))))
  (Ab (Nf (tR (b2 Kd (b2 Gf (Ba 1) (kD (.int 7))) (kD (.int 6)))) (Rb 2 (b2 Xc (Bd (b1 Oc (Aa (Bd (b1 Oc Ja)) (Aa (Bd (b1 Oc (Aa (kD (.int 1)) Ja))) (Aa (Bd (b1 Oc (Aa (kD (.int 0)) Ja))) (Aa (Bd (b1 Oc (Aa (kD (.int 0)) (Aa (kD (.int 2)) Ja)))) (Aa (Bd (b1 Oc (Aa (kD (.int 3)) Ja))) Ja))))))) (b2 Gf (b2 Bj (Ba 1) (kD (.int 7))) (kD (.int 5))))) Out.nx)
  (Ab (Tj 2 (OG Vt (Ba 2) (b1 (Pa 2 Yc) (Aa (b2 Gf (b1 (Pa 2 Pb) (Aa (Ra 0) (Aa (kD (.int 1)) Ja))) (kD (.int 5))) (Aa (b2 Gf (b2 Bj (b1 (Pa 2 Pb) (Aa (Ra 0) (Aa (kD (.int 1)) Ja))) (kD (.int 5))) (kD (.int 5))) Ja)))))
  (Ab (Nf (tR (b2 Kd (b2 Gf (b2 Bj (Ba 1) (kD (.int 35))) (kD (.int 4))) (kD (.int 3)))) (Gb (Ba 2)) Out.nx)
  (Ab (Aj (Cc 3) Kh (b1 Gi (Bd (b3 FD (Ba 0) (b1 Oh (kD (.int 2))) (b1 Oh (kD (.int 62)))))))
  (Gb (Ba 2))))))))
def Sd:List D->Res D:=Hf 4 Fl
def Ml:Ha->Res D:=(b1 Ys (Aa (Ra 0) (Aa (Bd (b1 Gi (Ba 1))) Ja)))
def JA:Ha->Out:=(Gb (Bd (Qc 2 (Gs 2 (Ji (Cc 0) (Ji (Cc 1) Fs))) (λ_=>.ok true) Ml (b1 Gi (Ra 0)))))
def Rj:List D->Res D:=Hf 1 JA
def Qi:List (ua×(Ha->Res D)):= [("rules",(Ra 1)),("doors",(Bd (b1 Gi (Ba 2)))),("wings",(b1 (Pa 1 Rj) (Aa (Ra 3) Ja))),("grants",(b1 (Pa 1 Rj) (Aa (Ra 4) Ja)))]
def Kc:Ha->Res D:=(b2 Xy (b1 Gc (Sq Le (Eg 1) (Ba 0))) (kD (.int 0)))
def Rr:Ha->Out:=(Ab (Nf (Fe (tR (b2 K2 (b1 Gc (Sq Le (Eg 0) (Ba 1))) (kD (.int 60)))) (tR (b1 Wx (Bd (Qc 1 (Cc 0) (λ_=>.ok true) Kc (b1 Gi (b1 (Hr VA [("door",(["wing","key"]:List ua)),("wing",(["key"]:List ua)),("key",([]:List ua))]) (Ba 1)))))))) (Gb (kD (.bl false))) Out.nx)
  (Gb (OI (b2 Kd (Ba 1) (kD (.str "door"))) (b2 Xy (b1 Gc (Sq Le (Eg 0) (kD (.str "door")))) (kD (.int 0))))))
def Mb:List D->Res D:=Hf 2 Rr
def KA:Ha->Out:=(Gb (b2 Xc (Ba 0) (kD (.int 1))))
def Ri:List D->Res D:=Hf 1 KA
def Gy:Ha->Out:=(Gb (b2 Xc (Ba 0) (kD (.int 2))))
def Mh:List D->Res D:=Hf 1 Gy
def LA:Ha->Out:=(Gb (b2 Xc (Ba 0) (kD (.int 0))))
def Si:List D->Res D:=Hf 1 LA
def FJ:Ha->Out:=(Gb (b2 Xc (Ba 0) (kD (.int 3))))
def Xk:List D->Res D:=Hf 1 FJ
def Xn:Ha->Out:=(Ab (Rb 1 (b1 (Pa 1 Ri) (Aa (Ra 0) Ja)))
  (Ab (Nf (Fe (Fc (tR (EJ Jx Jx (kD (.int 1)) (b1 (Pa 1 Si) (Aa (Ra 0) Ja)) (kD (.int 24))))) (Fc (tR (EJ Jx Jx (kD (.int 2)) (Ba 1) (kD (.int 20)))))) (Gb (kD (.bl false))) Out.nx)
  (Gb (Ek (EJ Jx Jx (kD (.int 1)) (b1 (Pa 1 Mh) (Aa (Ra 0) Ja)) (Ba 1)) (EJ Jx Jx (kD (.int 1)) (b1 (Pa 1 Xk) (Aa (Ra 0) Ja)) (b2 JD (Ba 1) (kD (.int 1))))))))
def Ae:List D->Res D:=Hf 2 Xn
def Ut:Ha->Out:=(Gb (Ek (b1 (We "int") (Ba 0)) (b1 DQ (b1 (We "bool") (Ba 0)))))
def Yh:List D->Res D:=Hf 1 Ut
def Ej:Ha->Res D:=(b1 (Pa 1 Yh) (Aa (Ra 0) Ja))
def Hl:Ha->Out:=(Ab (Nf (Fe (Fc (tR (b1 (We "tuple") (Ba 0)))) (tR (b2 Nu (b1 Gc (Ba 0)) (kD (.int 4))))) (Gb (kD (.bl false))) Out.nx)
  (Gb (Ek (b1 To (Bd (Qc 1 (Cc 0) (λ_=>.ok true) Ej (b1 Gi (Ra 0))))) (b1 (Pa 1 Ae) (Aa (Ra 0) Ja)))))
def Be:List D->Res D:=Hf 1 Hl
def Nl:Ha->Res D:=(b2 inR (Ba 0) (Ba 2))
def Uo:Ha->Out:=(Gb (b1 To (Bd (Qc 1 (Cc 0) (λ_=>.ok true) Nl (b1 HI (Ra 0))))))
def Dd:List D->Res D:=Hf 2 Uo
def Dj:Ha->Out:=(Ab (Nf (Fe (Fc (tR (EJ Jx Jx (kD (.int 1)) (b1 Gc (Ba 0)) (Ba 1)))) (Fc (tR (b1 (Pa 2 Dd) (Aa (Ra 0) (Aa (kD (.str "0123456789")) Ja)))))) (Gb (kD (.bl false))) Out.nx)
  (Gb (OI (b2 Kd (Ba 0) (kD (.str "0"))) (b2 Nu (b2 Xc (Ba 0) (kD (.int 0))) (kD (.str "0"))))))
def Ud:List D->Res D:=Hf 2 Dj
def Ih:Ha->Res D:=(b1 (Pa 2 Ud) (Aa (Ra 0) (Aa (kD (.int 3)) Ja)))
def Jh:Ha->Res D:=(b1 RO (Ba 0))
def Il:Ha->Out:=(Ab (Nf (Fc (tR (b1 (We "str") (Ba 0)))) (Gb (kD .non)) Out.nx)
  (Ab (Rb 2 (Bd (bM Ig (Ra 0) (Aa (Ra 1) Ja))))
  (Ab (Nf (Fc (tR (b1 To (Bd (Qc 1 (Cc 0) (λ_=>.ok true) Ih (b1 Gi (Ra 2))))))) (Gb (kD .non)) Out.nx)
  (Gb (b1 Dp (Bd (Qc 1 (Cc 0) (λ_=>.ok true) Jh (b1 Gi (Ra 2)))))))))
def Uc:List D->Res D:=Hf 3 Il
def Jl:Ha->Out:=(Ab (Nm (Rb 1 (b1 (Pa 2 Uc) (Aa (Ra 0) (Aa (kD (.str " ")) Ja)))))
  (Ab (Nf (Zi (Fc (tR (b1 (Pa 1 Be) (Aa (Ra 1) Ja))))) (Pz "NoRules" (Mg (Aa (kD (.str "rules are written as PLACES DEPTHS HEIGHTS STEP, parted by one blank each")) Ja))) Out.nx)
  (Nm (Gb (Ra 1)))))
def Vb:List D->Res D:=OC 2 Jl
def Kl:Ha->Out:=(Ab (Nf (Zi (Fc (tR (bM Sl (Ra 0) (Aa (kD (.str "rules ")) Ja))))) (Og "NoRow" [("row",true)] (Mg (Aa (kD (.int 0)) Ja))) Out.nx)
  (Dr ["NoRules"] (Jr (Aa (b3 NL (Ba 0) (b1 Oh (b1 Gc (kD (.str "rules ")))) Se) Ja) 1 Vb []) (λd _=>.rt d) Out.nx (YJ "NoRow" [("row",true)] (Aa (kD (.int 0)) Ja))))
def Wb:List D->Res D:=OC 1 Kl
def Cn:Ha->Out:=(Ab (Nf (Fe (Fc (tR (b1 (We "str") (Ba 0)))) (tR (b2 inR (Ba 0) (kD (.tup ((["door","key","opens","rules","wing"]:List ua).map D.str)))))) (Gb (kD (.bl false))) Out.nx)
  (Gb (Ek (EJ Jx Jx (kD (.int 1)) (b1 Gc (Ba 0)) (kD (.int 12))) (b1 (Pa 2 Dd) (Aa (Ra 0) (Aa (kD (.str "abcdefghijklmnopqrstuvwxyz")) Ja))))))
def Rc:List D->Res D:=Hf 1 Cn
def Zb:Ha->Res D:=(b1 (Pa 1 Rc) (Aa (Ra 0) Ja))
def Rg:Ha->Out:=(Gb (Ek (b1 To (Bd (Qc 1 (Cc 0) (λ_=>.ok true) Zb (b1 Gi (Ra 0))))) (b2 Kd (b1 Gu (Ba 0)) (b1 Gc (Ba 0)))))
def Ac:List D->Res D:=Hf 1 Rg
def Ll:Ha->Out:=(Ab (Nf (tR (b2 Kd (b2 Xc (Ba 0) (kD (.int 0))) (kD (.str "door")))) (Gb (UT (Vj (tR (b2 Kd (b1 Gc (Ba 0)) (kD (.int 2)))) (tR (b1 (Pa 1 Rc) (Aa (b2 Xc (Ba 0) (kD (.int 1))) Ja)))) (b2 Xc (Ba 0) (kD (.int 1))) (kD .non))) Out.nx)
  (Ab (Nf (Fe (tR (b1 (Pu (α:=ua) [("wing","="),("key","opens")]) (b2 Xc (Ba 0) (kD (.int 0))))) (Fe (tR (b2 NT (b1 Gc (Ba 0)) (kD (.int 4)))) (tR (b2 Nu (b2 Xc (Ba 0) (kD (.int 2))) (b1 (Hr D.str [("wing","="),("key","opens")]) (b2 Xc (Ba 0) (kD (.int 0)))))))) (Gb (kD .non)) Out.nx)
  (Ab (Nf (Fe (Fc (tR (b1 (Pa 1 Rc) (Aa (b2 Xc (Ba 0) (kD (.int 1))) Ja)))) (Fc (tR (b1 (Pa 1 Ac) (Aa (Bd (b3 FD (Ba 0) (b1 Oh (kD (.int 3))) Se)) Ja))))) (Gb (kD .non)) Out.nx)
  (Gb (b1 Ys (Aa (b2 Xc (Ba 0) (kD (.int 1))) (Aa (Bd (b3 FD (Ba 0) (b1 Oh (kD (.int 3))) Se)) Ja)))))))
def Ec:List D->Res D:=Hf 1 Ll
def Cb:Ha->Out:=(Ab (Nm (Rb 6 (Bd (bM Jf (Ra 5) (Aa (kD (.str " ")) Ja)))))
  (Ab (Nm (Rb 7 (b1 (Pa 1 Ec) (Aa (Ra 6) Ja))))
  (Ab (Nf (Zi (Fe (tR (b1 Qp (Ba 7))) (Fc (tR (Pq 3 (b1 (Pa 2 Mb) (Aa (Ra 3) (Aa (b2 Xc (Ba 6) (kD (.int 0))) Ja)))))))) (Og "NoRow" [("row",true)] (Mg (Aa (Ra 4) Ja))) Out.nx)
  (Nm (FI 3 (b2 Xc (Ba 6) (kD (.int 0))) (Ra 7))))))
def Gh:Ha->Out:=(Ab (Nf (Zi (Fc (tR (b1 (We "str") (Ba 0))))) (Og "NoRow" [("row",true)] (Mg (Aa (kD (.int 0)) Ja))) Out.nx)
  (Ab (Nm (Rb 1 (Bd (bM Jf (Ra 0) (Aa (kD (.str "\n")) Ja)))))
  (Ab (Rb 2 (b1 (Jg 1 Wb) (Mg (Aa (b2 Xc (Ba 1) (kD (.int 0))) Ja))))
  (Ab (Nm (UX 3 "door" "wing" "key"))
  (Ab (Aj (Gs 2 (Ji (Cc 4) (Ji (Cc 5) Fs))) Cb (Mg (b1 Wo (Aa (Bd (b3 FD (Ba 1) (b1 Oh (kD (.int 1))) Se)) Ja))))
  (Ab (JZ 3 (Nf (Zi (tR (b2 Kd (b1 Gc (Sq Le (Eg 3) (kD (.str "door")))) (kD (.int 0))))) (Og "NoRow" [("row",true)] (Mg (Aa (b1 Gc (Ba 1)) Ja))) Out.nx))
  (Nm (Gb (b1 (Pa 4 (Ju 4 "House" Qi)) (Aa (Ra 2) (Aa (Sq Le (Eg 3) (kD (.str "door"))) (Aa (Sq Le (Eg 3) (kD (.str "wing"))) (Aa (Sq Le (Eg 3) (kD (.str "key"))) Ja)))))))))))))
def Fb:List D->Res D:=OC 8 Gh
def Uk:Ha->Out:=(Rb 1 (Ra 2))
def Em:Ha->Out:=(Ab (Rb 1 (kD .non))
  (Ab (Dr ["NoRow"] (Jr (Aa (Ra 0) Ja) 1 Fb []) (λ_ δ=>.nx δ) Out.nx (KO 2 Uk))
  (Ab (Nf (Fe (Fc (tR (b1 (Wl [("NoRow",true),("NoRules",false)]) (Ba 1)))) (Fc (tR (b1 (Wl [("NoRow",true),("NoRules",true)]) (Ba 1))))) (Gb (kD .non)) Out.nx)
  (Ab (Nf (tR (b1 (Wl [("NoRow",false),("NoRules",true)]) (Ba 1))) (Gb (kD .non)) Out.nx)
  (Ab (Nf (tR (b1 (Wl [("NoRow",false),("NoRules",false)]) (Ba 1))) (Gb (kD .non)) Out.nx)
  (Ab (Nf (Fe (Fc (tR (b1 (We "int") (b1 (XN ["NoRow"] "row") (Ra 1))))) (tR (b1 (We "bool") (b1 (XN ["NoRow"] "row") (Ra 1))))) (Gb (kD .non)) Out.nx)
  (Gb (b1 (XN ["NoRow"] "row") (Ra 1)))))))))
def Zc:List D->Res D:=Hf 3 Em
def Ip:Ha->Out:=(Ab (Rb 2 (b2 Gf (b2 Mu (b2 Wc (b2 Gf (Ba 0) (kD (.int 2147483647))) (kD (.int 7))) (b2 Wc (kD (.int 48271)) (b2 Mu (kD (.int 2)) (Ba 1)))) (kD (.int 2147483629))))
  (Gb (b2 Gf (b2 Mu (Ba 2) (Ba 2)) (kD (.int 2147483587)))))
def Ue:List D->Res D:=Hf 3 Ip
def Mi:Ha->Out:=(Ab (Rb 2 (b2 Wc (Ba 2) (b2 Xc (kD (.str "abcdefghijklmnopqrstuvwxyz")) (b2 Gf (Ba 1) (kD (.int 26))))))
  (Rb 1 (b2 Bj (Ba 1) (kD (.int 26)))))
def Qr:Ha->Out:=(Ab (Rb 1 (b2 Gf (b2 Bj (Ba 0) (kD (.int 10))) (b2 ZQ (kD (.int 26)) (kD (.int 10)))))
  (Ab (Rb 2 (kD (.str "")))
  (Ab (Aj (Cc 3) Mi (b1 Xe (Aa (b2 Wc (kD (.int 1)) (b2 Gf (Ba 0) (kD (.int 10)))) Ja)))
  (Gb (Ra 2)))))
def Wg:List D->Res D:=Hf 4 Qr
def Dm:Ha->Out:=(Ab (Nf (tR (b2 inR (Ba 0) (Bd (b1 Oc (Aa (kD (.str "door")) (Aa (kD (.str "key")) (Aa (kD (.str "opens")) (Aa (kD (.str "rules")) (Aa (kD (.str "wing")) Ja))))))))) (Gb (b2 Wc (Ba 0) (kD (.str "x")))) Out.nx)
  (Gb (Ra 0)))
def Rf:List D->Res D:=Hf 1 Dm
def Lh:Ha->Out:=(Ab (Rb 7 (b2 Wc (b2 Xc (Ba 4) (b2 Gf (Ba 6) (kD (.int 9)))) (b2 Xc (Ba 4) (b2 Gf (b2 Bj (Ba 6) (kD (.int 9))) (kD (.int 9))))))
  (Ws 5 (b1 (Pa 1 Rf) (Aa (b2 Wc (b2 Wc (b3 NL (Ba 2) Se (b1 Oh (Ra 3))) (Ba 7)) (b3 NL (Ba 2) (b1 Oh (Ra 3)) Se)) Ja))))
def Jp:Ha->Out:=(Ab (Rb 2 (b1 (Pa 1 Wg) (Aa (Ra 0) Ja)))
  (Ab (Rb 3 (b2 Gf (b2 Bj (Ba 0) (kD (.int 7))) (b2 Wc (b1 Gc (Ba 2)) (kD (.int 1)))))
  (Ab (Rb 4 (b2 Xc (Bd (b1 Oc (Aa (kD (.str "bdfhkmpry")) (Aa (kD (.str "yrpmkhfdb")) (Aa (kD (.str "kbydrfmhp")) Ja))))) (b2 Gf (b2 Bj (Ba 0) (kD (.int 5))) (kD (.int 3)))))
  (Ab (Tj 5 (b1 Oc Ja))
  (Ab (Aj (Cc 6) Lh (b1 Xe (Aa (Ra 1) Ja)))
  (Gb (Ba 5)))))))
def Td:List D->Res D:=Hf 8 Jp
def Mj:Ha->Out:=(Ab (Rb 2 (b2 Xc (b1 (Pa 2 Td) (Aa (b1 (Pa 2 Ue) (Aa (Ra 1) (Aa (kD (.int 1)) Ja))) (Aa (kD (.int 1)) Ja))) (kD (.int 0))))
  (Ab (Nf (tR (b2 Kd (Ba 0) (kD (.int 0)))) (Gb (b2 Wc (kD (.str "rules ")) (b2 Xc (Bd (b1 Oc (Aa (kD (.str "3 4 2 3")) (Aa (kD (.str "24 20 20 19")) (Aa (kD (.str "1 2 1 1")) Ja))))) (b2 Gf (Ba 1) (kD (.int 3)))))) Out.nx)
  (Ab (Nf (tR (b2 Kd (Ba 0) (kD (.int 1)))) (Gb (b2 Wc (kD (.str "door ")) (Ba 2))) Out.nx)
  (Gb (b2 Wc (b2 Xc (Bd (b1 Oc (Aa (b2 Wc (b2 Wc (kD (.str "wing ")) (Ba 2)) (kD (.str " = "))) (Aa (b2 Wc (b2 Wc (kD (.str "key ")) (Ba 2)) (kD (.str " opens "))) Ja)))) (b2 JD (Ba 0) (kD (.int 2)))) (b2 Xc (Bd (b1 Oc (Aa (kD (.str "a b")) (Aa (kD (.str "a")) (Aa (kD (.str "b c d")) Ja))))) (b2 Gf (Ba 1) (kD (.int 3)))))))))
def Ve:List D->Res D:=Hf 3 Mj
def Vl:Ha->Res D:=(b1 RL (Ba 0))
def Zn:Ha->Out:=(Gb (bM Qj (kD (.str " ")) (Aa (Bd (Qc 1 (Cc 0) (λ_=>.ok true) Vl (b1 Gi (Ra 0)))) Ja)))
def Ze:List D->Res D:=Hf 1 Zn
def Ao:Ha->Out:=(Gb (bM Qj (kD (.str " ")) (Aa (Bd (OG Vt (Bd (b1 Oc (Aa (Ra 0) (Aa (b2 Xc (Ba 1) (kD (.int 0))) (Aa (b1 (Hr D.str [("wing","="),("key","opens")]) (Ba 0)) Ja))))) (b2 Xc (Ba 1) (kD (.int 1))))) Ja)))
def Vc:List D->Res D:=Hf 2 Ao
def Vi:Ha->Res D:=(b2 Wc (kD (.str "door ")) (Ba 0))
def Wi:Ha->Res D:=(b1 (Pa 2 Vc) (Aa (kD (.str "wing")) (Aa (Ra 0) Ja)))
def Xi:Ha->Res D:=(b1 (Pa 2 Vc) (Aa (kD (.str "key")) (Aa (Ra 0) Ja)))
def Yn:Ha->Out:=(Ab (Tj 1 (b1 Oc (Aa (b2 Wc (kD (.str "rules ")) (b1 (Pa 1 Ze) (Aa (b1 (Tn "House" "rules") (Ra 0)) Ja))) Ja)))
  (Ab (JL 1 (Qc 1 (Cc 0) (λ_=>.ok true) Vi (b1 Gi (b1 (Tn "House" "doors") (Ra 0)))))
  (Ab (JL 1 (Qc 1 (Cc 0) (λ_=>.ok true) Wi (b1 Gi (b1 (Tn "House" "wings") (Ra 0)))))
  (Ab (JL 1 (Qc 1 (Cc 0) (λ_=>.ok true) Xi (b1 Gi (b1 (Tn "House" "grants") (Ra 0)))))
  (Dv 1 (Gb (bM Qj (kD (.str "\n")) (Aa (Ra 1) Ja))))))))
def Ce:List D->Res D:=Hf 2 Yn
def Jt:Ha->Out:=(Ws 2 (b1 (Pa 2 Ve) (Aa (b2 Xc (Ba 1) (Ba 3)) (Aa (b2 Wc (b1 (Pa 2 Pb) (Aa (Ra 0) (Aa (b2 Wc (kD (.int 2)) (b2 Gf (Ba 3) (kD (.int 31)))) Ja))) (b2 Mu (kD (.int 5)) (Ba 3))) Ja))))
def ZY:Ha->Out:=(Ab (Rb 1 (b1 (Pa 1 Sd) (Aa (Ra 0) Ja)))
  (Ab (Tj 2 (b1 Oc Ja))
  (Ab (Aj (Cc 3) Jt (b1 Xe (Aa (b1 Gc (Ba 1)) Ja)))
  (Ab (Dv 2 (Rb 4 (bM Qj (kD (.str "\n")) (Aa (Ra 2) Ja))))
  (Ab (Rb 5 (b1 (Pa 1 Jc) (Aa (Ra 1) Ja)))
  (Ab (Nf (tR (b1 Zr (Ba 5))) (Gb (b2 Kd (b1 (Pa 1 Zc) (Aa (Ra 4) Ja)) (Ba 5))) Out.nx)
  (Ab (Rb 6 (b1 (Pa 1 Fb) (Aa (Ra 4) Ja)))
  (Ab (Nf (tR (b2 Nu (Bd (b1 Oc (Aa (b1 Gc (b1 (Tn "House" "doors") (Ra 6))) (Aa (b1 Gc (b1 (Tn "House" "wings") (Ra 6))) (Aa (b1 Gc (b1 (Tn "House" "grants") (Ra 6))) Ja))))) (Bd (b1 Oc (Aa (bL Ls (Ba 1) (Aa (kD (.int 1)) Ja)) (Aa (bL Ls (Ba 1) (Aa (kD (.int 2)) Ja)) (Aa (bL Ls (Ba 1) (Aa (kD (.int 3)) Ja)) Ja))))))) (Gb (kD (.bl false))) Out.nx)
  (Ab (Rb 7 (b1 (Pa 1 Ce) (Aa (Ra 6) Ja)))
  (Gb (Ek (b1 (We "str") (Ba 7)) (b2 Kd (Ba 7) (Ba 4)))))))))))))
def KP:List D->Res D:=Hf 8 ZY
local macro_rules| `(tactic| walk_at "ev")=> `(tactic| simp only[Nb,Hb,db,tf,ba,lc,jd,Re,ae,uf,qb,
 kD,b1,b2,b3,EJ,tR,Vj,Fe,Fc,Ek,OI,UT,Ja,Aa,Se,Bd,Qc,Ab,Rb,Tj,Nf,Aj,Fv,OG,Ws,Gb,VC,QC,MR,Cs,TC,RC,UC,V7,Sq,
 Ya,Ob,Oa,Sh,Bb,Res.bind_ok,Res.bind_ex,Res.bind_stuck,Wa,Tu,Yk,Ma,Je,Uj,Hd,Cj,Qd,Li,Ap,Ua,Zp,
 Yi,Zo,Au,Mm,Lm,Hm,Yq,Kf,Kj,Kq,Ou,Kn,Nk,Fj,Wp,Yp,Qt,Ar,Zd,Er,Dk,Vm,Um,Mf,Ka,Rl,ED,GD,Tb,Pp,Fm,Oj,
 ac,bc,Oc,Ys,if_true,if_false,reduceIte,jf,vh,Sc,si,pf,ou,wq,true_and,and_true,and_self])
local macro_rules| `(tactic| walk_at "ev*")=> `(tactic| simp only[Nb,Hb,db,tf,ba,lc,jd,Re,ae,uf,qb,
 kD,b1,b2,b3,EJ,tR,Vj,Fe,Fc,Ek,OI,UT,Ja,Aa,Se,Bd,Qc,Ab,Rb,Tj,Nf,Aj,Fv,OG,Ws,Gb,VC,QC,MR,Cs,TC,RC,UC,V7,Sq,
 Ya,Ob,Oa,Sh,Bb,Res.bind_ok,Res.bind_ex,Res.bind_stuck,Wa,Tu,Yk,Ma,Je,Uj,Hd,Cj,Qd,Li,Ap,Ua,Zp,
 Yi,Zo,Au,Mm,Lm,Hm,Yq,Kf,Kj,Kq,Ou,Kn,Nk,Fj,Wp,Yp,Qt,Ar,Zd,Er,Dk,Vm,Um,Mf,Ka,Rl,ED,GD,Tb,Pp,Fm,Oj,
 ac,bc,Oc,Ys,if_true,if_false,reduceIte,jf,vh,Sc,si,pf,ou,wq,true_and,and_true,and_self, *])
local macro_rules| `(tactic| walk_at "evs")=> `(tactic| simp[Nb,Hb,db,tf,ba,lc,jd,Re,ae,uf,qb,
 kD,b1,b2,b3,EJ,tR,Vj,Fe,Fc,Ek,OI,UT,Ja,Aa,Se,Bd,Qc,Ab,Rb,Tj,Nf,Aj,Fv,OG,Ws,Gb,VC,QC,MR,Cs,TC,RC,UC,V7,Sq,
 Ya,Ob,Oa,Sh,Bb,Res.bind_ok,Res.bind_ex,Res.bind_stuck,Wa,Tu,Yk,Ma,Je,Uj,Hd,Cj,Qd,Li,Ap,Ua,Zp,
 Yi,Zo,Au,Mm,Lm,Hm,Yq,Kf,Kj,Kq,Ou,Kn,Nk,Fj,Wp,Yp,Qt,Ar,Zd,Er,Dk,Vm,Um,Mf,Ka,Rl,ED,GD,Tb,Pp,Fm,Oj,
 ac,bc,Oc,Ys,if_true,if_false,reduceIte,jf,vh,Sc,si,pf,ou,wq,true_and,and_true,and_self, *])
def jn(c:Nat):List (List Nat)->List Nat
 | []=> []
 | [x]=>x
 |x::y::r=>x++c::jn c (y::r)
theorem Pl(c:Nat)(x:List Nat){r:List (List Nat)}(h:r≠ []):jn c (x::r)=x++c::jn c r:=by
 cases r with
 |nil=>exact absurd rfl h
 |cons y r=>rfl
theorem UA{c:Nat}:∀ {x y a b:List Nat},c∉x->c∉y->x++c::a=y++c::b->x=y/\a=b
 | [],[],_,_,_,_,e=>by
  simp only[Re,sk,true_and]at e;exact⟨rfl,e⟩
 | [],z::y,_,_,_,hy,e=>by
  simp only[Re,jd,sk]at e;exact absurd (by rw[e.1];exact kc) hy
 |z::x,[],_,_,hx,_,e=>by
  simp only[Re,jd,sk]at e;exact absurd (by rw[e.1];exact kc) hx
 |z::x,w::y,a,b,hx,hy,e=>by
  simp only[jd,sk]at e;obtain⟨h1,h2⟩:=UA (λh=>hx (ib _ h)) (λh=>hy (ib _ h)) e.2;exact⟨by rw[e.1,h1],h2⟩
theorem QH{c:Nat}:∀ {xs ys:List (List Nat)},xs≠ []->ys≠ []->(∀ x∈xs,c∉x)->(∀ y∈ys,c∉y)->jn c xs=jn c ys->xs=ys
 | [],_,h,_,_,_,_=>absurd rfl h
 |_::_,[],_,h,_,_,_=>absurd rfl h
 | [x],[y],_,_,_,_,e=>by rw[show x=y from e]
 | [x],y::z::r,_,_,hx,_,e=>by
  have e':x=y++c::jn c (z::r):=e;exact absurd (by rw[e'];simp) (hx x kc)
 |x::w::r,[y],_,_,_,hy,e=>by
  have e':x++c::jn c (w::r)=y:=e;exact absurd (by rw[<-e'];simp) (hy y kc)
 |x::w::r,y::z::t,_,_,hx,hy,e=>by
  have e':x++c::jn c (w::r)=y++c::jn c (z::t):=e;obtain⟨h1,h2⟩:=UA (hx x kc) (hy y kc) e';rw[h1,QH (by simp) (by simp) (λa ha=>hx a (ib _ ha)) (λa ha=>hy a (ib _ ha)) h2]
theorem Lg(c:Nat):∀ xs:List ua,(vj ⟨#[c]⟩ xs).cps.toList=jn c (xs.map λx=>x.cps.toList)
 | []=>rfl
 | [x]=>rfl
 |x::y::r=>by
  show((x++(⟨#[c]⟩:ua))++vj ⟨#[c]⟩ (y::r)).cps.toList=x.cps.toList++c::jn c ((y::r).map λx=>x.cps.toList);rw[<-Lg c (y::r),vf,vf];simp
theorem Hi(c:Nat)(xs:List ua)(hn:xs≠ [])(hf:∀ x∈xs,c∉x.cps.toList):yb (zb ⟨#[c]⟩ xs) ⟨#[c]⟩=xs:=by
 have ej:zb ⟨#[c]⟩ xs=vj ⟨#[c]⟩ xs:=bg _ _;rw[ej];have h1:=StrLaws.join_split (vj ⟨#[c]⟩ xs) ⟨#[c]⟩;have h2:=StrLaws.split_free (vj ⟨#[c]⟩ xs) c;have h3:=split_pos (vj ⟨#[c]⟩ xs) ⟨#[c]⟩;generalize yb (vj ⟨#[c]⟩ xs) ⟨#[c]⟩=ys at h1 h2 h3 ⊢;have h4:=congrArg (λx:ua=>x.cps.toList) h1;simp only[Lg]at h4
 have h5:=QH (c:=c) (by intro z;rw[pq.mp z]at h3;simp at h3) (by intro z;exact hn (pq.mp z)) (λx hx=>by
  obtain⟨y,hy,rfl⟩:=lj.mp hx
  exact h2 y hy) (λx hx=>by
  obtain⟨y,hy,rfl⟩:=lj.mp hx
  exact hf y hy) h4
 have inj:∀ {as bs:List ua},as.map (λx:ua=>x.cps.toList)=bs.map (λx:ua=>x.cps.toList)->as=bs:=by
  intro as
  induction as with
  |nil=>intro bs e;cases bs with|nil=>rfl|cons b bs=>cases e
  |cons a as ih=>
   intro bs e;cases bs with
   |nil=>cases e
   |cons b bs=>
    simp only[db,sk]at e;rw[ih e.2];congr 1;exact Str.ext' (Array.toList_inj.mp e.1)
 exact inj h5
theorem Jj(z:ua)(c:Nat)(hz:z.length<=900):Ig z [.str ⟨#[c]⟩]=.ok ((yb z ⟨#[c]⟩).map D.str):=by
 unfold Ig;refine if_pos ⟨rfl,by omega,?_⟩;rw[len_partsBetween];have:=StrLaws.occ_length_le z ⟨#[c]⟩ 0 z.length (z.length+1);omega
theorem Ii:∀ xs:List ua,Ul (xs.map D.str)=some xs
 | []=>rfl
 |x::xs=>by show(Ul (xs.map D.str)).map (x:: ·)=_;rw[Ii xs];rfl
theorem Up(c:Nat)(xs:List ua):(zb ⟨#[c]⟩ xs).length<=(xs.map (·.length)).sum+xs.length:=by
 rw[show zb ⟨#[c]⟩ xs=vj ⟨#[c]⟩ xs from bg _ _];have:=StrLaws.join_length_le ⟨#[c]⟩ xs;have e:(⟨#[c]⟩:ua).length=1:=rfl;rw[e]at this
 omega
abbrev J7:ua:="0123456789"
def EB:D->Bool
 | .str c=>TF c J7
 |_=>false
theorem Fu(x:ua)(h:x.length<=1000):Gc (.str x)=.ok (.int x.length):=if_pos (bf h Km)
variable{x:ua}
theorem Ux{d:D}(h:d∈Sf x):∃ c,d=.str c:=by
 unfold Sf at h;obtain⟨c,_,rfl⟩:=lj.mp h;exact⟨_,rfl⟩
theorem LV(x:ua)(h:x.length<=1000):Pa 2 Dd [.str x,.str J7]=.ok (.bl ((Sf x).all EB)):=by
 have e0:HI (.str x)=.ok (Sf x):=rfl
 have e1:Lf 1 (Cc 0) (λ_=>.ok true) Nl [some (.d (.str x)),some (.d (.str J7))] (Sf x)=.ok ((Sf x).map λd=>D.bl (EB d)):=by
  refine Nd ?_ (by unfold Sf;rw[Db,qg];exact bf h (by decide));refine Ke (λd=>D.bl (EB d)) _ _ none λd hd=>?_;obtain⟨c,rfl⟩:=Ux hd;rfl
 have e2:=Rt EB (Sf x);refine Za _ _ _ _ ?_ rfl;unfold Dd Uo
 walk_at "ev*"
def Hs(x:ua):Bool:=decide (1<=x.length/\x.length<=3)&&((Sf x).all EB&&(x=="0"|| !(x.cps.toList.head? ==some 48)))
theorem BJ{n:Nat}(h:n<=1000):n<=sizeLine:=bf h Km
theorem Qg(x y:ua)(h:x.length+y.length<=100000):Wc (.str x) (.str y)=.ok (.str (x++y)):=if_pos (by rw[qe];omega)
theorem Sb(x y:ua):(x++y).length=x.length+y.length:=Array.size_append ..
theorem Ss(i j:Int)(h:0<j):Gf (.int i) (.int j)=.ok (.int (i%j)):=by rw[Kn,if_pos h]
theorem WA(i j:Int)(h:0<j)(h2:j<1073741824):Bj (.int i) (.int j)=.ok (.int (i / j)):=by rw[Nk,if_pos ⟨h,h2⟩]
def WV:List Nat:= [97,98,99,100,101,102,103,104,105,106,107,108,109,110,111,112,113,114,115,116,117,118,119,120,121,122]
def Tq(x:ua):Prop:=∀ c∈x.cps.toList,c∈WV
variable{y:ua}
theorem Gp(hx:Tq x)(hy:Tq y):Tq (x++y):=λc hc=>by
 simp only[vf,dh,wj]at hc;exact hc.elim (hx c) (hy c)
theorem VH{c:Nat}(hx:Tq x)(h:c∈x.cps.toList):Tq ⟨#[c]⟩:=λd hd=>by
 have:d=c:=by simpa using hd
 rw[this];exact hx c h
theorem YR(hx:Tq x)(l u:Option Int):Tq (we x l u):=by
 unfold we;split
 .exact hx
 .intro c hc;obtain⟨i,_,e⟩:=uk.mp (show c∈List.filterMap _ _ from hc);exact hx c (by rw[vp];exact Array.mem_of_getElem? e)
theorem ixS(z:ua)(i:Int)(hz:z.length<=1000)(h0:0<=i)(h1:i<z.length):∃ c,Xc (.str z) (.int i)=.ok (.str ⟨#[c]⟩)/\c∈z.cps.toList:=by
 have hl:z.cps.toList.length=z.length:=qg ..;obtain⟨c,e,hm⟩:=OD (xs:=z.cps.toList) h0 (by rw[hl];exact h1);refine⟨c,?_,hm⟩;show(@ite (Res D) (z.length<=sizeLine) (uc _) _ _)=_;rw[if_pos (BJ hz),e]
theorem XR(w:ua)(l u:Option Int):(we w l u).length<=(af l u 1 w.length).length:=by
 unfold we;split
 .rename_i h;have h':(af l u 1 w.length).length=w.length:=by simpa using h
  omega
 .show(List.filterMap _ (af l u 1 w.length)).toArray.size<=_;rw[qc];exact List.length_filterMap_le _ _
theorem Q2(n:Nat)(p:Int)(h0:0<=p)(h1:p<=n):(af none (some p) 1 n).length<=p.toNat:=by
 unfold af PySem.sliceRange;simp only[show(1:Int)>0 by decide,if_true,Db,vo]
 (split<;>(try split)<;>(try split)<;>(try simp only[Int.ediv_one])<;>omega)
theorem OO(n:Nat)(p:Int)(h0:0<=p)(h1:p<=n):(af (some p) none 1 n).length<=n-p.toNat:=by
 unfold af PySem.sliceRange;simp only[show(1:Int)>0 by decide,if_true,Db,vo]
 (split<;>(try split)<;>(try split)<;>(try simp only[Int.ediv_one])<;>omega)
theorem D6(w:ua)(p:Int)(h0:0<=p)(h1:p<=(w.length:Int)):(we w none (some p)).length+(we w (some p) none).length<=w.length:=by
 have a:=XR w none (some p);have b:=XR w (some p) none;have c:=Q2 w.length p h0 h1;have d:=OO w.length p h0 h1;omega
theorem Uz(z:ua)(lo hi:Option Int)(h:z.length<=1000):NL (.str z) lo hi=.ok (.str (we z lo hi)):=if_pos (BJ h)
theorem YT:Tq "abcdefghijklmnopqrstuvwxyz":=by unfold Tq;decide +kernel
theorem Ly(ns:List Int)(k:Int)(h0:0<=k):∃ v,Pa 2 Pb [.lst (ns.map D.int),.int k]=.ok (.int v):=by
 by_cases h:k<(ns.length:Int)
 .obtain⟨d,e,hd⟩:=OD (xs:=ns.map D.int) (i:=k) h0 (by rw[Db];exact h);obtain⟨v,_,rfl⟩:=lj.mp hd;have e':=RB _ _ _ e;have dt:decide (k<((ns.map D.int).length:Int))=true:=decide_eq_true (by rw[Db];exact h);refine⟨v,Za _ _ _ _ ?_ rfl⟩;generalize ns.map D.int=ds at*;unfold Pb Lj
  walk_at "ev*"
 .have dt:decide (k<((ns.map D.int).length:Int))=false:=decide_eq_false (by rw[Db];exact h);refine⟨0,Za _ _ _ _ ?_ rfl⟩;generalize ns.map D.int=ds at*;unfold Pb Lj
  walk_at "ev*"
theorem NP(c k:Int)(h0:0<=k)(h1:k<=1000):∃ v,Pa 2 Ue [.int c,.int k]=.ok (.int v):=by
 have m1:=Ss c 2147483647 (by decide);have b0:=mm c (show(2147483647:Int)≠0 by decide);have b1':=fj c (show(0:Int)<2147483647 by decide);have k2:Mu (.int 2) (.int k)=.ok (.int (2*k)):=by rw[Fj];exact if_pos (.inl (by omega))
 generalize c%2147483647=r at*;have x1:Mu (.int (r+7)) (.int (48271+2*k))=.ok (.int ((r+7)*(48271+2*k))):=by rw[Fj];exact if_pos (.inl (by omega))
 have m2:=Ss ((r+7)*(48271+2*k)) 2147483629 (by decide);have b2':=mm ((r+7)*(48271+2*k)) (show(2147483629:Int)≠0 by decide);have b3:=fj ((r+7)*(48271+2*k)) (show(0:Int)<2147483629 by decide);generalize (r+7)*(48271+2*k)%2147483629=q at*;have x2:Mu (.int q) (.int q)=.ok (.int (q*q)):=by rw[Fj];exact if_pos (.inl (by omega))
 have m3:=Ss (q*q) 2147483587 (by decide);refine⟨q*q%2147483587,Za _ _ _ _ ?_ rfl⟩;clear b0 b1' b2' b3 h0 h1;unfold Ue Ip;simp only[Nb,Hb,db,tf,ba,lc,jd,Re,ae,uf,qb,kD,b2,Ab,Rb,Gb,Ya,Ob,Oa,Bb,Res.bind_ok,Wa,Ma,Kf,m1,k2,x1,m2,x2,m3,ac,bc,Tb]
theorem RK(c r:Int)(w:ua)(x:D)(hw:w.length<=900)(hc:Tq w):∃ (r2:Int) (w2:ua),Mi [some (.d (.int c)),some (.d (.int r)),some (.d (.str w)),some (.d x)]=.nx [some (.d (.int c)),some (.d (.int r2)),some (.d (.str w2)),some (.d x)]/\w2.length=w.length+1/\Tq w2:=by
 have m1:=Ss r 26 (by decide);have d1:=WA r 26 (by decide) (by decide);have b0:=mm r (show(26:Int)≠0 by decide);have b1':=fj r (show(0:Int)<26 by decide);obtain⟨ch,e1,hm⟩:=ixS "abcdefghijklmnopqrstuvwxyz" (r%26) (by decide) b0 b1';have e2:=Qg w ⟨#[ch]⟩ (by rw[show(⟨#[ch]⟩:ua).length=1 from rfl];omega);refine⟨r / 26,w++⟨#[ch]⟩,?_,by rw[Sb];rfl,Gp hc (VH YT hm)⟩;clear b0 b1' hw hc hm;generalize r%26=q at*;unfold Mi
 walk_at "ev*"
theorem CW(c:Int):∃ w:ua,Pa 1 Wg [.int c]=.ok (.str w)/\w.length<=10/\Tq w:=by
 have ep:ZQ (.int 26) (.int 10)=.ok (.int (26^10)):=if_pos ⟨by decide,by decide,by decide⟩;have d1:=WA c 10 (by decide) (by decide);have m1:=Ss (c / 10) (26^10) (by decide);have m2:=Ss c 10 (by decide);have b0:=mm c (show(10:Int)≠0 by decide);have b1':=fj c (show(0:Int)<10 by decide);generalize c%10=q at*;have rg:=HR (1+q) (by omega) (by omega);have hq:(1+q).toNat<=10:=by omega
 generalize (1+q).toNat=n at*;generalize c / 10%26^10=r at*
 obtain⟨δ2,f,r2,w,y,rfl,hl,hok⟩:=Bt (t:=Cc 3) (body:=Mi) (λi δ=>∃ (r:Int) (w:ua) (y:Option S),δ= [some (.d (.int c)),some (.d (.int r)),some (.d (.str w)),y]/\w.length=i/\Tq w) (Zj 0 n) [some (.d (.int c)),some (.d (.int r)),some (.d (.str "")),none] (λi d δ hd hI=>by
   obtain⟨r,w,y,rfl,hw,hk⟩:=hI;obtain⟨hi,rfl⟩:=MC hd;obtain⟨r2,w2,e,h2,k2⟩:=RK c r w (.int (0+i)) (by omega) hk
   exact⟨_,rfl,_,.inl e,r2,w2,_,rfl,by omega,k2⟩) ⟨r,"",none,rfl,rfl,λc hc=>absurd hc (by show ¬ c∈([]:List Nat);simp)⟩
 rw[NC]at hl
 refine⟨w,Za _ _ _ _ ?_ rfl,by omega,hok⟩;clear b0 b1';unfold Wg Qr;simp only[Nb,Hb,db,tf,ba,lc,jd,Re,ae,uf,qb,kD,b1,b2,Aa,Ja,Ka,Ab,Rb,Aj,Gb,Ya,Ob,Oa,Bb,Res.bind_ok,Wa,Ma,Kf,d1,ep,m1,m2,rg,f,ac,bc,Tb]
def sL(ks:List Nat)(f:Nat->ua):D:=.lst (ks.map λk=>D.str (f k))
def JG:List D:= [.str "door",.str "key",.str "opens",.str "rules",.str "wing"]
def EF(w:ua):ua:=if inB (.str w) JG=true then w++"x" else w
theorem Jz(w:ua):(EF w).length=w.length+(if inB (.str w) JG=true then 1 else 0):=by
 unfold EF;split
 .rw[Sb];rfl
 .rfl
theorem UW(w:ua)(h:w.length<=900):Pa 1 Rf [.str w]=.ok (.str (EF w)):=by
 have e1:inR (.str w) (.lst [.str "door",.str "key",.str "opens",.str "rules",.str "wing"])=.ok (.bl (inB (.str w) JG)):=by unfold L3.inR;dsimp only;exact if_pos (by simp[Qf])
 have e2:=Qg w "x" (by rw[show("x":ua).length=1 from rfl];omega);unfold EF;generalize inB (.str w) JG=b at*;cases b with
 |true=>
  rw[if_pos rfl];refine Za _ _ _ _ ?_ rfl;clear h;unfold Rf Dm
  walk_at "ev*"
 |false=>
  rw[if_neg xa];refine Za _ _ _ _ ?_ rfl;clear h;unfold Rf Dm
  walk_at "ev*"
def Gj(z:ua)(i:Nat):Nat:=z.cps.toList.getD i 0
theorem ixZ(z:ua)(i:Nat)(hz:z.length=9)(h1:i<9):Xc (.str z) (.int (i:Int))=.ok (.str ⟨#[Gj z i]⟩):=by
 have hl:z.cps.toList.length=9:=(qg ..).trans hz
 have e:Ey z.cps.toList (i:Int)=some (Gj z i):=by
  refine Bn (by omega) ?_;rw[show((i:Int)).toNat=i by omega];unfold Gj;rw[qh,qd (by omega)];rfl
 show(@ite (Res D) (z.length<=sizeLine) (uc _) _ _)=_;rw[if_pos (BJ (by omega)),e]
theorem Jq(h:x.cps.toList=y.cps.toList):x=y:=by
 cases x;cases y;congr 1;exact Array.toList_inj.mp h
theorem ET(z:ua)(h:∀ i,i<9->∀ j,j<9->Gj z i=Gj z j->i=j):∀ i j,i<9->j<9->Gj z i=Gj z j->i=j:=λi j a b=>h i a j b
def zOk(z:ua):Prop:=z.length=9/\∀ i j,i<9->j<9->Gj z i=Gj z j->i=j
def fN(l r z:ua)(k:Nat):ua:=EF (l++(⟨#[Gj z (k%9)]⟩++⟨#[Gj z (k / 9%9)]⟩)++r)
theorem WE(a b:D)(w z l r:ua)(p:Int)(i:Nat)(f:Nat->ua)(ef:f=fN l r z)(x:Option S)(hz:zOk z)(l1:l.length<=10)(l2:r.length<=10)(s1:NL (.str w) none (some p)=.ok (.str l))(s2:NL (.str w) (some p) none=.ok (.str r))(hl:i<=100):
  ∃ y:Option S,Lh [some (.d a),some (.d b),some (.d (.str w)),some (.d (.int p)),some (.d (.str z)),some (.o ((wo i).map λk=>D.str (f k))),some (.d (.int (i:Int))),x]=.nx [some (.d a),some (.d b),some (.d (.str w)),some (.d (.int p)),some (.d (.str z)),some (.o ((wo (i+1)).map λk=>D.str (f k))),some (.d (.int (i:Int))),y]:=by
 have m1:=Ss (i:Int) 9 (by decide);have d1:=WA (i:Int) 9 (by decide) (by decide);have m2:=Ss ((i:Int) / 9) 9 (by decide);have e1:=ixZ z (i%9) hz.1 (by omega);have e2:=ixZ z (i / 9%9) hz.1 (by omega);rw[show((i%9:Nat):Int)=(i:Int)%9 by omega]at e1
 rw[show((i / 9%9:Nat):Int)=(i:Int) / 9%9 by omega]at e2
 have e3:=Qg ⟨#[Gj z (i%9)]⟩ ⟨#[Gj z (i / 9%9)]⟩ (by show 1+1<=100000;decide);have hi2:((⟨#[Gj z (i%9)]⟩:ua)++⟨#[Gj z (i / 9%9)]⟩).length=2:=by rw[Sb];rfl
 have ei:f i=EF (l++(⟨#[Gj z (i%9)]⟩++⟨#[Gj z (i / 9%9)]⟩)++r):=by rw[ef];rfl
 generalize (⟨#[Gj z (i%9)]⟩:ua)++⟨#[Gj z (i / 9%9)]⟩=inn at*;have e4:=Qg l inn (by omega);have e5:=Qg (l++inn) r (by rw[Sb];omega);have e6:=UW (l++inn++r) (by rw[Sb,Sb];omega);rw[<-ei]at e6
 have e7:=Dy 5 [some (.d a),some (.d b),some (.d (.str w)),some (.d (.int p)),some (.d (.str z)),some (.o ((wo i).map λk=>D.str (f k))),some (.d (.int i)),some (.d (.str inn))] ((wo i).map λk=>D.str (f k)) (.str (f i)) rfl (by rw[Db,vo];omega);refine⟨some (.d (.str inn)),?_⟩;rw[List.range_succ,uh,List.map_singleton];clear l1 l2 hi2 hz hl ei ef;generalize (wo i).map (λk=>D.str (f k))=ds at*;generalize (i:Int)%9=q1 at*;generalize (i:Int) / 9%9=q2 at*;generalize l++inn++r=t at*;unfold Lh;simp only[kD,b1,b2,b3,Aa,Ja,Se,Ka,Ab,Rb,Ws,Ya,Ob,Oa,Bb,Res.bind_ok,Wa,Ma,m1,d1,m2,e1,e2,e3,s1,s2,e4,e5,e6,e7,Mf,ac,bc]
variable{z:ua}
theorem RG(hz:Tq z)(h9:z.length=9)(i:Nat)(h:i<9):Tq ⟨#[Gj z i]⟩:=VH hz (by
 have hl:z.cps.toList.length=9:=(qg ..).trans h9;unfold Gj;rw[qh,qd (by omega)]
 exact List.getElem_mem ..)
theorem VW{w:ua}(h:Tq w):Tq (EF w):=by
 unfold EF;split
 .exact Gp h (by unfold Tq;decide +kernel)
 .exact h
def Gd(x:ua):Prop:=(1<=x.length/\x.length<=12)/\Tq x/\inB (.str x) JG=false
theorem QO{t:ua}(h:inB (.str t) JG=true):t="door"\/t="key"\/t="opens"\/t="rules"\/t="wing":=by
 have h':("door":ua)=t\/("key":ua)=t\/("opens":ua)=t\/("rules":ua)=t\/("wing":ua)=t:=by simpa [inB,JG,Pj] using h
 rcases h' with h|h|h|h|h<;>simp[<-h]
theorem WW(t:ua):inB (.str (EF t)) JG=false:=by
 unfold EF;by_cases h:inB (.str t) JG=true
 .rw[if_pos h];rcases QO h with rfl|rfl|rfl|rfl|rfl<;>decide +kernel
 .rw[if_neg h];simpa using h
theorem O4(t:ua)(h:t.length<=12):(EF t).length<=12:=by
 unfold EF;by_cases h:inB (.str t) JG=true
 .rw[if_pos h];rcases QO h with rfl|rfl|rfl|rfl|rfl<;>decide +kernel
 .rw[if_neg h];assumption
variable{r l:ua}
theorem K8(hl:l.length+r.length<=10)(kl:Tq l)(kr:Tq r)(hz:Tq z)(h9:z.length=9)(k:Nat):Gd (fN l r z k):=by
 unfold fN;have e1:(⟨#[Gj z (k%9)]⟩:ua).length=1:=rfl;have e2:(⟨#[Gj z (k / 9%9)]⟩:ua).length=1:=rfl;refine⟨⟨?_,O4 _ (by rw[Sb,Sb,Sb];omega)⟩,VW (Gp (Gp kl (Gp (RG hz h9 _ (mod_lt _ (by decide))) (RG hz h9 _ (mod_lt _ (by decide))))) kr),WW _⟩;rw[Jz,Sb,Sb,Sb];omega
theorem T1(hz:zOk z){j k:Nat}(hj:j<81)(hk:k<81)(h:fN l r z j=fN l r z k):j=k:=by
 have l1:=Jz (l++(⟨#[Gj z (j%9)]⟩++⟨#[Gj z (j / 9%9)]⟩)++r);have l2:=Jz (l++(⟨#[Gj z (k%9)]⟩++⟨#[Gj z (k / 9%9)]⟩)++r);have h':EF (l++(⟨#[Gj z (j%9)]⟩++⟨#[Gj z (j / 9%9)]⟩)++r)=EF (l++(⟨#[Gj z (k%9)]⟩++⟨#[Gj z (k / 9%9)]⟩)++r):=h;rw[h',l2]at l1
 have q1:(l++(⟨#[Gj z (j%9)]⟩++⟨#[Gj z (j / 9%9)]⟩)++r:ua).length=l.length+2+r.length:=by rw[Sb,Sb,Sb];rfl
 have q2:(l++(⟨#[Gj z (k%9)]⟩++⟨#[Gj z (k / 9%9)]⟩)++r:ua).length=l.length+2+r.length:=by rw[Sb,Sb,Sb];rfl
 rw[q1,q2]at l1
 have eq:(l++(⟨#[Gj z (j%9)]⟩++⟨#[Gj z (j / 9%9)]⟩)++r:ua)=l++(⟨#[Gj z (k%9)]⟩++⟨#[Gj z (k / 9%9)]⟩)++r:=by
  unfold EF at h';by_cases a:inB (.str (l++(⟨#[Gj z (j%9)]⟩++⟨#[Gj z (j / 9%9)]⟩)++r)) JG=true
  .by_cases b:inB (.str (l++(⟨#[Gj z (k%9)]⟩++⟨#[Gj z (k / 9%9)]⟩)++r)) JG=true
   .rw[if_pos a,if_pos b]at h'
    have h3:=congrArg (λs:ua=>s.cps.toList) h';simp only[vf,dh,xg,qm]at h3;exact Jq (by simp only[vf,dh,xg,qm];simpa using h3)
   .rw[if_pos a,if_neg b]at l1;omega
  .by_cases b:inB (.str (l++(⟨#[Gj z (k%9)]⟩++⟨#[Gj z (k / 9%9)]⟩)++r)) JG=true
   .rw[if_neg a,if_pos b]at l1;omega
   .rw[if_neg a,if_neg b]at h';exact h'
 have h3:=congrArg (λs:ua=>s.cps.toList) eq;simp only[vf,dh,xg,qm]at h3;simp only[jd,Re,sk]at h3;have g1:=hz.2 _ _ (mod_lt _ (by decide)) (mod_lt _ (by decide)) h3.1;have g2:=hz.2 _ _ (mod_lt _ (by decide)) (mod_lt _ (by decide)) h3.2.1;omega
theorem UP(c:Int)(M:Nat)(hM:M<=81):∃ f:Nat->ua,(∀ j k,j<81->k<81->f j=f k->j=k)/\(∀ k,Gd (f k))/\Pa 2 Td [.int c,.int (M:Int)]=.ok (sL (wo M) f):=by
 obtain⟨w,e1,hw,wk⟩:=CW c;have e2:=Fu w (by omega);have d1:=WA c 7 (by decide) (by decide);have m1:=Ss (c / 7) ((w.length:Int)+1) (by omega);have d2:=WA c 5 (by decide) (by decide);have m2:=Ss (c / 5) 3 (by decide);obtain⟨zd,ez,hz⟩:=OD (xs:= [D.str "bdfhkmpry",.str "yrpmkhfdb",.str "kbydrfmhp"]) (i:=c / 5%3) (mm _ (by decide)) (fj _ (by decide));have ez':=RB _ _ _ ez
 obtain⟨z,rfl,hz9,zk⟩:∃ z:ua,zd=.str z/\zOk z/\Tq z:=by
  simp only[xc,mf,or_false]at hz;rcases hz with rfl|rfl|rfl
  .exact⟨"bdfhkmpry",rfl,⟨rfl,ET _ (by unfold Gj;decide +kernel)⟩,by unfold Tq;decide +kernel⟩
  .exact⟨"yrpmkhfdb",rfl,⟨rfl,ET _ (by unfold Gj;decide +kernel)⟩,by unfold Tq;decide +kernel⟩
  .exact⟨"kbydrfmhp",rfl,⟨rfl,ET _ (by unfold Gj;decide +kernel)⟩,by unfold Tq;decide +kernel⟩
 have rg:Xe [.int (M:Int)]=.ok (Zj 0 M):=by
  have:=HR (M:Int) (by omega) (by omega)
  rwa [show((M:Int)).toNat=M by omega]at this
 have p0:=mm (c / 7) (show(w.length:Int)+1≠0 by omega);have p1:=fj (c / 7) (show(0:Int)<(w.length:Int)+1 by omega);generalize c / 7%((w.length:Int)+1)=p at*;have sm:=D6 w p p0 (by omega);have s1:=Uz w none (some p) (by omega);have s2:=Uz w (some p) none (by omega);have k1:Tq (we w none (some p)):=YR wk _ _;have k2:Tq (we w (some p) none):=YR wk _ _;generalize we w none (some p)=l at*;generalize we w (some p) none=r at*;obtain⟨f,ef⟩:∃ f,f=fN l r z:=⟨_,rfl⟩
 obtain⟨δ2,fo,x,y,rfl⟩:=Bt (t:=Cc 6) (body:=Lh) (λi δ=>∃ (x y:Option S),δ= [some (.d (.int c)),some (.d (.int (M:Int))),some (.d (.str w)),some (.d (.int p)),some (.d (.str z)),some (.o ((wo i).map λk=>D.str (f k))),x,y])
  (Zj 0 M) [some (.d (.int c)),some (.d (.int (M:Int))),some (.d (.str w)),some (.d (.int p)),some (.d (.str z)),some (.o []),none,none] (λi d δ hd hI=>by
   obtain⟨x,y,rfl⟩:=hI;obtain⟨hi,rfl⟩:=MC hd;obtain⟨y2,e⟩:=WE (.int c) (.int (M:Int)) w z l r p i f ef y hz9 (by omega) (by omega) s1 s2 (by omega);refine⟨_,rfl,_,.inl ?_,some (.d (.int (i:Int))),y2,rfl⟩;rw[show(0+(i:Int))=(i:Int) by omega]
   exact e) ⟨none,none,rfl⟩
 rw[NC]at fo
 refine⟨f,λj k hj hk e=>by rw[ef]at e;exact T1 hz9 hj hk e,λk=>by rw[ef];exact K8 (by omega) k1 k2 zk hz9.1 k,Za _ _ _ _ ?_ rfl⟩;unfold sL;clear hw hz9 hz ez zk wk k1 k2 hM sm p0 p1;generalize (M:Int)=MM at*;generalize (wo M).map (λk=>D.str (f k))=ds at*;generalize c / 5%3=q at*;generalize (w.length:Int)=n at*;unfold Td Jp;simp only[Nb,Hb,db,tf,ba,lc,jd,Re,ae,uf,qb,kD,b1,b2,Bd,Oc,Aa,Ja,Ka,Ab,Rb,Tj,Aj,Gb,Ya,Ob,Oa,Sh,Bb,Res.bind_ok,Wa,Ma,Kf,e1,e2,d1,m1,d2,m2,ez',rg,fo,ac,bc,Tb,pf,si,if_true,reduceIte]
abbrev L7:ua:="abcdefghijklmnopqrstuvwxyz"
abbrev KWD:List D:= [.str "door",.str "key",.str "opens",.str "rules",.str "wing"]
def WB:D->Bool
 | .str c=>TF c L7
 |_=>false
def Nh(x:ua):Bool:= !inB (.str x) KWD&&(decide (1<=(x.length:Int)/\(x.length:Int)<=12)&&(Sf x).all WB)
theorem S8(X L:D)(ds bs:List D)(b:Bool)(e0:HI X=.ok ds)(e1:Lf 1 (Cc 0) (λ_=>.ok true) Nl [some (.d X),some (.d L)] ds=.ok bs)(e2:To (.lst bs)=.ok (.bl b)):Pa 2 Dd [X,L]=.ok (.bl b):=by
 refine Za _ _ _ _ ?_ rfl;unfold Dd Uo
 walk_at "ev*"
theorem M2(x:ua)(h:x.length<=1000):Pa 2 Dd [.str x,.str L7]=.ok (.bl ((Sf x).all WB)):=by
 refine S8 _ _ (Sf x) ((Sf x).map λd=>D.bl (WB d)) _ rfl (Nd ?_ (by unfold Sf;rw[Db,qg];exact bf h (by decide))) (Rt WB (Sf x));refine Ke (λd=>D.bl (WB d)) _ _ none λd hd=>?_;obtain⟨c,rfl⟩:=Ux hd;rfl
theorem V3(X:D)(e:We "str" X=.ok (.bl true))(e1:inR X (.tup ((["door","key","opens","rules","wing"]:List ua).map D.str))=.ok (.bl true)):Pa 1 Rc [X]=.ok (.bl false):=by
 refine Za _ _ _ _ ?_ rfl;generalize hL:(D.tup ((["door","key","opens","rules","wing"]:List ua).map D.str))=L at e1;unfold Rc Cn;rw[hL]
 walk_at "ev*"
theorem Y3(X:D)(n:Int)(e:We "str" X=.ok (.bl true))(e1:inR X (.tup ((["door","key","opens","rules","wing"]:List ua).map D.str))=.ok (.bl false))(e2:Gc X=.ok (.int n))(h:decide (1<=n/\n<=12)=false):Pa 1 Rc [X]=.ok (.bl false):=by
 refine Za _ _ _ _ ?_ rfl;generalize hL:(D.tup ((["door","key","opens","rules","wing"]:List ua).map D.str))=L at e1;unfold Rc Cn;rw[hL]
 walk_at "ev*"
theorem A4(X:D)(n:Int)(b:Bool)(e:We "str" X=.ok (.bl true))(e1:inR X (.tup ((["door","key","opens","rules","wing"]:List ua).map D.str))=.ok (.bl false))(e2:Gc X=.ok (.int n))(h:decide (1<=n/\n<=12)=true)(e3:Pa 2 Dd [X,.str L7]=.ok (.bl b)):Pa 1 Rc [X]=.ok (.bl b):=by
 refine Za _ _ _ _ ?_ rfl;generalize hL:(D.tup ((["door","key","opens","rules","wing"]:List ua).map D.str))=L at e1;unfold Rc Cn;rw[hL]
 walk_at "ev*"
theorem Kt(x:ua)(h:x.length<=1000):Pa 1 Rc [.str x]=.ok (.bl (Nh x)):=by
 have e:We "str" (.str x)=.ok (.bl true):=Jm _ (by simp[IS]);have e1:inR (.str x) (.tup ((["door","key","opens","rules","wing"]:List ua).map D.str))=.ok (.bl (inB (.str x) KWD)):=rfl;have e2:=Fu x h;unfold Nh;cases hi:inB (.str x) KWD with
 |true=>rw[hi]at e1;exact V3 _ e e1
 |false=>
  rw[hi]at e1
  cases hn:decide (1<=(x.length:Int)/\(x.length:Int)<=12) with
  |false=>exact Y3 _ _ e e1 e2 hn
  |true=>exact A4 _ _ _ e e1 e2 hn (M2 x h)
theorem Ec0(c:Nat):WB (.str ⟨#[c]⟩)=decide (c∈WV):=by
 have:=StrLaws.found_one L7 c;show TF ⟨#[c]⟩ L7=_;unfold TF;rw[this];rfl
theorem Bz(x:ua)(h:Gd x):Pa 1 Rc [.str x]=.ok (.bl true):=by
 have hl:=h.1;rw[Kt x (by omega)];have e1:inB (.str x) KWD=false:=h.2.2
 have e2:(Sf x).all WB=true:=by
  unfold Sf;rw[all_map,yi];intro c hc;show WB (.str ⟨#[c]⟩)=true;rw[Ec0,decide_eq_true (h.2.1 c hc)]
 unfold Nh;rw[e1,e2,decide_eq_true (by omega)];rfl
theorem AQ(δ:Ha):BC (.nx δ)=.nx δ:=rfl
theorem BQ(d:D):BC (.rt d)=.rt d:=rfl
def BO:Out->Res D
 | .rt d=>.ok d
 | .nx _=>.ok .non
 | .ex c fs=>.ex c fs
 |_=>.stuck
theorem TX(n:Nat)(g:Ha->Out)(ds:List D):OC n g ds=BO (g (Hb n ds)):=by unfold OC BO;cases g (Hb n ds)<;>rfl
theorem DV(d:D):BO (.rt d)=.ok d:=rfl
theorem CV(δ:Ha):BO (.nx δ)=.ok .non:=rfl
theorem BV(c:ua)(fs:List D):BO (.ex c fs)=.ex c fs:=rfl
theorem seqO_ex(c:ua)(fs:List D)(g:Ha->Out):Bp (.ex c fs) g=.ex c fs:=rfl
local macro_rules| `(tactic| walk_at "evx*")=> `(tactic| simp only[Nm,Zi,Mg,AQ,BQ,TX,DV,CV,BV,seqO_ex,Pz,Wa,Nb,Hb,db,tf,ba,lc,jd,Re,ae,uf,qb,
 kD,b1,b2,b3,EJ,tR,Vj,Fe,Fc,Ek,OI,UT,Ja,Aa,Se,Bd,Qc,Ab,Rb,Tj,Nf,Aj,Fv,OG,Ws,Gb,VC,QC,MR,Cs,TC,RC,UC,V7,Sq,
 Ya,Ob,Oa,Sh,Bb,Res.bind_ok,Res.bind_ex,Res.bind_stuck,Wa,Tu,Yk,Ma,Je,Uj,Hd,Cj,Qd,Li,Ap,Ua,Zp,
 Yi,Zo,Au,Mm,Lm,Hm,Yq,Kf,Kj,Kq,Ou,Kn,Nk,Fj,Wp,Yp,Qt,Ar,Zd,Er,Dk,Vm,Um,Mf,Ka,Rl,ED,GD,Tb,Pp,Fm,Oj,
 ac,bc,Oc,Ys,if_true,if_false,reduceIte,jf,vh,Sc,si,pf,ou,wq,true_and,and_true,and_self, *])
local macro_rules| `(tactic| walk_at "evm*")=> `(tactic| simp only[bM,Nb,Hb,db,tf,ba,lc,jd,Re,ae,uf,qb,
 kD,b1,b2,b3,EJ,tR,Vj,Fe,Fc,Ek,OI,UT,Ja,Aa,Se,Bd,Qc,Ab,Rb,Tj,Nf,Aj,Fv,OG,Ws,Gb,VC,QC,MR,Cs,TC,RC,UC,V7,Sq,
 Ya,Ob,Oa,Sh,Bb,Res.bind_ok,Res.bind_ex,Res.bind_stuck,Wa,Tu,Yk,Ma,Je,Uj,Hd,Cj,Qd,Li,Ap,Ua,Zp,
 Yi,Zo,Au,Mm,Lm,Hm,Yq,Kf,Kj,Kq,Ou,Kn,Nk,Fj,Wp,Yp,Qt,Ar,Zd,Er,Dk,Vm,Um,Mf,Ka,Rl,ED,GD,Tb,Pp,Fm,Oj,
 ac,bc,Oc,Ys,if_true,if_false,reduceIte,jf,vh,Sc,si,pf,ou,wq,true_and,and_true,and_self, *])
theorem J8(a b:ua):Kd (.str a) (.str b)=.ok (.bl (decide (a=b))):=by
 unfold Kd;rw[if_pos (by simp[Qe])];simp only[Pj];congr 2
theorem neS(a b:ua):Nu (.str a) (.str b)=.ok (.bl (!decide (a=b))):=by
 unfold Nu;rw[if_pos (by simp[Qe])];simp only[Pj];congr 3
theorem LG(x:ua)(h:x.length<=1000):Pa 2 Ud [.str x,.int 3]=.ok (.bl (Hs x)):=by
 have ln:=Fu x h;have hf:=LV x h;by_cases hl:1<=x.length/\x.length<=3
 .have dt:decide (1<=(x.length:Int)/\(x.length:Int)<=3)=true:=decide_eq_true (by omega);cases hb:(Sf x).all EB with
  |false=>
   rw[hb]at hf
   have hw:Hs x=false:=by unfold Hs;rw[hb];simp
   rw[hw];refine Za _ _ _ _ ?_ rfl;clear hb hw hl;generalize (x.length:Int)=n at*;unfold Ud Dj
   walk_at "ev*"
  |true=>
   rw[hb]at hf
   obtain⟨c,cs,hc⟩:∃ c cs,x.cps.toList=c::cs:=by
    cases hx:x.cps.toList with
    |nil=>
     have:x.length=0:=by show x.cps.size=0;rw[<-qg,hx];rfl
     omega
    |cons c cs=>exact⟨c,cs,rfl⟩
   have ix:Xc (.str x) (.int 0)=.ok (.str ⟨#[c]⟩):=by
    show(@ite (Res D) _ (uc _) (match Ey x.cps.toList 0 with|some c=>Res.ok (D.str ⟨#[c]⟩)|none=>.stuck) .stuck)=_;rw[if_pos (bf h Km),hc,show Ey (c::cs) 0=some c from Bn (by omega) rfl]
   have e1:=J8 x "0";have e2:=neS ⟨#[c]⟩ "0"
   have ec:decide ((⟨#[c]⟩:ua)="0")=(c==48):=by
    have:(⟨#[c]⟩:ua)="0"↔c=48:=by
     constructor
     .intro z;have z':=congrArg (λs:ua=>s.cps.toList) z;have z2: [c]= [48]:=z';simpa using z2
     .intro z;subst z;rfl
    rw[sg];simp[this]
   rw[ec]at e2
   have hw:Hs x=(decide (x="0")|| !(c==48)):=by
    unfold Hs;rw[hb,decide_eq_true hl,hc];simp[Bool.beq_eq_decide_eq]
   rw[hw];refine Za _ _ _ _ ?_ rfl;clear hb hw hl hc ec;generalize (x.length:Int)=n at*;generalize decide (x="0")=b at*;unfold Ud Dj;cases b<;>(walk_at "ev*";rfl)
 .have dt:decide (1<=(x.length:Int)/\(x.length:Int)<=3)=false:=decide_eq_false (by omega);have hw:Hs x=false:=by unfold Hs;rw[decide_eq_false hl];rfl
  rw[hw];refine Za _ _ _ _ ?_ rfl;clear hw hl;generalize (x.length:Int)=n at*;unfold Ud Dj
  walk_at "ev*"
def AO:List Nat:= [48,49,50,51,52,53,54,55,56,57]
theorem Xb0(c:Nat):EB (.str ⟨#[c]⟩)=decide (c∈AO):=by
 have:=StrLaws.found_one J7 c;show TF ⟨#[c]⟩ J7=_;unfold TF;rw[this];rfl
theorem BY(x:ua):(Sf x).all EB=x.cps.toList.all λc=>decide (c∈AO):=by
 unfold Sf;rw[all_map];refine congrArg (λf=>x.cps.toList.all f) (funext λc=>?_);exact Xb0 c
def vI(x:ua):Int:=(gk x).getD 0
def Z6(x:ua):Bool:=match gk x with
 |some v=>decide (0<=v)
 |none=>false
theorem Wb0:(AO.all λa=>Z6 ⟨#[a]⟩&&AO.all λb=>Z6 ⟨#[a,b]⟩&&AO.all λc=>Z6 ⟨#[a,b,c]⟩)=true:=by decide +kernel
theorem FZ(h:Z6 x=true):gk x=some (vI x)/\0<=vI x:=by
 unfold Z6 at h;unfold vI;cases e:gk x with
 |none=>rw[e]at h;cases h
 |some v=>rw[e]at h;exact⟨rfl,of_decide_eq_true h⟩
theorem O6(h:Hs x=true):gk x=some (vI x)/\0<=vI x/\x.length<=3:=by
 have h0:=h;unfold Hs at h;rw[BY]at h
 simp only[qf,decide_eq_true_eq,yi]at h;obtain⟨⟨l1,l2⟩,hf,_⟩:=h;have f3:=Wb0;simp only[yi,qf]at f3;have hx:x=⟨x.cps.toList.toArray⟩:=by rw[Array.toArray_toList]
 have hl:x.cps.toList.length=x.length:=qg
 have key:Z6 x=true:=by
  rw[hx];revert hf hl;generalize x.cps.toList=l;intro hf hl
  match l,hf,hl with
  | [],_,hl=>simp at hl;omega
  | [a],hf,_=>exact(f3 a (hf a (by simp))).1
  | [a,b],hf,_=>exact((f3 a (hf a (by simp))).2 b (hf b (by simp))).1
  | [a,b,c],hf,_=>exact((f3 a (hf a (by simp))).2 b (hf b (by simp))).2 c (hf c (by simp))
  |_::_::_::_::_,_,hl=>simp at hl;omega
 exact⟨(FZ key).1,(FZ key).2,l2⟩
theorem OV(h:Hs x=true):RO (.str x)=.ok (.int (vI x)):=by
 obtain⟨a,_,b⟩:=O6 h;unfold RO;dsimp only;rw[a];dsimp only;rw[if_pos (by omega)]
def Su(xs:List ua):D:=if xs.all Hs=true then .tup ((xs.map vI).map D.int) else .non
theorem GW(c:Nat)(w:ua)(hw:w.length<=900):Pa 2 Uc [.str w,.str ⟨#[c]⟩]=.ok (Su (yb w ⟨#[c]⟩)):=by
 have is:We "str" (.str w)=.ok (.bl true):=Jm _ (by simp[IS]);have sp:Ig w [.str ⟨#[c]⟩]=.ok ((yb w ⟨#[c]⟩).map D.str):=Jj w c hw;have hs:∀ x∈yb w ⟨#[c]⟩,x.length<=900:=λx hx=>bf (part_short hx) hw;have hn:(yb w ⟨#[c]⟩).length<=902:=bf (split_le _ _) (by omega);generalize yb w ⟨#[c]⟩=xs at*;have sq:Gi (.lst (xs.map D.str))=.ok (xs.map D.str):=rfl
 have c1:Lf 1 (Cc 0) (λ_=>.ok true) Ih [some (.d (.str w)),some (.d (.str ⟨#[c]⟩)),some (.d (.lst (xs.map D.str)))] (xs.map D.str)=.ok (xs.map λx=>D.bl (Hs x)):=by
  refine Nd ?_ (by rw[Db];omega)
  have:=Ke (fe:=Ih) (λd=>match d with| .str x=>.bl (Hs x)|_=>.non) [some (.d (.str w)),some (.d (.str ⟨#[c]⟩)),some (.d (.lst (xs.map D.str)))] (xs.map D.str) none (λd hd=>by
   obtain⟨x,hx',rfl⟩:=lj.mp hd;have e:=LG x (by have:=hs x hx';omega);unfold Ih
   simp only[b1,Aa,Ja,kD,Ya,Ka,Res.bind_ok,e])
  rw[gl]at this
  exact this
 have al:To (.lst (xs.map λx=>D.bl (Hs x)))=.ok (.bl (xs.all Hs)):=Rt Hs xs;refine Za _ _ _ _ ?_ rfl;unfold Su;cases hb:xs.all Hs with
 |false=>
  rw[hb]at al
  rw[if_neg xa];clear hs hb;generalize xs.map (λx=>D.bl (Hs x))=bs at*;generalize xs.map D.str=ss at*;unfold Uc Il;simp only[Nb,Hb,db,tf,ba,lc,jd,Re,ae,uf,qb,Ab,Nf,Rb,Gb,Fc,tR,b1,bM,Bd,Qc,Aa,Ja,kD,Oa,Ya,Ob,Ka,Res.bind_ok,is,Ua,Hd,jf,vh,Sc,if_false,if_true,reduceIte,Ma,Je,sp,Wa,ac,bc,sq,c1,al,Tb]
 |true=>
  rw[hb]at al
  rw[if_pos rfl]
  have c2:Lf 1 (Cc 0) (λ_=>.ok true) Jh [some (.d (.str w)),some (.d (.str ⟨#[c]⟩)),some (.d (.lst (xs.map D.str)))] (xs.map D.str)=.ok ((xs.map vI).map D.int):=by
   refine Nd ?_ (by rw[Db];omega)
   have:=Ke (fe:=Jh) (λd=>match d with| .str x=>.int (vI x)|_=>.non) [some (.d (.str w)),some (.d (.str ⟨#[c]⟩)),some (.d (.lst (xs.map D.str)))] (xs.map D.str) none (λd hd=>by
    obtain⟨x,hx',rfl⟩:=lj.mp hd;have e:=OV (yi.mp hb x hx');unfold Jh
    simp only[b1,Oa,Res.bind_ok,e])
   rw[gl]at this ⊢
   exact this
  have tt:Dp (.lst ((xs.map vI).map D.int))=.ok (.tup ((xs.map vI).map D.int)):=rfl;clear hs hb;generalize (xs.map vI).map D.int=ns at*;generalize xs.map (λx=>D.bl (Hs x))=bs at*;generalize xs.map D.str=ss at*;unfold Uc Il;simp only[Nb,Hb,db,tf,ba,lc,jd,Re,ae,uf,qb,Ab,Nf,Rb,Gb,Fc,tR,b1,bM,Bd,Qc,Aa,Ja,kD,Oa,Ya,Ob,Ka,Res.bind_ok,is,Ua,Hd,jf,Sc,if_false,reduceIte,Ma,sp,Wa,ac,bc,sq,c1,al,c2,tt,Tb]
theorem CP(c:Nat):∀ {xs:List (List Nat)},xs≠ []->(jn c xs).length+1=(xs.map (·.length)).sum+xs.length
 | [],h=>absurd rfl h
 | [x],_=>by simp[jn]
 |x::y::r,_=>by
  have ih:=CP c (xs:=y::r) (by simp);rw[Pl c x (by simp),md,ba,db,au,ba];omega
theorem FP(c a:Nat):∀ {xs:List (List Nat)},a∈jn c xs->a=c\/∃ x∈xs,a∈x
 | [],h=>by cases h
 | [x],h=>.inr ⟨x,by simp,h⟩
 |x::y::r,h=>by
  rw[Pl c x (by simp),wj,xc]at h
  rcases h with h|h|h
  .exact .inr ⟨x,by simp,h⟩
  .exact .inl h
  .rcases FP c a h with e|⟨z,hz,e⟩
   .exact .inl e
   .exact .inr ⟨z,ib _ hz,e⟩
theorem ID(w:ua)(c:Nat):yb w ⟨#[c]⟩≠ []/\w.cps.toList=jn c ((yb w ⟨#[c]⟩).map λx=>x.cps.toList)/\∀ x∈yb w ⟨#[c]⟩,c∉x.cps.toList:=by
 have h1:=StrLaws.join_split w ⟨#[c]⟩;have h2:=StrLaws.split_free w c;have h3:=split_pos w ⟨#[c]⟩;refine⟨λz=>by rw[z]at h3;simp at h3,?_,h2⟩;have h4:=congrArg (λx:ua=>x.cps.toList) h1;simp only[Lg]at h4;exact h4.symm
theorem PL(w:ua)(c:Nat):((yb w ⟨#[c]⟩).map (·.length)).sum+(yb w ⟨#[c]⟩).length=w.length+1:=by
 obtain⟨a,b,f⟩:=ID w c;have:=CP c (xs:=(yb w ⟨#[c]⟩).map λx=>x.cps.toList) (by simpa using a);rw[<-b,gl,Db]at this
 have e:w.cps.toList.length=w.length:=qg;rw[e]at this
 rw[this];congr 1
def bnd(p d h s:Int):Bool:=decide (1<=p/\p<=24)&&decide (2<=d/\d<=20)&&decide (1<=h/\h<=d)&&decide (1<=s/\s<=d-1)
theorem KY(n:Int):Pa 1 Yh [.int n]=.ok (.bl true):=by
 have e1:We "int" (.int n)=.ok (.bl true):=by simp[We,Yz,Cu]
 have e2:We "bool" (.int n)=.ok (.bl false):=by simp[We,Yz,Cu]
 refine Za _ _ _ _ ?_ rfl;unfold Yh Ut
 walk_at "ev*"
def rB:List Int->Bool
 | [a,b,c,d]=>bnd a b c d
 |_=>false
theorem QD(p d h s:Int):Pa 1 Ae [.tup [.int p,.int d,.int h,.int s]]=.ok (.bl (bnd p d h s)):=by
 have e0:Pa 1 Si [.tup [.int p,.int d,.int h,.int s]]=.ok (.int p):=rfl;have e1:Pa 1 Ri [.tup [.int p,.int d,.int h,.int s]]=.ok (.int d):=rfl;have e2:Pa 1 Mh [.tup [.int p,.int d,.int h,.int s]]=.ok (.int h):=rfl;have e3:Pa 1 Xk [.tup [.int p,.int d,.int h,.int s]]=.ok (.int s):=rfl;generalize D.tup [.int p,.int d,.int h,.int s]=T at*;refine Za _ _ _ _ ?_ rfl;unfold bnd
 cases h1:decide (1<=p/\p<=24)<;>cases h2:decide (2<=d/\d<=20)<;>cases h3:decide (1<=h/\h<=d)<;>cases h4:decide (1<=s/\s<=d-1)<;>
  (unfold Ae Xn;walk_at "ev*";try rfl)
theorem Ko(xs:List ua)(hl:xs.length<=1000):Pa 1 Be [Su xs]=.ok (.bl (xs.all Hs&&rB (xs.map vI))):=by
 refine Za _ _ _ _ ?_ rfl;unfold Su;cases hb:xs.all Hs with
 |false=>
  have e:We "tuple" .non=.ok (.bl false):=by simp[We,Yz,Cu]
  rw[if_neg xa,ql];unfold Be Hl
  walk_at "ev*"
 |true=>
  rw[if_pos rfl,Bool.true_and];have e:We "tuple" (.tup ((xs.map vI).map D.int))=.ok (.bl true):=by simp[We,Yz,Cu]
  have hn:(xs.map vI).length<=1000:=by rw[Db];exact hl
  generalize xs.map vI=ns at*;clear hb hl;by_cases h4:ns.length=4
  .match ns,h4 with
   | [a,b,c,d],_=>
    have ln:Gc (.tup ([a,b,c,d].map D.int))=.ok (.int 4):=rfl;have bo:=QD a b c d;have ne4:Nu (.int 4) (.int 4)=.ok (.bl false):=by rw[Zo];rfl
    have c1:Lf 1 (Cc 0) (λ_=>.ok true) Ej [some (.d (.tup ([a,b,c,d].map D.int)))] ([a,b,c,d].map D.int)=.ok [.bl true,.bl true,.bl true,.bl true]:=by
     refine Nd ?_ (by simp)
     have:=Ke (fe:=Ej) (λ_=>.bl true) [some (.d (.tup ([a,b,c,d].map D.int)))] ([a,b,c,d].map D.int) none (λx hx=>by
      obtain⟨n,_,rfl⟩:=lj.mp hx;have w:=KY n;unfold Ej
      simp only[b1,Aa,Ja,Ya,Ka,Res.bind_ok,w])
     exact this
    have sq:Gi (.tup ([a,b,c,d].map D.int))=.ok ([a,b,c,d].map D.int):=rfl;have al:To (.lst [.bl true,.bl true,.bl true,.bl true])=.ok (.bl true):=rfl;have bo':Pa 1 Ae [.tup ([a,b,c,d].map D.int)]=.ok (.bl (bnd a b c d)):=bo;have eb:rB [a,b,c,d]=bnd a b c d:=rfl;rw[eb];clear bo eb;generalize bnd a b c d=B at*;generalize [a,b,c,d].map D.int=L at*;generalize D.tup L=T at*;unfold Be Hl;simp only[Nb,Hb,db,tf,ba,lc,jd,Re,ae,uf,qb,kg,Ab,Nf,Gb,Fe,Fc,tR,b1,b2,kD,Bd,Qc,Ek,Aa,Ja,Oa,Ya,Ka,Res.bind_ok,e,ln,sq,c1,al,bo',ne4,Ua,Qd,jf,Sc,if_false,if_true,reduceIte,Hd,Ma,Wa,Li,Tb]
  .have ln:Gc (.tup (ns.map D.int))=.ok (.int ns.length):=by rw[Ar,Db]
   have ne:Nu (.int (ns.length:Int)) (.int 4)=.ok (.bl true):=by rw[Zo];congr 2;simp;omega
   have rb:rB ns=false:=by
    match ns,h4 with
    | [],_=>rfl
    | [_],_=>rfl
    | [_,_],_=>rfl
    | [_,_,_],_=>rfl
    | [_,_,_,_],h=>exact absurd rfl h
    |_::_::_::_::_::_,_=>rfl
   rw[rb];clear rb h4 hn;generalize ns.map D.int=L at*;generalize (ns.length:Int)=n at*;unfold Be Hl;simp only[Nb,Hb,db,tf,ba,lc,jd,Re,ae,uf,qb,kg,Ab,Nf,Gb,Fe,Fc,tR,b1,b2,kD,Oa,Ya,Res.bind_ok,e,ln,ne,Ua,Qd,jf,Sc,if_false,if_true,reduceIte,Hd,Je,Wa,Tb]
theorem S5(t N:D)(hn:Pa 2 Uc [t,.str " "]=.ok N)(hc:Pa 1 Be [N]=.ok (.bl true)):Vb [t]=.ok N:=by
 unfold Vb Jl
 walk_at "evx*"
theorem UH(w:ua)(hw:w.length<=900):Pa 2 Uc [.str w,.str " "]=.ok (Su (yb w ⟨#[32]⟩)):=GW 32 w hw
theorem R5(t N:D)(hn:Pa 2 Uc [t,.str " "]=.ok N)(hc:Pa 1 Be [N]=.ok (.bl false)):Vb [t]=.ex "NoRules" []:=by
 unfold Vb Jl
 walk_at "evx*"
def Ed(p:ua×List ua):D:=.tup [.str p.1,.lst (p.2.map D.str)]
def Zx(p:ua×List ua):Prop:=p.1.length<=20/\p.2≠ []/\p.2.length<=6/\∀ w∈p.2,w.length<=20
theorem Oy(ws:List ua)(lo hi:Option Int):cutD (ws.map D.str) lo hi=((ws.drop (HT.sIx ws.length 0 lo)).take (HT.sIx ws.length ws.length hi-HT.sIx ws.length 0 lo)).map D.str:=by
 unfold L3.cutD;rw[Db,List.map_take,List.map_drop]
theorem II(ds:List D)(lo hi:Option Int):FD (.lst ds) lo hi=.ok (cutD ds lo hi):=rfl
theorem Jy(xs ys:List D)(h:xs.length+ys.length<=1000):Vt (.lst xs) (.lst ys)=.ok (xs++ys):=if_pos (BJ h)
theorem sIx_nat(n d:Nat)(k:Int)(h0:0<=k):HT.sIx n d (some k)=min k.toNat n:=by
 obtain⟨m,rfl⟩:∃ m:Nat,k=m:=⟨k.toNat,by omega⟩
 rw[HT.sIx_nat,tj]
theorem UG{fe:Ha->Res D}(f:ua×List ua->D)(δ:Ha):∀ (ps:List (ua×List ua)) (x y:Option S),(∀ p∈ps,fe (some (.d (.str p.1))::some (.d (.lst (p.2.map D.str)))::δ)=.ok (f p))->
  Ug (Gs 2 (Ji (Cc 0) (Ji (Cc 1) Fs))) (λ_=>.ok true) fe (ps.map Ed) (x::y::δ)=.ok (ps.map f)
 | [],_,_,_=>rfl
 |p::ps,x,y,h=>by
  rw[db,Vo (δ':=some (.d (.str p.1))::some (.d (.lst (p.2.map D.str)))::δ) _ _ _ _ rfl];simp only[Rl,Res.bind_ok,if_true,h p kc,UG f δ ps _ _ (λq hq=>h q (ib _ hq)),db]
theorem Tw(ps:List (ua×List ua))(hl:ps.length<=1000):Pa 1 Rj [.lst (ps.map Ed)]=.ok (.lst (ps.map Ed)):=by
 have c:=Nd (n:=2) (c:=λ_=>.ok true) (fe:=Ml) (δ:= [some (.d (.lst (ps.map Ed)))]) (UG (fe:=Ml) Ed [some (.d (.lst (ps.map Ed)))] ps none none (λp _=>by
  unfold Ml Ed
  simp only[b1,Bd,Ys,Aa,Ja,Ka,Ya,Ob,Oa,Bb,Res.bind_ok,Dk,ba,lc,ae,pf,if_true,reduceIte])) (by rw[Db];omega)
 refine Za _ _ _ _ ?_ rfl;generalize ps.map Ed=P at*;unfold Rj JA;simp only[Nb,Hb,db,tf,ba,lc,jd,Re,ae,uf,qb,b1,Bd,Qc,Gb,Ya,Res.bind_ok,Wa,Dk,c,Tb]
abbrev IT(R A B C:D):D:=.obj "House" ["rules","doors","wings","grants"] [R,A,B,C]
theorem ZV(R:D)(ds:List D)(ps qs:List (ua×List ua))(hp:ps.length<=1000)(hq:qs.length<=1000):Pa 4 (Ju 4 "House" Qi) [R,.lst ds,.lst (ps.map Ed),.lst (qs.map Ed)]=.ok (IT R (.lst ds) (.lst (ps.map Ed)) (.lst (qs.map Ed))):=by
 have e1:=Tw ps hp;have e2:=Tw qs hq;refine Za _ _ _ _ ?_ rfl;generalize ps.map Ed=P at*;generalize qs.map Ed=Q at*;unfold Ju Qi;simp only[Jo,Hb,db,tf,ba,lc,jd,Re,ae,uf,qb,b1,Bd,Aa,Ja,Ka,Ya,Ob,Oa,Bb,Res.bind_ok,Dk,e1,e2]
theorem Yb0(R A B C:D):Tn "House" "rules" (IT R A B C)=.ok R:=rfl
theorem N8(R A B C:D):Tn "House" "doors" (IT R A B C)=.ok A:=rfl
theorem O8(R A B C:D):Tn "House" "wings" (IT R A B C)=.ok B:=rfl
theorem P8(R A B C:D):Tn "House" "grants" (IT R A B C)=.ok C:=rfl
theorem Jn(c:Nat)(xs:List ua)(h:(xs.map (·.length)).sum+xs.length<=100000):Qj ⟨#[c]⟩ [.lst (xs.map D.str)]=.ok (.str (zb ⟨#[c]⟩ xs)):=by
 unfold Qj;dsimp only;rw[Ii];dsimp only;refine if_pos ?_;unfold JoinOk Builtin.Str.tooLong;rw[StrLaws.joinTotal];have:sizeLine=16777216:=qe;have e:(⟨#[c]⟩:ua).length=1:=rfl;rw[e];simp;omega
theorem Gr{α:Type}(f:α->Nat)(k:Nat):∀ l:List α,(∀ a∈l,f a<=k)->(l.map f).sum<=k*l.length
 | [],_=>by simp
 |a::l,h=>by
  rw[db,au,ba,Nat.mul_succ];have:=h a kc;have:=Gr f k l λb hb=>h b (ib _ hb);omega
def He(k l:ua)(p:ua×List ua):ua:=zb ⟨#[32]⟩ (k::p.1::l::p.2)
theorem EI(k l k' l':ua)(p:ua×List ua)(h:p.2≠ [])(hk:k'.cps.toList=k.cps.toList++ [32])(hl:l'.cps.toList=32::(l.cps.toList++ [32])):He k l p=k'++p.1++l'++zb ⟨#[32]⟩ p.2:=by
 refine Jq ?_;unfold He;rw[show zb ⟨#[32]⟩ (k::p.1::l::p.2)=vj ⟨#[32]⟩ (k::p.1::l::p.2) from bg _ _,show zb ⟨#[32]⟩ p.2=vj ⟨#[32]⟩ p.2 from bg _ _];have hn:(p.2.map λx:ua=>x.cps.toList)≠ []:=λz=>h (pq.mp z);rw[Lg,db,db,db,Pl _ _ (by simp),Pl _ _ (by simp),Pl _ _ hn,<-Lg];rw[vf,vf,vf,dh,dh,dh,hk,hl];simp
theorem AR(k l:ua)(p:ua×List ua)(h:Zx p)(hk:k.length<=10)(hl:l.length<=10):((k::p.1::l::p.2).map (·.length)).sum+(k::p.1::l::p.2).length<=200:=by
 obtain⟨h1,h2,h3,h4⟩:=h;have:=Gr (λx:ua=>x.length) 20 p.2 h4;simp only[db,au,ba];omega
theorem Fq(k l:ua)(p:ua×List ua)(h:Zx p)(hk:k.length<=10)(hl:l.length<=10):(He k l p).length<=200:=bf (Up _ _) (AR k l p h hk hl)
theorem ES(k l:ua)(p:ua×List ua)(h:Zx p)(hk:k.length<=10)(hl:l.length<=10)(ht:Hr D.str [("wing","="),("key","opens")] (.str k)=.ok (.str l)):Pa 2 Vc [.str k,Ed p]=.ok (.str (He k l p)):=by
 have e1:Xc (Ed p) (.int 0)=.ok (.str p.1):=rfl;have e2:Xc (Ed p) (.int 1)=.ok (.lst (p.2.map D.str)):=rfl;have e3:=Jy [.str k,.str p.1,.str l] (p.2.map D.str) (by have:=h.2.2.1;rw[Db];simp only[ba,lc];omega);have e4:Qj " " [.lst ([.str k,.str p.1,.str l]++p.2.map D.str)]=.ok (.str (He k l p)):=Jn 32 (k::p.1::l::p.2) (bf (AR k l p h hk hl) (by decide));refine Za _ _ _ _ ?_ rfl;generalize ([.str k,.str p.1,.str l]++p.2.map D.str:List D)=J at*;generalize p.2.map D.str=M at*;generalize Ed p=P at*;clear h hk hl;unfold Vc Ao;simp only[Nb,Hb,db,tf,ba,lc,jd,Re,ae,uf,qb,kD,b1,b2,OG,bM,Bd,Oc,Aa,Ja,Ka,Gb,Ya,Ob,Oa,Bb,Res.bind_ok,Wa,e1,e2,ht,e3,e4,Tb,pf,if_true,reduceIte]
def Rh(a b c d:Int):ua:=zb ⟨#[32]⟩ [toString a,toString b,toString c,toString d]
theorem Ln(c:Int)(h:0<=c/\c<100):(toString c:ua).length<=2/\RL (.int c)=.ok (.str (toString c)):=by
 obtain⟨n,rfl⟩:∃ n:Nat,c=n:=⟨c.toNat,by omega⟩
 have hn:n<100:=by omega
 have g:∀ n:Nat,n<100->(toString (n:Int):ua).length<=2/\(n:Int).natAbs.log2<1920:=by decide +kernel
 exact⟨(g n hn).1,if_pos (g n hn).2⟩
variable{fe:Ha->Res D}
theorem AN(δ:Ha)(a b c d:Int)(hfe:fe=b1 RL (Ba 0))(h:∀ x∈ [a,b,c,d],0<=x/\x<100):Lf 1 (Cc 0) (λ_=>.ok true) fe δ [.int a,.int b,.int c,.int d]=.ok (([toString a,toString b,toString c,toString d]:List ua).map D.str):=by
 subst hfe;refine Nd ?_ (by show 4<=100000;decide)
 have:=Ke (fe:=b1 RL (Ba 0)) (λx=>match x with| .int i=>.str (toString i)|_=>.non) δ [.int a,.int b,.int c,.int d] none (λx hx=>by
  obtain⟨i,hi,rfl⟩:∃ i,i∈ [a,b,c,d]/\x=.int i:=by
   simp only[xc,mf,or_false]at hx ⊢;rcases hx with rfl|rfl|rfl|rfl
   .exact⟨a,.inl rfl,rfl⟩
   .exact⟨b,.inr (.inl rfl),rfl⟩
   .exact⟨c,.inr (.inr (.inl rfl)),rfl⟩
   .exact⟨d,.inr (.inr (.inr rfl)),rfl⟩
  simp only[b1,Oa,Res.bind_ok,(Ln i (h i hi)).2])
 exact this
theorem Sj(a b c d:Int)(h:∀ x∈ [a,b,c,d],0<=x/\x<100):Qj " " [.lst (([toString a,toString b,toString c,toString d]:List ua).map D.str)]=.ok (.str (Rh a b c d))/\(Rh a b c d).length<=20:=by
 have s:(([toString a,toString b,toString c,toString d]:List ua).map (·.length)).sum+([toString a,toString b,toString c,toString d]:List ua).length<=20:=by
  have h1:=(Ln a (h a (by simp))).1;have h2:=(Ln b (h b (by simp))).1;have h3:=(Ln c (h c (by simp))).1;have h4:=(Ln d (h d (by simp))).1;simp only[db,tf,au,List.sum_nil,ba,lc];omega
 exact⟨Jn 32 _ (bf s (by decide)),bf (Up _ _) s⟩
theorem PF(a b c d:Int)(h:∀ x∈ [a,b,c,d],0<=x/\x<100):Pa 1 Ze [.tup [.int a,.int b,.int c,.int d]]=.ok (.str (Rh a b c d)):=by
 have c1:=AN (fe:=Vl) [some (.d (.tup [.int a,.int b,.int c,.int d]))] a b c d rfl h;have j1:=(Sj a b c d h).1;refine Za _ _ _ _ ?_ rfl;generalize (([toString a,toString b,toString c,toString d]:List ua).map D.str)=J at*;unfold Ze Zn;simp only[Nb,Hb,db,tf,ba,lc,jd,Re,ae,uf,qb,kD,b1,bM,Bd,Qc,Aa,Ja,Ka,Gb,Ya,Res.bind_ok,Wa,Er,c1,j1,Tb]
theorem OJ(δ:Ha)(ds:List ua)(hfe:fe=b2 Wc (kD (.str "door ")) (Ba 0))(hl:ds.length<=1000)(h:∀ x∈ds,x.length<=30):Lf 1 (Cc 0) (λ_=>.ok true) fe δ (ds.map D.str)=.ok ((ds.map λx=>(("door ":ua)++x)).map D.str):=by
 subst hfe;refine Nd ?_ (by rw[Db];omega)
 have:=Ke (fe:=b2 Wc (kD (.str "door ")) (Ba 0)) (λx=>match x with| .str i=>.str ("door "++i)|_=>.non) δ (ds.map D.str) none (λx hx=>by
  obtain⟨i,hi,rfl⟩:=lj.mp hx;have e:=Qg "door " i (by have:=h i hi;show 5+i.length<=100000;omega)
  simp only[b2,kD,Oa,Res.bind_ok,e])
 rw[gl]at this
 rw[gl];exact this
theorem Xt(δ:Ha)(k l:ua)(ps:List (ua×List ua))(hfe:fe=b1 (Pa 2 Vc) (Aa (kD (.str k)) (Aa (Ra 0) Ja)))(hl:ps.length<=1000)(h:∀ p∈ps,Zx p)(hk:k.length<=10)(hl2:l.length<=10)(ht:Hr D.str [("wing","="),("key","opens")] (.str k)=.ok (.str l)):Lf 1 (Cc 0) (λ_=>.ok true) fe δ (ps.map Ed)=.ok ((ps.map (He k l)).map D.str):=by
 subst hfe;refine Nd ?_ (by rw[Db];omega)
 have:=Ke (fe:=b1 (Pa 2 Vc) (Aa (kD (.str k)) (Aa (Ra 0) Ja))) (λx=>match x with| .tup [.str w,.lst ms]=>.str (He k l (w,(Ul ms).getD []))|_=>.non) δ (ps.map Ed) none (λx hx=>by
  obtain⟨p,hp,rfl⟩:=lj.mp hx;have e:=ES k l p (h p hp) hk hl2 ht;simp only[b1,kD,Aa,Ja,Ka,Ya,Res.bind_ok,e];unfold Ed
  simp only[Ii,Option.getD_some])
 rw[gl]at this
 rw[gl];refine this.trans (congrArg Res.ok (ym λp hp=>?_));show(match Ed p with| .tup [.str w,.lst ms]=>D.str (He k l (w,(Ul ms).getD []))|_=>.non)=D.str (He k l p);unfold Ed;simp only[Ii,Option.getD_some]
theorem Ry(i:Nat)(δ:Ha)(ds es:List D)(h:δ[i]? =some (some (.o ds)))(hl:ds.length+es.length<=100000):ZU i δ (.ok es)=.nx (δ.set i (some (.o (ds++es)))):=by
 unfold ZU;rw[h];exact if_pos hl
theorem JH(i:Nat)(δ:Ha)(ds:List D)(h:δ[i]? =some (some (.o ds))):FO i δ=δ.set i (some (.d (.lst ds))):=by
 unfold FO;rw[h]
def Al(a b c d:Int)(ds:List ua)(ps qs:List (ua×List ua)):List ua:=(("rules ":ua)++Rh a b c d)::(ds.map (λx=>(("door ":ua)++x))++ps.map (He "wing" "=")++qs.map (He "key" "opens"))
theorem GL(a b c d:Int)(ds:List ua)(ps qs:List (ua×List ua))(h:∀ x∈ [a,b,c,d],0<=x/\x<100)(hd:ds.length<=60)(hp:ps.length<=60)(hq:qs.length<=60)(g1:∀ x∈ds,x.length<=30)(g2:∀ p∈ps,Zx p)(g3:∀ p∈qs,Zx p):
  ((Al a b c d ds ps qs).map (·.length)).sum+(Al a b c d ds ps qs).length<=100000:=by
 have hr:=(Sj a b c d h).2
 have hl:(Al a b c d ds ps qs).length<=181:=by
  unfold Al;simp only[ba,md,Db];omega
 have hs:=Gr (λx:ua=>x.length) 200 (Al a b c d ds ps qs) (λx hx=>by
  unfold Al at hx;rcases xc.mp hx with rfl|hx
  .show(("rules ":ua)++Rh a b c d).length<=200;rw[Sb,show("rules ":ua).length=6 from rfl];omega
  .rcases wj.mp hx with hx|hx
   .rcases wj.mp hx with hx|hx
    .obtain⟨y,hy,rfl⟩:=lj.mp hx;show(("door ":ua)++y).length<=200;rw[Sb,show("door ":ua).length=5 from rfl];have:=g1 y hy;omega
    .obtain⟨y,hy,rfl⟩:=lj.mp hx;exact Fq _ _ y (g2 y hy) (by decide) (by decide)
   .obtain⟨y,hy,rfl⟩:=lj.mp hx
    exact Fq _ _ y (g3 y hy) (by decide) (by decide))
 omega
theorem NO(a b c d:Int)(ds:List ua)(ps qs:List (ua×List ua))(h:∀ x∈ [a,b,c,d],0<=x/\x<100)(hd:ds.length<=60)(hp:ps.length<=60)(hq:qs.length<=60)(g1:∀ x∈ds,x.length<=30)(g2:∀ p∈ps,Zx p)(g3:∀ p∈qs,Zx p):
  Pa 1 Ce [IT (.tup [.int a,.int b,.int c,.int d]) (.lst (ds.map D.str)) (.lst (ps.map Ed)) (.lst (qs.map Ed))]=.ok (.str (zb ⟨#[10]⟩ (Al a b c d ds ps qs))):=by
 have f1:=Yb0 (.tup [.int a,.int b,.int c,.int d]) (.lst (ds.map D.str)) (.lst (ps.map Ed)) (.lst (qs.map Ed));have f2:=N8 (.tup [.int a,.int b,.int c,.int d]) (.lst (ds.map D.str)) (.lst (ps.map Ed)) (.lst (qs.map Ed));have f3:=O8 (.tup [.int a,.int b,.int c,.int d]) (.lst (ds.map D.str)) (.lst (ps.map Ed)) (.lst (qs.map Ed));have f4:=P8 (.tup [.int a,.int b,.int c,.int d]) (.lst (ds.map D.str)) (.lst (ps.map Ed)) (.lst (qs.map Ed));generalize IT (.tup [.int a,.int b,.int c,.int d]) (.lst (ds.map D.str)) (.lst (ps.map Ed)) (.lst (qs.map Ed))=HH at*;have r1:=PF a b c d h;have r2:=Qg "rules " (Rh a b c d) (by rw[show("rules ":ua).length=6 from rfl];have:=(Sj a b c d h).2;omega);have jn1:Qj "\n" [.lst ((Al a b c d ds ps qs).map D.str)]=.ok (.str (zb ⟨#[10]⟩ (Al a b c d ds ps qs))):=Jn 10 _ (GL a b c d ds ps qs h hd hp hq g1 g2 g3)
 have el:(Al a b c d ds ps qs).map D.str=([.str ("rules "++Rh a b c d)]++(ds.map (λx=>(("door ":ua)++x))).map D.str++(ps.map (He "wing" "=")).map D.str++(qs.map (He "key" "opens")).map D.str:List D):=by
  unfold Al;simp only[db,uh,List.singleton_append,jd,xg,Re]
 rw[el]at jn1
 generalize ("rules ":ua)++Rh a b c d=R0 at*;have c1:∀ δ,Lf 1 (Cc 0) (λ_=>.ok true) Vi δ (ds.map D.str)=.ok ((ds.map λx=>(("door ":ua)++x)).map D.str):=λδ=>OJ (fe:=Vi) δ ds rfl (by omega) g1;have c2:∀ δ,Lf 1 (Cc 0) (λ_=>.ok true) Wi δ (ps.map Ed)=.ok ((ps.map (He "wing" "=")).map D.str):=λδ=>Xt (fe:=Wi) δ "wing" "=" ps rfl (by omega) g2 (by decide) (by decide) rfl;have c3:∀ δ,Lf 1 (Cc 0) (λ_=>.ok true) Xi δ (qs.map Ed)=.ok ((qs.map (He "key" "opens")).map D.str):=λδ=>Xt (fe:=Xi) δ "key" "opens" qs rfl (by omega) g3 (by decide) (by decide) rfl;have l1:((ds.map λx=>(("door ":ua)++x)).map D.str).length<=60:=by simpa using hd
 have l2:((ps.map (He "wing" "=")).map D.str).length<=60:=by simpa using hp
 have l3:((qs.map (He "key" "opens")).map D.str).length<=60:=by simpa using hq
 clear el;generalize (ds.map λx=>(("door ":ua)++x)).map D.str=X1 at*;generalize (ps.map (He "wing" "=")).map D.str=X2 at*;generalize (qs.map (He "key" "opens")).map D.str=X3 at*;have x1:=Ry 1 [some (.d HH),some (.o [.str R0])] [.str R0] X1 rfl (by simp only[ba,lc];omega);have x2:=Ry 1 [some (.d HH),some (.o ([.str R0]++X1))] ([.str R0]++X1) X2 rfl (by simp only[md,ba,lc];omega);have x3:=Ry 1 [some (.d HH),some (.o ([.str R0]++X1++X2))] ([.str R0]++X1++X2) X3 rfl (by simp only[md,ba,lc];omega);have z1:=JH 1 [some (.d HH),some (.o ([.str R0]++X1++X2++X3))] ([.str R0]++X1++X2++X3) rfl;have y1:∀ Y:List D,([some (.d HH),some (.o Y)]:Ha).set 1 (some (.o ([.str R0]++X1)))= [some (.d HH),some (.o ([.str R0]++X1))]:=λ_=>rfl;have y2:∀ Y:List D,([some (.d HH),some (.o Y)]:Ha).set 1 (some (.o ([.str R0]++X1++X2)))= [some (.d HH),some (.o ([.str R0]++X1++X2))]:=λ_=>rfl;have y3:∀ Y:List D,([some (.d HH),some (.o Y)]:Ha).set 1 (some (.o ([.str R0]++X1++X2++X3)))= [some (.d HH),some (.o ([.str R0]++X1++X2++X3))]:=λ_=>rfl;have y4:∀ Y Z:List D,([some (.d HH),some (.o Y)]:Ha).set 1 (some (.d (.lst Z)))= [some (.d HH),some (.d (.lst Z))]:=λ_ _=>rfl;rw[y1]at x1;rw[y2]at x2;rw[y3]at x3;rw[y4]at z1
 generalize zb ⟨#[10]⟩ (Al a b c d ds ps qs)=OUT at*;generalize ([.str R0]++X1++X2++X3:List D)=Z3 at*;generalize ([.str R0]++X1++X2:List D)=Z2 at*;generalize ([.str R0]++X1:List D)=Z1 at*;generalize ds.map D.str=DD at*;generalize ps.map Ed=PP at*;generalize qs.map Ed=QQ at*;clear h hd hp hq g1 g2 g3 l1 l2 l3 y1 y2 y3 y4;refine Za _ _ _ _ ?_ rfl;unfold Ce Yn;simp only[Nb,Hb,db,tf,ba,lc,jd,Re,ae,uf,qb,kD,b1,b2,bM,Bd,Oc,Qc,Aa,Ja,Ka,Ab,Tj,JL,Dv,Gb,Ya,Ob,Oa,Bb,Res.bind_ok,Wa,Ma,Dk,f1,f2,f3,f4,r1,r2,c1,c2,c3,x1,x2,x3,z1,jn1,Tb,ac,bc,pf,if_true,reduceIte]
theorem AB(x:D)(h:Qe 40 x=true)(e:Pj x x=true):Kd x x=.ok (.bl true)/\Nu x x=.ok (.bl false):=by
 unfold Kd Nu;rw[h,e];exact⟨rfl,rfl⟩
theorem PR(x:ua):Kd (.str x) (.str x)=.ok (.bl true)/\Nu (.str x) (.str x)=.ok (.bl false):=AB _ rfl (by simp[Pj])theorem sIf_t {c:Ha->Res Bool} {a b:Ha->Out} {δ:Ha} (h:c δ= .ok true):Nf c a b δ=a δ:=by unfold Nf;rw[h];rfl
variable{δ:Ha}
theorem Uh{c:Ha->Res Bool}{a b:Ha->Out}(h:c δ= .ok false):Nf c a b δ=b δ:=by unfold Nf;rw[h];rfl
variable{α:Type}
theorem Pc(a:α):noex (Res.ok a)=.ok a:=rfl
theorem QF(a y:ua):wf (a++y) a=true:=by
 have la:a.cps.toList.length=a.length:=qg;have e:(a++y).cps.toList=a.cps.toList++y.cps.toList:=by rw[vf,dh]
 unfold wf;rw[qf,decide_eq_true_eq];refine⟨by rw[Sb];omega,?_⟩;rw[StrLaws.subAt_eq,e,<-la,List.drop_zero,List.take_left,beq_self_eq_true]
theorem OL(a y:ua):we (a++y) (some (a.length:Int)) none=y:=by
 have la:a.cps.toList.length=a.length:=qg;have ly:y.cps.toList.length=y.length:=qg;have e:(a++y).cps.toList=a.cps.toList++y.cps.toList:=by rw[vf,dh]
 have n:=Sb a y;rw[slice_from_eq (b:=((a++y).length:Int)) (by omega) (by omega) rfl];refine Jq ?_;show((a++y).cps.toList.drop _).take _=_;rw[e,show((a.length:Int)).toNat=a.cps.toList.length by omega,List.drop_left,uj (by omega)]
theorem QU:∀ n:Nat,n<100->Hs (toString (n:Int):ua)=true/\vI (toString (n:Int):ua)=(n:Int)/\32∉(toString (n:Int):ua).cps.toList/\10∉(toString (n:Int):ua).cps.toList:=by
 unfold vI Hs;decide +kernel
theorem Gg(c:Int)(h:0<=c/\c<100):Hs (toString c:ua)=true/\vI (toString c:ua)=c/\32∉(toString c:ua).cps.toList/\10∉(toString c:ua).cps.toList:=by
 obtain⟨n,rfl⟩:∃ n:Nat,c=n:=⟨c.toNat,by omega⟩
 exact QU n (by omega)
structure RuOk(a b c d:Int):Prop where
 a1:1<=a/\a<=24
 b1:2<=b/\b<=20
 c1:1<=c/\c<=b
 d1:1<=d/\d<=b-1
variable{d c a b:Int}
theorem RuOk.sm(o:RuOk a b c d):∀ x∈ [a,b,c,d],0<=x/\x<100:=λx hx=>by
 have h1:=o.a1;have h2:=o.b1;have h3:=o.c1;have h4:=o.d1;simp only[xc,mf,or_false]at hx;rcases hx with rfl|rfl|rfl|rfl<;>omega
theorem HL(o:RuOk a b c d):yb (Rh a b c d) ⟨#[32]⟩=([toString a,toString b,toString c,toString d]:List ua):=by
 refine Hi 32 ([toString a,toString b,toString c,toString d]:List ua) (by simp) λx hx=>?_;have sm:=o.sm;simp only[xc,mf,or_false]at hx;rcases hx with rfl|rfl|rfl|rfl
 .exact(Gg a (sm a (by simp))).2.2.1
 .exact(Gg b (sm b (by simp))).2.2.1
 .exact(Gg c (sm c (by simp))).2.2.1
 .exact(Gg d (sm d (by simp))).2.2.1
theorem GR(o:RuOk a b c d):Vb [.str (Rh a b c d)]=.ok (.tup [.int a,.int b,.int c,.int d]):=by
 have sm:=o.sm;have l:=(Sj a b c d sm).2;have n:=UH (Rh a b c d) (by omega);rw[HL o]at n
 have i:=Ko [toString a,toString b,toString c,toString d] (by simp);obtain⟨wa,va,_⟩:=Gg a (sm a (by simp));obtain⟨wb,vb,_⟩:=Gg b (sm b (by simp));obtain⟨wc,vc,_⟩:=Gg c (sm c (by simp));obtain⟨wd,vd,_⟩:=Gg d (sm d (by simp));have h1:=o.a1;have h2:=o.b1;have h3:=o.c1;have h4:=o.d1;have al:([toString a,toString b,toString c,toString d]:List ua).all Hs=true:=by simp only[dn,List.all_nil,wa,wb,wc,wd];rfl
 have rb:rB (([toString a,toString b,toString c,toString d]:List ua).map vI)=true:=by
  simp only[db,tf,va,vb,vc,vd];show bnd a b c d=true;unfold bnd;simp only[qf,decide_eq_true_eq];exact⟨⟨⟨h1,h2⟩,h3⟩,h4⟩
 rw[al,rb]at i
 have e:Su [toString a,toString b,toString c,toString d]=.tup [.int a,.int b,.int c,.int d]:=by
  unfold Su;rw[if_pos al];simp only[db,tf,va,vb,vc,vd]
 rw[e]at n i
 exact S5 _ _ n i
theorem Ad(δ:Ha):BC (.nx δ)=.nx δ:=rfl
def Zl(n:Int):List D:= [.tup [.str "row"],.int n]
theorem Nt(n:Int)(h:0<=n/\n<1000):P5 "NoRow" [("row",true)] [.int n]=.ex "NoRow" (Zl n):=by
 unfold P5;rw[if_pos (by show((decide (0<=n)&&decide (n<1000))&&true)=true;rw[decide_eq_true h.1,decide_eq_true h.2];rfl)];rfl
def LB(r:ua):Bool:=wf r "rules "&&((yb (we r (some 6) none) ⟨#[32]⟩).all Hs&&rB ((yb (we r (some 6) none) ⟨#[32]⟩).map vI))
theorem CS(r:ua):Zi (Fc (tR (bM Sl (Ra 0) (Aa (kD (.str "rules ")) Ja)))) [some (.d (.str r))]=.ok (!PySem.Txt.startswith r "rules "):=by
 have:Sl r [.str "rules "]=.ok (.bl (wf r "rules ")):=rfl;simp only[Zi,Fc,tR,bM,kD,Aa,Ja,Ka,Ya,Res.bind_ok,this,Ua,Pc]
theorem Bs(o:RuOk a b c d):Wb [.str (("rules ":ua)++Rh a b c d)]=.ok (.tup [.int a,.int b,.int c,.int d]):=by
 have sm:=o.sm;have l:=(Sj a b c d sm).2;have st:=QF "rules " (Rh a b c d)
 have sl:NL (.str (("rules ":ua)++Rh a b c d)) (some 6) none=.ok (.str (Rh a b c d)):=by
  have:=Uz (("rules ":ua)++Rh a b c d) (some 6) none (by rw[Sb];show 6+_<=1000;omega);rw[this];exact congrArg (λz=>Res.ok (D.str z)) (OL "rules " (Rh a b c d))
 have ln:Gc (.str "rules ")=.ok (.int 6):=Fu "rules " (by decide);have rx:Jg 1 Vb [.str (Rh a b c d)]=.ok (.tup [.int a,.int b,.int c,.int d]):=(if_pos rfl).trans (GR o);have cd:=CS (("rules ":ua)++Rh a b c d);rw[st]at cd
 generalize D.tup [.int a,.int b,.int c,.int d]=T at*;generalize Rh a b c d=y at*
 have tr:Dr ["NoRules"] (Jr (Aa (b3 NL (Ba 0) (b1 Oh (b1 Gc (kD (.str "rules ")))) Se) Ja) 1 Vb []) (λd _=>.rt d) Out.nx (YJ "NoRow" [("row",true)] (Aa (kD (.int 0)) Ja)) [some (.d (.str (("rules ":ua)++y)))]=.rt T:=by
  have:Jr (Aa (b3 NL (Ba 0) (b1 Oh (b1 Gc (kD (.str "rules ")))) Se) Ja) 1 Vb [] [some (.d (.str (("rules ":ua)++y)))]=.ok T:=by
   simp only[Jr,Aa,Ja,b1,b3,kD,Se,Oa,Res.bind_ok,ln,Mf,sl,Ka,Pc,kg,rx]
  unfold Dr;rw[this];rfl
 unfold Wb Kl;show(match Ab _ _ [some (.d (.str (("rules ":ua)++y)))] with| .rt d=>Res.ok d| .nx _=>.ok .non| .ex c fs=>.ex c fs|_=>.stuck)=_;unfold Ab;rw[Uh cd,Ma,tr]
theorem Qx(hr:r.length<=900)(h:LB r=false):∃ fs,Wb [.str r]=.ex "NoRow" fs/\(fs=Zl 0\/fs=.non::Zl 0):=by
 have cd:=CS r;cases st:wf r "rules " with
 |false=>
  rw[st]at cd
  refine⟨Zl 0,?_,.inl rfl⟩;have ra:Og "NoRow" [("row",true)] (Mg (Aa (kD (.int 0)) Ja)) [some (.d (.str r))]=.ex "NoRow" (Zl 0):=Nt 0 (by decide);unfold Wb Kl;show(match Ab _ _ [some (.d (.str r))] with| .rt d=>Res.ok d| .nx _=>.ok .non| .ex c fs=>.ex c fs|_=>.stuck)=_;unfold Ab;rw[sIf_t cd,ra];rfl
 |true=>
  rw[st]at cd
  refine⟨.non::Zl 0,?_,.inr rfl⟩;unfold LB at h;rw[st,Bool.true_and]at h
  have sl:=Uz r (some 6) none (by omega);have yl:(we r (some 6) none).length<=900:=bf (PySem.Txt.slice_le r _ _) hr;generalize we r (some 6) none=y at*;have nn:=UH y yl
  have cnt:(yb y ⟨#[32]⟩).length<=1000:=by
   have:=PL y 32;omega
  have ir:=Ko (yb y ⟨#[32]⟩) cnt;rw[h]at ir
  have rd:=R5 _ _ nn ir;have ln:Gc (.str "rules ")=.ok (.int 6):=Fu "rules " (by decide);have rx:Jg 1 Vb [.str y]=.ex "NoRules" []:=(if_pos rfl).trans rd
  have tr:Dr ["NoRules"] (Jr (Aa (b3 NL (Ba 0) (b1 Oh (b1 Gc (kD (.str "rules ")))) Se) Ja) 1 Vb []) (λd _=>.rt d) Out.nx (YJ "NoRow" [("row",true)] (Aa (kD (.int 0)) Ja)) [some (.d (.str r))]=.ex "NoRow" (.non::Zl 0):=by
   have:Jr (Aa (b3 NL (Ba 0) (b1 Oh (b1 Gc (kD (.str "rules ")))) Se) Ja) 1 Vb [] [some (.d (.str r))]=.ex "NoRules" []:=by
    simp only[Jr,Aa,Ja,b1,b3,kD,Se,Oa,Res.bind_ok,ln,Mf,sl,Ka,Pc,kg,rx]
   unfold Dr;rw[this];rfl
  unfold Wb Kl;show(match Ab _ _ [some (.d (.str r))] with| .rt d=>Res.ok d| .nx _=>.ok .non| .ex c fs=>.ex c fs|_=>.stuck)=_;unfold Ab;rw[Uh cd,Ma,tr]
variable{body:Ha->Out}{ds:List D}{δ':Ha}
theorem EE{t:D->Ha->Res Ha}{d:D}{δ2:Ha}(h:t d δ= .ok δ')(h2:body δ'=.nx δ2):Te t body (d::ds) δ=Te t body ds δ2:=by rw[Rk d ds δ δ' h,h2]
variable{c:Nat}
theorem Pr(h:Gd x)(hc:c∉WV):c∉x.cps.toList:=λz=>hc (h.2.1 c z)
def PrG(p:ua×List ua):Prop:=Gd p.1/\p.2≠ []/\p.2.length<=6/\(∀ w∈p.2,Gd w)/\p.2.Nodup
theorem PrG.ok{p:ua×List ua}(h:PrG p):Zx p:=⟨by have:=h.1.1;omega,h.2.1,h.2.2.1,λw hw=>by have:=(h.2.2.2.1 w hw).1;omega⟩
theorem MD(W:List ua)(i:Nat)(x:ua)(h:W[i]? =some x):Xc (.lst (W.map D.str)) (.int (i:Int))=.ok (.str x):=RB _ _ _ (Bn (by omega) (by rw[show((i:Int)).toNat=i by omega,wg,h];rfl))
theorem Yt(x:ua):(("door ":ua)++x)=zb ⟨#[32]⟩ ["door",x]:=by
 refine Jq ?_;rw[show zb ⟨#[32]⟩ ["door",x]=vj ⟨#[32]⟩ ["door",x] from bg _ _,Lg,vf,dh];rfl
variable{k:ua}
theorem Vr(h:k="door"\/k="wing"\/k="key"\/k="="\/k="opens"):32∉k.cps.toList/\10∉k.cps.toList/\k.length<=10:=by
 rcases h with rfl|rfl|rfl|rfl|rfl<;>decide +kernel
theorem Zt(h:Gd x):Ig (("door ":ua)++x) [.str " "]=.ok ((["door",x]:List ua).map D.str):=by
 have l:(("door ":ua)++x).length<=900:=by rw[Sb];have:=h.1;show 5+_<=900;omega
 have:=Jj _ 32 l
 rw[Yt,Hi 32 (["door",x]:List ua) (by simp) (λy hy=>by
  simp only[xc,mf,or_false]at hy;rcases hy with rfl|rfl
  .exact(Vr (.inl rfl)).1
  .exact Pr h (by decide))]at this
 rw[Yt];exact this
theorem Ck{p:ua×List ua}(h:PrG p)(hk:k="wing"\/k="key")(hl:l="="\/l="opens"):Ig (He k l p) [.str " "]=.ok ((k::p.1::l::p.2).map D.str):=by
 have k1:=Vr (k:=k) (by rcases hk with rfl|rfl<;>simp);have l1:=Vr (k:=l) (by rcases hl with rfl|rfl<;>simp);have ln:=Fq k l p h.ok k1.2.2 l1.2.2;have:=Jj (He k l p) 32 (by omega);unfold He at this ⊢
 rw[Hi 32 (k::p.1::l::p.2) (by simp) (λy hy=>by
  rcases xc.mp hy with rfl|hy
  .exact k1.1
  .rcases xc.mp hy with rfl|hy
   .exact Pr h.1 (by decide)
   .rcases xc.mp hy with rfl|hy
    .exact l1.1
    .exact Pr (h.2.2.2.1 y hy) (by decide))]at this
 exact this
theorem Ov(h:Gd x):Pa 1 Ec [.lst ((["door",x]:List ua).map D.str)]=.ok (.str x):=by
 have e1:=MD ["door",x] 0 "door" rfl;have e2:=MD ["door",x] 1 x rfl;have e3:Gc (.lst ((["door",x]:List ua).map D.str))=.ok (.int 2):=by rw[Zd];rfl
 have e4:=Bz x h;have e5:Kd (.str "door") (.str "door")=.ok (.bl true):=by rw[J8];simp
 generalize D.lst ((["door",x]:List ua).map D.str)=W at*;have e1':Xc W (.int 0)=.ok (.str "door"):=e1;have e2':Xc W (.int 1)=.ok (.str x):=e2;refine Za _ _ _ _ ?_ rfl;unfold Ec Ll;rw[Nb];show Np (Ab _ _ [some (.d W)])=_;unfold Ab;rw[sIf_t (by simp only[tR,b2,kD,Oa,Res.bind_ok,e1',e5,Ua])];have e6:Kd (.int 2) (.int 2)=.ok (.bl true):=by rw[Yi];rfl
 simp only[Gb,UT,Vj,tR,b1,b2,kD,Aa,Ja,Ka,Oa,Res.bind_ok,e3,e6,e2',e4,Ua,Cj,if_true,Wa,Je,Tb]
theorem PD(l:List α):Qb (l.map λ_=>D.bl true)=some (l.map λ_=>true):=by
 induction l with
 |nil=>rfl
 |cons a l ih=>show(Qb (l.map λ_=>D.bl true)).map _=_;rw[ih];rfl
theorem HB:∀ (ns σ:List ua),(σ++ns).Nodup->ns.foldl JT σ=σ++ns
 | [],σ,_=>by simp
 |n::ns,σ,h=>by
  have hn:n∉σ:=λz=>(List.nodup_append.mp h).2.2 n z n kc rfl;rw[Op,JT,if_neg hn,HB ns (σ++ [n]) (by rw[xg];exact h),xg];rfl
variable{ms:List ua}
theorem AM(g:∀ w∈ms,Gd w)(nd:ms.Nodup)(hl:ms.length<=6):Pa 1 Ac [.lst (ms.map D.str)]=.ok (.bl true):=by
 have cm:Lf 1 (Cc 0) (λ_=>.ok true) Zb [some (.d (.lst (ms.map D.str)))] (ms.map D.str)=.ok (ms.map λ_=>D.bl true):=by
  refine Nd ?_ (by rw[Db];omega)
  have:=Ke (fe:=Zb) (λ_=>D.bl true) [some (.d (.lst (ms.map D.str)))] (ms.map D.str) none (λx hx=>by
   obtain⟨w,hw,rfl⟩:=lj.mp hx;have e:=Bz w (g w hw);unfold Zb
   simp only[b1,Aa,Ja,Ka,Ya,Res.bind_ok,e])
  rw[gl]at this
  exact this
 have al:To (.lst (ms.map λ_=>D.bl true))=.ok (.bl true):=by
  unfold To;dsimp only;rw[PD];dsimp only;congr 2;rw[all_map,yi];exact λ_ _=>rfl
 have ls:Gu (.lst (ms.map D.str))=.ok (.int (ms.length:Int)):=by
  unfold Gu;simp only[Ii];rw[if_pos (by omega),show Ts ms=ms from HB ms [] nd]
 have ln:Gc (.lst (ms.map D.str))=.ok (.int (ms.length:Int)):=by rw[Zd,Db]
 have ee:Kd (.int (ms.length:Int)) (.int (ms.length:Int))=.ok (.bl true):=by rw[Yi];simp
 have sq:Gi (.lst (ms.map D.str))=.ok (ms.map D.str):=rfl;refine Za _ _ _ _ ?_ rfl;generalize (ms.map λ_=>D.bl true)=BT at*;generalize ms.map D.str=M at*;unfold Ac Rg;rw[Nb];show Np (Gb _ [some (.d (.lst M))])=_;simp only[Gb,Ek,Bd,Qc,b1,b2,Ya,Oa,Res.bind_ok,sq,cm,al,ls,ln,ee,Li,if_true,Wa,Tb]
theorem Rn{p:ua×List ua}(h:PrG p)(hk:(k="wing"/\l="=")\/(k="key"/\l="opens")):Pa 1 Ec [.lst ((k::p.1::l::p.2).map D.str)]=.ok (Ed p):=by
 have pl:0<p.2.length:=qq.mpr h.2.1;have e0:=MD (k::p.1::l::p.2) 0 k rfl;have e1:=MD (k::p.1::l::p.2) 1 p.1 rfl;have e2:=MD (k::p.1::l::p.2) 2 l rfl;have ln:Gc (.lst ((k::p.1::l::p.2).map D.str))=.ok (.int ((p.2.length:Int)+3)):=by rw[Zd,Db];rfl
 have sl:FD (.lst ((k::p.1::l::p.2).map D.str)) (some 3) none=.ok (p.2.map D.str):=by
  rw[II,Oy];congr 2;rw[sIx_nat _ _ 3 (by decide)];show take _ (List.drop (min 3 _) (k::p.1::l::p.2))=_;rw[vv (by simp)];show take _ p.2=_;refine uj ?_;show _<=HT.sIx _ (k::p.1::l::p.2).length none-_;show p.2.length<=(k::p.1::l::p.2).length-3;simp
 have nm:=Bz p.1 h.1;have un:=AM h.2.2.2.1 h.2.2.2.2 h.2.2.1
 have ek:Kd (.str k) (.str "door")=.ok (.bl false):=by
  rw[J8];rcases hk with⟨rfl,_⟩|⟨rfl,_⟩<;>(congr 2)
 have nt:Pu (α:=ua) [("wing","="),("key","opens")] (.str k)=.ok (.bl false):=by
  rcases hk with⟨rfl,_⟩|⟨rfl,_⟩<;>rfl
 have tg:Hr D.str [("wing","="),("key","opens")] (.str k)=.ok (.str l):=by
  rcases hk with⟨rfl,rfl⟩|⟨rfl,rfl⟩<;>rfl
 have nl:Nu (.str l) (.str l)=.ok (.bl false):=by rw[neS];simp
 have lt:NT (.int ((p.2.length:Int)+3)) (.int 4)=.ok (.bl false):=by rw[Mm,decide_eq_false (by omega)]
 have pr:Ed p=.tup [.str p.1,.lst (p.2.map D.str)]:=rfl;rw[pr];generalize D.lst ((k::p.1::l::p.2).map D.str)=W at*;generalize p.2.map D.str=M at*;have e0':Xc W (.int 0)=.ok (.str k):=e0;have e1':Xc W (.int 1)=.ok (.str p.1):=e1;have e2':Xc W (.int 2)=.ok (.str l):=e2;refine Za _ _ _ _ ?_ rfl;unfold Ec Ll;rw[Nb];show Np (Ab _ _ [some (.d W)])=_;unfold Ab
 rw[Uh (by simp only[tR,b2,kD,Oa,Res.bind_ok,e0',ek,Ua]),Ma,Uh (by
  simp only[Fe,tR,b1,b2,kD,Oa,Res.bind_ok,e0',e2',nt,ln,lt,tg,nl,Ua,Qd,Sc,if_false]),Ma,Uh (by
  simp only[Fe,Fc,tR,b1,b2,b3,kD,Bd,Se,Aa,Ja,Ka,Oa,Res.bind_ok,e1',nm,Mf,sl,un,Ua,Qd,jf,Sc,if_false]),Ma]
 simp only[Gb,b1,b2,b3,kD,Bd,Se,Ys,Aa,Ja,Ka,Oa,Res.bind_ok,e1',Mf,sl,ba,lc,ae,pf,if_true,Wa,Tb]
def X8(k:ua):ua:=if k="wing" then "=" else "opens"
def BU:List ua->Bool
 | []=>false
 |k::r=>if k="door" then !(decide (r.length=1)&&Nh (r.headD "")) else if k="wing"\/k="key" then(decide (r.length<3)|| !decide (r.getD 1 ""=X8 k)|| !Nh (r.headD "")|| !((r.drop 2).all Nh&&decide ((Ts (r.drop 2)).length=(r.drop 2).length))) else true
theorem Qw(g:α->Bool)(l:List α):Qb (l.map λx=>D.bl (g x))=some (l.map g):=by
 induction l with
 |nil=>rfl
 |cons a l ih=>show(Qb (l.map λx=>D.bl (g x))).map _=_;rw[ih];rfl
theorem FG(g:∀ w∈ms,w.length<=1000)(hl:ms.length<60):Pa 1 Ac [.lst (ms.map D.str)]=.ok (.bl (ms.all Nh&&decide ((Ts ms).length=ms.length))):=by
 have cm:Lf 1 (Cc 0) (λ_=>.ok true) Zb [some (.d (.lst (ms.map D.str)))] (ms.map D.str)=.ok (ms.map λw=>D.bl (Nh w)):=by
  refine Nd ?_ (by rw[Db];omega)
  have:=Ke (fe:=Zb) (λx=>match x with| .str w=>D.bl (Nh w)|_=>.non) [some (.d (.lst (ms.map D.str)))] (ms.map D.str) none (λx hx=>by
   obtain⟨w,hw,rfl⟩:=lj.mp hx;have e:=Kt w (g w hw);unfold Zb
   simp only[b1,Aa,Ja,Ka,Ya,Res.bind_ok,e])
  rw[gl]at this
  exact this
 have al:To (.lst (ms.map λw=>D.bl (Nh w)))=.ok (.bl (ms.all Nh)):=by
  unfold To;dsimp only;rw[Qw];dsimp only;rw[all_map];rfl
 have ls:Gu (.lst (ms.map D.str))=.ok (.int ((Ts ms).length:Int)):=by
  unfold Gu;simp only[Ii];rw[if_pos (by omega)]
 have ln:Gc (.lst (ms.map D.str))=.ok (.int (ms.length:Int)):=by rw[Zd,Db]
 have ee:Kd (.int ((Ts ms).length:Int)) (.int (ms.length:Int))=.ok (.bl (decide ((Ts ms).length=ms.length))):=by
  rw[Yi];congr 2;rw[sg,beq_iff_eq,decide_eq_true_eq];omega
 have sq:Gi (.lst (ms.map D.str))=.ok (ms.map D.str):=rfl;refine Za _ _ _ _ ?_ rfl;generalize (ms.map λw=>D.bl (Nh w))=BT at*;generalize ms.map D.str=M at*;generalize ms.all Nh=a1 at*;generalize decide ((Ts ms).length=ms.length)=a2 at*;unfold Ac Rg;rw[Nb];show Np (Gb _ [some (.d (.lst M))])=_;simp only[Gb,Ek,Bd,Qc,b1,b2,Ya,Oa,Res.bind_ok,sq,cm,al,ls,ln,ee,Li,Wa,Tb];cases a1<;>rfl
theorem ML(W:List ua):FD (.lst (W.map D.str)) (some 3) none=.ok ((W.drop 3).map D.str):=by
 rw[II,Oy];congr 2;rw[sIx_nat _ _ 3 (by decide)];show take (W.length-min 3 W.length) (List.drop (min 3 _) W)=_;by_cases h:3<=W.length
 .rw[vv h];exact uj (by rw[iu];exact Uf _)
 .rw[Nat.min_eq_right (by omega),jv (Uf _),jv (by omega)];simp
theorem TL{W:List ua}(hb:BU W=true)(hl:W.length<60)(hw:∀ w∈W,w.length<=1000):Pa 1 Ec [.lst (W.map D.str)]=.ok .non:=by
 cases W with
 |nil=>cases hb
 |cons k r=>
  have e0:=MD (k::r) 0 k rfl;have ln:Gc (.lst ((k::r).map D.str))=.ok (.int ((r.length:Int)+1)):=by rw[Zd,Db];rfl
  have e1:∀ x,r[0]? =some x->Xc (.lst ((k::r).map D.str)) (.int 1)=.ok (.str x):=λx h=>MD (k::r) 1 x (by simpa using h);have e2:∀ x,r[1]? =some x->Xc (.lst ((k::r).map D.str)) (.int 2)=.ok (.str x):=λx h=>MD (k::r) 2 x (by simpa using h);have sl:=ML (k::r);have un:=FG (ms:=(k::r).drop 3) (λw h=>hw w (List.mem_of_mem_drop h)) (by rw[iu];omega);have dr:(k::r).drop 3=r.drop 2:=rfl;rw[dr]at sl un
  have wr:∀ w∈r,w.length<=1000:=λw h=>hw w (ib _ h);have e0':Xc (.lst ((k::r).map D.str)) (.int 0)=.ok (.str k):=e0;generalize D.lst ((k::r).map D.str)=WL at*;unfold BU at hb;dsimp only at hb;refine Za _ _ _ _ ?_ rfl;unfold Ec Ll;rw[Nb];show Np (Ab _ _ [some (.d WL)])=_;unfold Ab;have ek:=J8 k "door";by_cases hk:k="door"
  .rw[if_pos hk]at hb
   rw[decide_eq_true hk]at ek
   rw[sIf_t (by simp only[tR,b2,kD,Oa,Res.bind_ok,e0',ek,Ua])]
   have el:Kd (.int ((r.length:Int)+1)) (.int 2)=.ok (.bl (decide (r.length=1))):=by
    rw[Yi];congr 2;rw[sg,beq_iff_eq,decide_eq_true_eq];omega
   by_cases h1:r.length=1
   .obtain⟨x,rfl⟩:∃ x,r= [x]:=List.length_eq_one_iff.mp h1;have nb:Nh x=false:=by simpa using hb
    have nx:=Kt x (wr x (by simp));rw[nb]at nx
    have e1':=e1 x rfl;rw[decide_eq_true h1]at el
    simp only[Gb,UT,Vj,tR,b1,b2,kD,Aa,Ja,Ka,Oa,Res.bind_ok,ln,el,e1',nx,Ua,Cj,if_true,Sc,if_false,Wa,Je,Tb]
   .rw[decide_eq_false h1]at el
    simp only[Gb,UT,Vj,tR,b1,b2,kD,Oa,Res.bind_ok,ln,el,Ua,Cj,Sc,if_false,Wa,Je,Tb]
  .rw[if_neg hk]at hb
   rw[decide_eq_false hk]at ek
   rw[Uh (by simp only[tR,b2,kD,Oa,Res.bind_ok,e0',ek,Ua]),Ma];by_cases h2:k="wing"\/k="key"
   .rw[if_pos h2]at hb
    have nt:Pu (α:=ua) [("wing","="),("key","opens")] (.str k)=.ok (.bl false):=by rcases h2 with rfl|rfl<;>rfl
    have tg:Hr D.str [("wing","="),("key","opens")] (.str k)=.ok (.str (X8 k)):=by rcases h2 with rfl|rfl<;>rfl
    have lt:NT (.int ((r.length:Int)+1)) (.int 4)=.ok (.bl (decide (r.length<3))):=by
     rw[Mm];congr 2;rw[sg,decide_eq_true_eq,decide_eq_true_eq];omega
    by_cases h3:r.length<3
    .rw[decide_eq_true h3]at lt
     rw[sIf_t (by simp only[Fe,tR,b1,b2,kD,Oa,Res.bind_ok,e0',nt,ln,lt,Ua,Qd,Sc,if_false,if_true])];rfl
    .rw[decide_eq_false h3]at lt hb
     obtain⟨x,y,r',rfl⟩:∃ x y r',r=x::y::r':=by
      match r,h3 with
      |x::y::r',_=>exact⟨x,y,r',rfl⟩
      | [x],h=>exact absurd (by simp:([x]:List ua).length<3) h
      | [],h=>exact absurd (by simp:([]:List ua).length<3) h
     have e1':=e1 x rfl;have e2':=e2 y rfl;have nl:=neS y (X8 k);have nx:=Kt x (wr x (by simp));by_cases h4:y=X8 k
     .rw[decide_eq_true h4]at nl
      rw[Uh (by simp only[Fe,tR,b1,b2,kD,Oa,Res.bind_ok,e0',e2',nt,ln,lt,tg,nl,Ua,Qd,jf,Sc,if_false]),Ma]
      have hb':(!Nh x|| !((r'.all Nh)&&decide ((Ts r').length=r'.length)))=true:=by
       have:(x::y::r').getD 1 ""=X8 k:=h4;rw[decide_eq_true this]at hb
       simpa using hb
      cases hx:Nh x with
      |false=>
       rw[hx]at nx
       rw[sIf_t (by simp only[Fe,Fc,tR,b1,b2,kD,Aa,Ja,Ka,Oa,Res.bind_ok,e1',nx,Ua,Qd,vh,if_true])];rfl
      |true=>
       rw[hx]at nx hb'
       have dr2:(x::y::r').drop 2=r':=rfl;rw[dr2]at un sl
       have ub:(r'.all Nh&&decide ((Ts r').length=r'.length))=false:=by
        cases hq:(r'.all Nh&&decide ((Ts r').length=r'.length)) with
        |false=>rfl
        |true=>rw[hq]at hb';cases hb'
       rw[ub]at un
       rw[sIf_t (by simp only[Fe,Fc,tR,b1,b2,b3,kD,Bd,Se,Aa,Ja,Ka,Oa,Res.bind_ok,e1',nx,Mf,sl,un,Ua,Qd,jf,vh,Sc,if_false,if_true])];rfl
     .rw[decide_eq_false h4]at nl
      rw[sIf_t (by simp only[Fe,tR,b1,b2,kD,Oa,Res.bind_ok,e0',e2',nt,ln,lt,tg,nl,Ua,Qd,vh,Sc,if_false,if_true])];rfl
   .have h5:¬ k="wing":=λz=>h2 (.inl z);have h6:¬ k="key":=λz=>h2 (.inr z)
    have nt:Pu (α:=ua) [("wing","="),("key","opens")] (.str k)=.ok (.bl true):=by
     show Res.ok (D.bl (!(ul k [(("wing":ua),("=":ua)),("key","opens")]).isSome))=_;rw[sf,beq_eq_false_iff_ne.mpr h5];dsimp only;rw[sf,beq_eq_false_iff_ne.mpr h6];rfl
    rw[sIf_t (by simp only[Fe,tR,b1,b2,kD,Oa,Res.bind_ok,e0',nt,Ua,Qd,if_true])];rfl
abbrev KS:List Jd:= [.inr "door",.inr "wing",.inr "key"]
def tbC(A B C:List D):List (Jd×D):= [(.inr "door",.lst A),(.inr "wing",.lst B),(.inr "key",.lst C)]
theorem Dl(ks:List Jd)(ds:List D)(r:Ha):Eg 0 (some (.d (.dct ks ds))::r)=.ok (ks.zip ds):=by simp[Eg]
theorem Pt(n:Nat)(a:Option S)(r:Ha):Eg (n+1) (a::r)=Eg n r:=by simp[Eg]
abbrev Oi(A B C:List D):D:=.dct KS [.lst A,.lst B,.lst C]
theorem El{W:List D}(h:Ig z [.str y]=.ok W):Jf z [.str y]=.ok W:=by
 unfold Ig at h;dsimp only at h;split at h
 .rename_i c;unfold Jf;dsimp only;rw[if_pos ⟨c.1,by have:=c.2.1;omega,c.2.2⟩];exact h
 .cases h
theorem BG(Tx Rw Ru pl:D)(A B C:List D)(r k:ua)(W:List D)(d:D)(j:Nat)(L:List D)(x6 x7:Option S)(e1':Ig r [.str " "]=.ok W)(e2:Xc (.lst W) (.int 0)=.ok (.str k))(e3:Pa 1 Ec [.lst W]=.ok d)(e4:Qp d=.ok (.bl false))(e5:Pa 2 Mb [Oi A B C,.str k]=.ok (.bl true))(e6:F3 KS (.inr k)=some j)(e7: [Ch.l A,.l B,.l C][j]? =some (.l L))(e8:L.length<=100000):
  Cb [some (.d Tx),some (.d Rw),some (.d Ru),some (.k (.dct KS) [.l A,.l B,.l C]),some (.d pl),some (.d (.str r)),x6,x7]=.nx [some (.d Tx),some (.d Rw),some (.d Ru),some (.k (.dct KS) ([Ch.l A,.l B,.l C].set j (.l (L++ [d])))),some (.d pl),some (.d (.str r)),some (.d (.lst W)),some (.d d)]:=by
 have e1:=El e1'
 have w6:Rb 6 (Bd (bM Jf (Ra 5) (Aa (kD (.str " ")) Ja))) [some (.d Tx),some (.d Rw),some (.d Ru),some (.k (.dct KS) [.l A,.l B,.l C]),some (.d pl),some (.d (.str r)),x6,x7]=.nx [some (.d Tx),some (.d Rw),some (.d Ru),some (.k (.dct KS) [.l A,.l B,.l C]),some (.d pl),some (.d (.str r)),some (.d (.lst W)),x7]:=by
  simp only[Rb,Bd,bM,kD,Aa,Ja,Ka,Ya,Ob,Res.bind_ok,e1,Wa,ac,bc]
 have w7:Rb 7 (b1 (Pa 1 Ec) (Aa (Ra 6) Ja)) [some (.d Tx),some (.d Rw),some (.d Ru),some (.k (.dct KS) [.l A,.l B,.l C]),some (.d pl),some (.d (.str r)),some (.d (.lst W)),x7]=.nx [some (.d Tx),some (.d Rw),some (.d Ru),some (.k (.dct KS) [.l A,.l B,.l C]),some (.d pl),some (.d (.str r)),some (.d (.lst W)),some (.d d)]:=by
  simp only[Rb,b1,Aa,Ja,Ka,Ya,Ob,Res.bind_ok,e3,Wa,ac,bc]
 have vw:Pq 3 (b1 (Pa 2 Mb) (Aa (Ra 3) (Aa (b2 Xc (Ba 6) (kD (.int 0))) Ja))) [some (.d Tx),some (.d Rw),some (.d Ru),some (.k (.dct KS) [.l A,.l B,.l C]),some (.d pl),some (.d (.str r)),some (.d (.lst W)),some (.d d)]=.ok (.bl true):=by
  have:(b1 (Pa 2 Mb) (Aa (Ra 3) (Aa (b2 Xc (Ba 6) (kD (.int 0))) Ja))) [some (.d Tx),some (.d Rw),some (.d Ru),some (.d (Oi A B C)),some (.d pl),some (.d (.str r)),some (.d (.lst W)),some (.d d)]=.ok (.bl true):=by
   simp only[b1,b2,kD,Aa,Ja,Ka,Ya,Ob,Oa,Bb,Res.bind_ok,e2,e5]
  show(match (b1 (Pa 2 Mb) (Aa (Ra 3) (Aa (b2 Xc (Ba 6) (kD (.int 0))) Ja))) [some (.d Tx),some (.d Rw),some (.d Ru),some (.d (Oi A B C)),some (.d pl),some (.d (.str r)),some (.d (.lst W)),some (.d d)] with
   | .ok x=>if Qf x=true then Res.ok x else .stuck
   |_=>.stuck)=_
  rw[this];rfl
 have cd:Fe (tR (b1 Qp (Ba 7))) (Fc (tR (Pq 3 (b1 (Pa 2 Mb) (Aa (Ra 3) (Aa (b2 Xc (Ba 6) (kD (.int 0))) Ja)))))) [some (.d Tx),some (.d Rw),some (.d Ru),some (.k (.dct KS) [.l A,.l B,.l C]),some (.d pl),some (.d (.str r)),some (.d (.lst W)),some (.d d)]=.ok false:=by
  simp only[Fe,Fc,tR,b1,Oa,Bb,Res.bind_ok,e4,vw,Ua,Qd,jf,Sc,if_false]
 have ap:FI 3 (b2 Xc (Ba 6) (kD (.int 0))) (Ra 7) [some (.d Tx),some (.d Rw),some (.d Ru),some (.k (.dct KS) [.l A,.l B,.l C]),some (.d pl),some (.d (.str r)),some (.d (.lst W)),some (.d d)]=.nx [some (.d Tx),some (.d Rw),some (.d Ru),some (.k (.dct KS) ([Ch.l A,.l B,.l C].set j (.l (L++ [d])))),some (.d pl),some (.d (.str r)),some (.d (.lst W)),some (.d d)]:=by
  have i0:(b2 Xc (Ba 6) (kD (.int 0))) [some (.d Tx),some (.d Rw),some (.d Ru),some (.k (.dct KS) [.l A,.l B,.l C]),some (.d pl),some (.d (.str r)),some (.d (.lst W)),some (.d d)]=.ok (.str k):=by
   simp only[b2,kD,Oa,Bb,Res.bind_ok,e2]
  show Pm ((b2 Xc (Ba 6) (kD (.int 0))) _) (U7 3 (Ra 7) _ KS [.l A,.l B,.l C])=_;rw[i0];show U7 3 (Ra 7) _ KS [.l A,.l B,.l C] (.str k)=_;unfold U7;show(match F3 KS (.inr k) with|some j=>_|none=>Out.stuck)=_;rw[e6];dsimp only;rw[e7];dsimp only;rw[if_pos e8];rfl
 have cd':Zi (Fe (tR (b1 Qp (Ba 7))) (Fc (tR (Pq 3 (b1 (Pa 2 Mb) (Aa (Ra 3) (Aa (b2 Xc (Ba 6) (kD (.int 0))) Ja))))))) [some (.d Tx),some (.d Rw),some (.d Ru),some (.k (.dct KS) [.l A,.l B,.l C]),some (.d pl),some (.d (.str r)),some (.d (.lst W)),some (.d d)]=.ok false:=by unfold Zi;rw[cd];rfl
 unfold Cb Ab Nm;rw[w6,Ad,Ma,w7,Ad,Ma,Uh cd',Ma,ap,Ad]
theorem HS(Tx Rw Ru T3:D)(n:Nat)(hn:n<1000)(cs:Option S)(r:ua)(W:List D)(x6 x7:Option S)(e1':Ig r [.str " "]=.ok W)(e3:Pa 1 Ec [.lst W]=.ok .non):
  Cb [some (.d Tx),some (.d Rw),some (.d Ru),cs,some (.d (.int (n:Int))),some (.d (.str r)),x6,x7]=.ex "NoRow" (Zl (n:Int)):=by
 have e1:=El e1'
 have w6:Rb 6 (Bd (bM Jf (Ra 5) (Aa (kD (.str " ")) Ja))) [some (.d Tx),some (.d Rw),some (.d Ru),cs,some (.d (.int (n:Int))),some (.d (.str r)),x6,x7]=.nx [some (.d Tx),some (.d Rw),some (.d Ru),cs,some (.d (.int (n:Int))),some (.d (.str r)),some (.d (.lst W)),x7]:=by
  simp only[Rb,Bd,bM,kD,Aa,Ja,Ka,Ya,Ob,Res.bind_ok,e1,Wa,ac,bc]
 have w7:Rb 7 (b1 (Pa 1 Ec) (Aa (Ra 6) Ja)) [some (.d Tx),some (.d Rw),some (.d Ru),cs,some (.d (.int (n:Int))),some (.d (.str r)),some (.d (.lst W)),x7]=.nx [some (.d Tx),some (.d Rw),some (.d Ru),cs,some (.d (.int (n:Int))),some (.d (.str r)),some (.d (.lst W)),some (.d .non)]:=by
  simp only[Rb,b1,Aa,Ja,Ka,Ya,Ob,Res.bind_ok,e3,Wa,ac,bc]
 have cd:Zi (Fe (tR (b1 Qp (Ba 7))) (Fc (tR (Pq 3 (b1 (Pa 2 Mb) (Aa (Ra 3) (Aa (b2 Xc (Ba 6) (kD (.int 0))) Ja))))))) [some (.d Tx),some (.d Rw),some (.d Ru),cs,some (.d (.int (n:Int))),some (.d (.str r)),some (.d (.lst W)),some (.d .non)]=.ok true:=by
  have i:Qp .non=.ok (.bl true):=rfl;simp only[Zi,Fe,tR,b1,Oa,Bb,Res.bind_ok,i,Ua,Qd,if_true,Pc]
 have ra:Og "NoRow" [("row",true)] (Mg (Aa (Ra 4) Ja)) [some (.d Tx),some (.d Rw),some (.d Ru),cs,some (.d (.int (n:Int))),some (.d (.str r)),some (.d (.lst W)),some (.d .non)]=.ex "NoRow" (Zl (n:Int)):=by
  have:=Nt (n:Int) (by omega);simp only[Og,Mg,Aa,Ja,Ka,Ya,Ob,Res.bind_ok,Pc,Wa,this]
 unfold Cb Ab Nm;rw[w6,Ad,Ma,w7,Ad,Ma,sIf_t cd,ra];rfl
abbrev Rv(Tx Rw Ru:D)(A B C:List D)(x4 x5 x6 x7:Option S):Ha:= [some (.d Tx),some (.d Rw),some (.d Ru),some (.k (.dct KS) [.l A,.l B,.l C]),x4,x5,x6,x7]
abbrev NI:D->Ha->Res Ha:=Gs 2 (Ji (Cc 4) (Ji (Cc 5) Fs))
theorem NH(x:ua):Qp (.str x)=.ok (.bl false):=rfl
theorem Zy(p:ua×List ua):Qp (Ed p)=.ok (.bl false):=rfl
theorem Ht(hc:c≠32){xs:List ua}(h:∀ x∈xs,c∉x.cps.toList):c∉(zb ⟨#[32]⟩ xs).cps.toList:=by
 rw[show zb ⟨#[32]⟩ xs=vj ⟨#[32]⟩ xs from bg _ _,Lg];intro z;rcases FP 32 c z with z|⟨y,hy,z⟩
 .exact hc z
 .obtain⟨x,hx,rfl⟩:=lj.mp hy;exact h x hx z
theorem HD{rows:List ua}(h2:2<=rows.length)(hn:rows.length<=1000)(hl:(rows.map (·.length)).sum+rows.length<=100000)(hf:∀ x∈rows,10∉x.cps.toList):Jf (zb ⟨#[10]⟩ rows) [.str ⟨#[10]⟩]=.ok (rows.map D.str):=by
 have sj:=Hi 10 rows (λz=>by rw[z]at h2;simp at h2) hf;have zl:=bf (Up 10 rows) hl;generalize zb ⟨#[10]⟩ rows=z at*
 have ps:(PySem.Builtin.Str.partsBetween z (PySem.Builtin.Str.occurrences z ⟨#[10]⟩ 0 z.length (z.length+1)) (⟨#[10]⟩:ua).length).length<=1000:=by
  have sj':=sj;unfold yb at sj';split at sj'
  .rw[<-sj']at h2;simp at h2
  .split at sj'
   .rw[<-sj']at h2;simp at h2
   .rw[sj'];exact hn
 unfold Jf;dsimp only;rw[if_pos ⟨rfl,zl,ps⟩,sj]
theorem Vx(r:ua)(rest:List ua):FD (.lst ((r::rest).map D.str)) (some 1) none=.ok (rest.map D.str):=by
 rw[II,Oy];congr 2;rw[sIx_nat _ _ 1 (by decide)];show take _ (List.drop (min 1 _) (r::rest))=_;rw[vv (by simp)];show take _ rest=_;refine uj ?_;show rest.length<=(r::rest).length-1;simp
theorem Uy{t:D->Ha->Res Ha}{d:D}{c:ua}{fs:List D}(h:t d δ= .ok δ')(h2:body δ'=.ex c fs):Te t body (d::ds) δ= .ex c fs:=by rw[Rk d ds δ δ' h,h2]
variable{r0:ua}{RW:List D}
theorem CI(sp:Jf z [.str "\n"]=.ok RW)(i0:Xc (.lst RW) (.int 0)=.ok (.str r0)):
  (∀ fs,Wb [.str r0]=.ex "NoRow" fs->Fb [.str z]=.ex "NoRow" fs)/\
  ∀ (R:D) (RS:List D),Wb [.str r0]=.ok R->FD (.lst RW) (some 1) none=.ok RS->
   (∀ fs,Te NI Cb (Of 1 RS) (Rv (.str z) (.lst RW) R [] [] [] none none none none)=.ex "NoRow" fs->Fb [.str z]=.ex "NoRow" fs)/\
   ∀ (A B C:List D) (w4 w5 w6 w7:Option S) (HH:D),Te NI Cb (Of 1 RS) (Rv (.str z) (.lst RW) R [] [] [] none none none none)=.nx (Rv (.str z) (.lst RW) R A B C w4 w5 w6 w7)->A≠ []->Pa 4 (Ju 4 "House" Qi) [R,.lst A,.lst B,.lst C]=.ok HH->Fb [.str z]=.ok HH:=by
 have isS':We "str" (.str z)=.ok (.bl true):=by rw[Jm _ (by simp[Yz])];rfl
 have q0:Zi (Fc (tR (b1 (We "str") (Ba 0)))) [some (.d (.str z)),none,none,none,none,none,none,none]=.ok false:=by
  simp only[Zi,Fc,tR,b1,Oa,Res.bind_ok,isS',Ua,jf,Pc]
 have q1:Rb 1 (Bd (bM Jf (Ra 0) (Aa (kD (.str "\n")) Ja))) [some (.d (.str z)),none,none,none,none,none,none,none]=.nx [some (.d (.str z)),some (.d (.lst RW)),none,none,none,none,none,none]:=by
  simp only[Rb,Bd,bM,kD,Aa,Ja,Ka,Ya,Res.bind_ok,sp,Wa,ac,bc]
 refine⟨λfs rx=>?_,λR RS rx s1=>?_⟩
 .have cx:Jg 1 Wb [.str r0]=.ex "NoRow" fs:=(if_pos rfl).trans rx
  have q2:Rb 2 (b1 (Jg 1 Wb) (Mg (Aa (b2 Xc (Ba 1) (kD (.int 0))) Ja))) [some (.d (.str z)),some (.d (.lst RW)),none,none,none,none,none,none]=.ex "NoRow" fs:=by
   have:(b1 (Jg 1 Wb) (Mg (Aa (b2 Xc (Ba 1) (kD (.int 0))) Ja))) [some (.d (.str z)),some (.d (.lst RW)),none,none,none,none,none,none]=.ex "NoRow" fs:=by
    simp only[b1,b2,kD,Mg,Aa,Ja,Ka,Oa,Bb,Res.bind_ok,i0,Pc,cx]
   unfold Rb;rw[this];rfl
  unfold Fb Gh;show(match Ab _ _ [some (.d (.str z)),none,none,none,none,none,none,none] with| .rt d=>Res.ok d| .nx _=>.ok .non| .ex c fs=>.ex c fs|_=>.stuck)=_;unfold Ab Nm;rw[Uh q0,Ma,q1,Ad,Ma,q2];rfl
 .have cx:Jg 1 Wb [.str r0]=.ok R:=(if_pos rfl).trans rx
  have q2:Rb 2 (b1 (Jg 1 Wb) (Mg (Aa (b2 Xc (Ba 1) (kD (.int 0))) Ja))) [some (.d (.str z)),some (.d (.lst RW)),none,none,none,none,none,none]=.nx [some (.d (.str z)),some (.d (.lst RW)),some (.d R),none,none,none,none,none]:=by
   simp only[Rb,b1,b2,kD,Mg,Aa,Ja,Ka,Oa,Bb,Res.bind_ok,i0,Pc,cx,Wa,ac,bc]
  have q3:UX 3 "door" "wing" "key" [some (.d (.str z)),some (.d (.lst RW)),some (.d R),none,none,none,none,none]=.nx (Rv (.str z) (.lst RW) R [] [] [] none none none none):=rfl;have en:Wo [.lst RS]=.ok (Of 1 RS):=rfl
  have q4:∀ o,Te NI Cb (Of 1 RS) (Rv (.str z) (.lst RW) R [] [] [] none none none none)=o->Aj NI Cb (Mg (b1 Wo (Aa (Bd (b3 FD (Ba 1) (b1 Oh (kD (.int 1))) Se)) Ja))) (Rv (.str z) (.lst RW) R [] [] [] none none none none)=o:=λo fo=>by
   rw[<-fo];simp only[Rv,Aj,Mg,Bd,b1,b3,kD,Se,Aa,Ja,Ka,Oa,Bb,Res.bind_ok,Mf,s1,en,Pc,Wa]
  refine⟨λfs fo=>?_,λA B C w4 w5 w6 w7 HH fo hA mk=>?_⟩
  .unfold Fb Gh;show(match Ab _ _ [some (.d (.str z)),none,none,none,none,none,none,none] with| .rt d=>Res.ok d| .nx _=>.ok .non| .ex c fs=>.ex c fs|_=>.stuck)=_;unfold Ab Nm;rw[Uh q0,Ma,q1,Ad,Ma,q2,Ma,q3,Ad,Ma,q4 _ fo];rfl
  .have g0:Le (KS.zip [.lst A,.lst B,.lst C]) (.str "door")=.ok (.lst A):=rfl;have g1:Le (KS.zip [.lst A,.lst B,.lst C]) (.str "wing")=.ok (.lst B):=rfl;have g2:Le (KS.zip [.lst A,.lst B,.lst C]) (.str "key")=.ok (.lst C):=rfl;have la:Gc (.lst A)=.ok (.int (A.length:Int)):=Zd A;have ea:Kd (.int (A.length:Int)) (.int 0)=.ok (.bl false):=by rw[Yi,beq_eq_false_iff_ne.mpr (by have:=qq.mpr hA;omega)]
   have q5:Zi (tR (b2 Kd (b1 Gc (Sq Le (Eg 3) (kD (.str "door")))) (kD (.int 0)))) [some (.d (.str z)),some (.d (.lst RW)),some (.d R),some (.d (Oi A B C)),w4,w5,w6,w7]=.ok false:=by
    simp only[Zi,tR,b1,b2,Sq,kD,Pt,Dl,Res.bind_ok,g0,la,ea,Ua,Pc]
   have q6:Gb (b1 (Pa 4 (Ju 4 "House" Qi)) (Aa (Ra 2) (Aa (Sq Le (Eg 3) (kD (.str "door"))) (Aa (Sq Le (Eg 3) (kD (.str "wing"))) (Aa (Sq Le (Eg 3) (kD (.str "key"))) Ja))))) [some (.d (.str z)),some (.d (.lst RW)),some (.d R),some (.d (Oi A B C)),w4,w5,w6,w7]=.rt HH:=by
    simp only[Gb,b1,Sq,kD,Aa,Ja,Ka,Ya,Ob,Pt,Dl,Res.bind_ok,g0,g1,g2,mk,Wa]
   unfold Fb Gh;show(match Ab _ _ [some (.d (.str z)),none,none,none,none,none,none,none] with| .rt d=>Res.ok d| .nx _=>.ok .non| .ex c fs=>.ex c fs|_=>.stuck)=_;unfold Ab Nm;rw[Uh q0,Ma,q1,Ad,Ma,q2,Ma,q3,Ad,Ma,q4 _ fo,Ma];show(match Bp (Nf (Zi (tR (b2 Kd (b1 Gc (Sq Le (Eg 3) (kD (.str "door")))) (kD (.int 0))))) _ Out.nx [some (.d (.str z)),some (.d (.lst RW)),some (.d R),some (.d (Oi A B C)),w4,w5,w6,w7]) _ with| .rt d=>Res.ok d| .nx _=>.ok .non| .ex c fs=>.ex c fs|_=>.stuck)=_;rw[Uh q5,Ma,q6];rfl
theorem AS(bs:List Bool):Wx (.lst (bs.map D.bl))=.ok (.bl (bs.any id)):=by
 unfold Wx;dsimp only;rw[show Qb (bs.map D.bl)=some bs from(Qw id bs).trans (by rw[List.map_id])]
theorem Xz(A B C Z:List D)(k:ua)(L:List ua)(bs:List Bool)(hZ:Le (KS.zip [.lst A,.lst B,.lst C]) (.str k)=.ok (.lst Z))(t1:Hr VA [("door",(["wing","key"]:List ua)),("wing",(["key"]:List ua)),("key",([]:List ua))] (.str k)=.ok (VA L))(t2:Lf 1 (Cc 0) (λ_=>.ok true) Kc [some (.d (Oi A B C)),some (.d (.str k))] (L.map D.str)=.ok (bs.map D.bl)):
  Pa 2 Mb [Oi A B C,.str k]=.ok (.bl (!(decide (60<=Z.length)||bs.any id)&&(decide (k="door")||decide (0<A.length)))):=by
 have t3:=AS bs;have ln:Gc (.lst Z)=.ok (.int (Z.length:Int)):=Zd Z
 have ge:K2 (.int (Z.length:Int)) (.int 60)=.ok (.bl (decide (60<=Z.length))):=by
  rw[Yq];congr 2;rw[decide_eq_decide];omega
 have sq:Gi (VA L)=.ok (L.map D.str):=rfl;have g0:Le (KS.zip [.lst A,.lst B,.lst C]) (.str "door")=.ok (.lst A):=rfl;have l0:Gc (.lst A)=.ok (.int (A.length:Int)):=Zd A;have ek:=J8 k "door"
 have gt:Xy (.int (A.length:Int)) (.int 0)=.ok (.bl (decide (0<A.length))):=by
  rw[Hm];congr 2;rw[decide_eq_decide];omega
 generalize bs.map D.bl=BS at*;generalize bs.any id=S at*
 have cd:Fe (tR (b2 K2 (b1 Gc (Sq Le (Eg 0) (Ba 1))) (kD (.int 60)))) (tR (b1 Wx (Bd (Qc 1 (Cc 0) (λ_=>.ok true) Kc (b1 Gi (b1 (Hr VA [("door",(["wing","key"]:List ua)),("wing",(["key"]:List ua)),("key",([]:List ua))]) (Ba 1))))))) [some (.d (Oi A B C)),some (.d (.str k))]=.ok (decide (60<=Z.length)||S):=by
  generalize VA L=DL at*;simp only[Fe,tR,b1,b2,Sq,kD,Bd,Qc,Dl,Bb,Oa,Res.bind_ok,hZ,ln,ge,t1,sq,t2,t3,Ua,Qd];cases decide (60<=Z.length)<;>rfl
 refine Za _ _ _ _ ?_ rfl;unfold Mb Rr;rw[Nb];show Np (Ab _ _ [some (.d (Oi A B C)),some (.d (.str k))])=_;unfold Ab;generalize (decide (60<=Z.length)||S)=T at*;cases T with
 |true=>rw[sIf_t cd];rfl
 |false=>
  rw[Uh cd,Ma];simp only[Gb,OI,b1,b2,Sq,kD,Dl,Bb,Oa,Res.bind_ok,ek,g0,l0,gt,Ap];cases decide (k="door")<;>rfl
def HM(a b c:Nat):Nat->Bool
 |1=>decide (a<60)&&decide (b+c=0)
 |2=>decide (b<60)&&decide (c=0)&&decide (0<a)
 |3=>decide (c<60)&&decide (0<a)
 |_=>false
theorem SD(A B C:List D)(x:ua)(Z:List D)(δ:Ha)(e:Le (tbC A B C) (.str x)=.ok (.lst Z)):Kc (some (.d (.str x))::some (.d (Oi A B C))::δ)=.ok (.bl (decide (0<Z.length))):=by
 have z:Gc (.lst Z)=.ok (.int (Z.length:Int)):=Zd Z
 have g:Xy (.int (Z.length:Int)) (.int 0)=.ok (.bl (decide (0<Z.length))):=by
  rw[Hm];congr 2;rw[decide_eq_decide];omega
 have e':Le (KS.zip [.lst A,.lst B,.lst C]) (.str x)=.ok (.lst Z):=e;unfold Kc;simp only[b1,b2,Sq,kD,Pt,Dl,Oa,Res.bind_ok,e',z,g]
theorem UM(A B C:List D):Pa 2 Mb [Oi A B C,.str "door"]=.ok (.bl (HM A.length B.length C.length 1)):=by
 have t2:Lf 1 (Cc 0) (λ_=>.ok true) Kc [some (.d (Oi A B C)),some (.d (.str "door"))] ((["wing","key"]:List ua).map D.str)=.ok ([decide (0<B.length),decide (0<C.length)].map D.bl):=by
  refine Nd ?_ (by show 2<=100000;decide);have h1:=SD A B C "wing" B [some (.d (.str "door"))] rfl;have h2:=SD A B C "key" C [some (.d (.str "door"))] rfl;have h3:=Ke (fe:=Kc) (λ_=>.bl (decide (0<C.length))) [some (.d (Oi A B C)),some (.d (.str "door"))] [.str "key"] (some (.d (.str "wing"))) (λx hx=>by rw[qk.mp hx];exact h2);show Ug (Cc 0) (λ_=>.ok true) Kc [.str "wing",.str "key"] (none:: [some (.d (Oi A B C)),some (.d (.str "door"))])=_;rw[Vo (δ':=some (.d (.str "wing")):: [some (.d (Oi A B C)),some (.d (.str "door"))]) _ _ _ _ rfl];simp only[Rl,Res.bind_ok,if_true,h1,h3,db,tf]
 refine(Xz A B C A "door" _ _ rfl rfl t2).trans ?_;congr 2;show(!(decide (60<=A.length)||(decide (0<B.length)||(decide (0<C.length)||false)))&&(true||_))=(decide (A.length<60)&&decide (B.length+C.length=0))
 rw[sg];simp
theorem VM(A B C:List D):Pa 2 Mb [Oi A B C,.str "wing"]=.ok (.bl (HM A.length B.length C.length 2)):=by
 have t2:Lf 1 (Cc 0) (λ_=>.ok true) Kc [some (.d (Oi A B C)),some (.d (.str "wing"))] ((["key"]:List ua).map D.str)=.ok ([decide (0<C.length)].map D.bl):=by
  refine Nd ?_ (by show 1<=100000;decide);have h2:=SD A B C "key" C [some (.d (.str "wing"))] rfl
  exact Ke (fe:=Kc) (λ_=>.bl (decide (0<C.length))) [some (.d (Oi A B C)),some (.d (.str "wing"))] [.str "key"] none (λx hx=>by
   simp only[xc,mf,or_false]at hx;rcases hx with rfl
   exact h2)
 refine(Xz A B C B "wing" _ _ rfl rfl t2).trans ?_;congr 2;show(!(decide (60<=B.length)||(decide (0<C.length)||false))&&(decide (("wing":ua)="door")||decide (0<A.length)))=(decide (B.length<60)&&decide (C.length=0)&&decide (0<A.length))
 rw[decide_eq_false (show ¬ ("wing":ua)="door" by decide),sg];simp
theorem DU(A B C:List D):Pa 2 Mb [Oi A B C,.str "key"]=.ok (.bl (HM A.length B.length C.length 3)):=by
 refine(Xz A B C C "key" [] [] rfl rfl (Nd (by rfl) (by show 0<=100000;decide))).trans ?_;congr 2;show(!(decide (60<=C.length)||false)&&(decide (("key":ua)="door")||decide (0<A.length)))=(decide (C.length<60)&&decide (0<A.length))
 rw[decide_eq_false (show ¬ ("key":ua)="door" by decide),sg];simp
theorem Kr(Tx Rw Ru:D)(n:Nat)(hn:n<1000)(A B C:List D)(r k:ua)(W:List D)(d:D)(x6 x7:Option S)(e1':Ig r [.str " "]=.ok W)(e2:Xc (.lst W) (.int 0)=.ok (.str k))(e3:Pa 1 Ec [.lst W]=.ok d)(e4:Qp d=.ok (.bl false))(e5:Pa 2 Mb [Oi A B C,.str k]=.ok (.bl false)):
  Cb [some (.d Tx),some (.d Rw),some (.d Ru),some (.k (.dct KS) [.l A,.l B,.l C]),some (.d (.int (n:Int))),some (.d (.str r)),x6,x7]=.ex "NoRow" (Zl (n:Int)):=by
 have e1:=El e1'
 have w6:Rb 6 (Bd (bM Jf (Ra 5) (Aa (kD (.str " ")) Ja))) [some (.d Tx),some (.d Rw),some (.d Ru),some (.k (.dct KS) [.l A,.l B,.l C]),some (.d (.int (n:Int))),some (.d (.str r)),x6,x7]=.nx [some (.d Tx),some (.d Rw),some (.d Ru),some (.k (.dct KS) [.l A,.l B,.l C]),some (.d (.int (n:Int))),some (.d (.str r)),some (.d (.lst W)),x7]:=by
  simp only[Rb,Bd,bM,kD,Aa,Ja,Ka,Ya,Ob,Res.bind_ok,e1,Wa,ac,bc]
 have w7:Rb 7 (b1 (Pa 1 Ec) (Aa (Ra 6) Ja)) [some (.d Tx),some (.d Rw),some (.d Ru),some (.k (.dct KS) [.l A,.l B,.l C]),some (.d (.int (n:Int))),some (.d (.str r)),some (.d (.lst W)),x7]=.nx [some (.d Tx),some (.d Rw),some (.d Ru),some (.k (.dct KS) [.l A,.l B,.l C]),some (.d (.int (n:Int))),some (.d (.str r)),some (.d (.lst W)),some (.d d)]:=by
  simp only[Rb,b1,Aa,Ja,Ka,Ya,Ob,Res.bind_ok,e3,Wa,ac,bc]
 have vw:Pq 3 (b1 (Pa 2 Mb) (Aa (Ra 3) (Aa (b2 Xc (Ba 6) (kD (.int 0))) Ja))) [some (.d Tx),some (.d Rw),some (.d Ru),some (.k (.dct KS) [.l A,.l B,.l C]),some (.d (.int (n:Int))),some (.d (.str r)),some (.d (.lst W)),some (.d d)]=.ok (.bl false):=by
  have:(b1 (Pa 2 Mb) (Aa (Ra 3) (Aa (b2 Xc (Ba 6) (kD (.int 0))) Ja))) [some (.d Tx),some (.d Rw),some (.d Ru),some (.d (Oi A B C)),some (.d (.int (n:Int))),some (.d (.str r)),some (.d (.lst W)),some (.d d)]=.ok (.bl false):=by
   simp only[b1,b2,kD,Aa,Ja,Ka,Ya,Ob,Oa,Bb,Res.bind_ok,e2,e5]
  show(match (b1 (Pa 2 Mb) (Aa (Ra 3) (Aa (b2 Xc (Ba 6) (kD (.int 0))) Ja))) [some (.d Tx),some (.d Rw),some (.d Ru),some (.d (Oi A B C)),some (.d (.int (n:Int))),some (.d (.str r)),some (.d (.lst W)),some (.d d)] with
   | .ok x=>if Qf x=true then Res.ok x else .stuck
   |_=>.stuck)=_
  rw[this];rfl
 have cd:Zi (Fe (tR (b1 Qp (Ba 7))) (Fc (tR (Pq 3 (b1 (Pa 2 Mb) (Aa (Ra 3) (Aa (b2 Xc (Ba 6) (kD (.int 0))) Ja))))))) [some (.d Tx),some (.d Rw),some (.d Ru),some (.k (.dct KS) [.l A,.l B,.l C]),some (.d (.int (n:Int))),some (.d (.str r)),some (.d (.lst W)),some (.d d)]=.ok true:=by
  simp only[Zi,Fe,Fc,tR,b1,Oa,Bb,Res.bind_ok,e4,vw,Ua,Qd,vh,Sc,if_false,Pc]
 have ra:Og "NoRow" [("row",true)] (Mg (Aa (Ra 4) Ja)) [some (.d Tx),some (.d Rw),some (.d Ru),some (.k (.dct KS) [.l A,.l B,.l C]),some (.d (.int (n:Int))),some (.d (.str r)),some (.d (.lst W)),some (.d d)]=.ex "NoRow" (Zl (n:Int)):=by
  have:=Nt (n:Int) (by omega);simp only[Og,Mg,Aa,Ja,Ka,Ya,Ob,Res.bind_ok,Pc,Wa,this]
 unfold Cb Ab Nm;rw[w6,Ad,Ma,w7,Ad,Ma,sIf_t cd,ra];rfl
inductive Rw33 where
 |ru (a b c d:Int)
 |dr (x:ua)
 |wi (p:ua×List ua)
 |ke (p:ua×List ua)
def Rw33.tx:Rw33->ua
 | .ru a b c d=>("rules ":ua)++Rh a b c d
 | .dr x=>("door ":ua)++x
 | .wi p=>He "wing" "=" p
 | .ke p=>He "key" "opens" p
def Rw33.hd:Rw33->Nat
 | .ru _ _ _ _=>0
 | .dr _=>1
 | .wi _=>2
 | .ke _=>3
def Rw33.Ok:Rw33->Prop
 | .ru a b c d=>RuOk a b c d
 | .dr x=>Gd x
 | .wi p=>PrG p
 | .ke p=>PrG p
theorem Oz(a b c d:Int):(("rules ":ua)++Rh a b c d)=zb ⟨#[32]⟩ (["rules",toString a,toString b,toString c,toString d]:List ua):=by
 refine Jq ?_;unfold Rh;rw[show ∀ xs:List ua,zb ⟨#[32]⟩ xs=vj ⟨#[32]⟩ xs from λxs=>bg _ _,show ∀ xs:List ua,zb ⟨#[32]⟩ xs=vj ⟨#[32]⟩ xs from λxs=>bg _ _,vf,dh,Lg,Lg];rfl
theorem Zs{c:Int}(h:0<=c/\c<100):(toString c:ua).length<=2:=(Ln c h).1
theorem IL{c:Int}(o:RuOk a b c d):Ig (("rules ":ua)++Rh a b c d) [.str " "]=.ok ((["rules",toString a,toString b,toString c,toString d]:List ua).map D.str)/\(∀ w∈(["rules",toString a,toString b,toString c,toString d]:List ua),w.length<=1000):=by
 have sm:=o.sm;have l:=(Sj a b c d sm).2;have l2:(("rules ":ua)++Rh a b c d).length<=900:=by rw[Sb];show 6+_<=900;omega
 have:=Jj _ 32 l2;refine⟨?_,λw hw=>?_⟩
 .rw[Oz,Hi 32 (["rules",toString a,toString b,toString c,toString d]:List ua) (by simp) (λy hy=>by
   simp only[xc,mf,or_false]at hy;rcases hy with rfl|rfl|rfl|rfl|rfl
   .decide +kernel
   .exact(Gg a (sm a (by simp))).2.2.1
   .exact(Gg b (sm b (by simp))).2.2.1
   .exact(Gg c (sm c (by simp))).2.2.1
   .exact(Gg d (sm d (by simp))).2.2.1)]at this
  rw[Oz];exact this
 .simp only[xc,mf,or_false]at hw;rcases hw with rfl|rfl|rfl|rfl|rfl
  .decide +kernel
  .have:=Zs (sm a (by simp));omega
  .have:=Zs (sm b (by simp));omega
  .have:=Zs (sm c (by simp));omega
  .have:=Zs (sm d (by simp));omega
variable{r:Rw33}
theorem Rw33.no(h:r.Ok):10∉r.tx.cps.toList/\r.tx.length<=200:=by
 cases r with
 |ru a b c d=>
  have sm:=RuOk.sm h;refine⟨?_,?_⟩
  .show 10∉(("rules ":ua)++Rh a b c d).cps.toList;rw[Oz];refine Ht (by decide) λy hy=>?_;simp only[xc,mf,or_false]at hy;rcases hy with rfl|rfl|rfl|rfl|rfl
   .decide +kernel
   .exact(Gg a (sm a (by simp))).2.2.2
   .exact(Gg b (sm b (by simp))).2.2.2
   .exact(Gg c (sm c (by simp))).2.2.2
   .exact(Gg d (sm d (by simp))).2.2.2
  .have l:=(Sj a b c d sm).2;show(("rules ":ua)++Rh a b c d).length<=200;rw[Sb];show 6+_<=200;omega
 |dr x=>
  have h:Gd x:=h;refine⟨?_,?_⟩
  .show 10∉(("door ":ua)++x).cps.toList;rw[Yt];refine Ht (by decide) λy hy=>?_;simp only[xc,mf,or_false]at hy;rcases hy with rfl|rfl
   .exact(Vr (.inl rfl)).2.1
   .exact Pr h (by decide)
  .show(("door ":ua)++x).length<=200;rw[Sb];have:=h.1;show 5+_<=200;omega
 |wi p=>
  have h:PrG p:=h;refine⟨?_,Fq "wing" "=" p h.ok (by decide) (by decide)⟩;refine Ht (by decide) λy hy=>?_;rcases xc.mp hy with rfl|hy
  .exact(Vr (by simp)).2.1
  .rcases xc.mp hy with rfl|hy
   .exact Pr h.1 (by decide)
   .rcases xc.mp hy with rfl|hy
    .exact(Vr (by simp)).2.1
    .exact Pr (h.2.2.2.1 y hy) (by decide)
 |ke p=>
  have h:PrG p:=h;refine⟨?_,Fq "key" "opens" p h.ok (by decide) (by decide)⟩;refine Ht (by decide) λy hy=>?_;rcases xc.mp hy with rfl|hy
  .exact(Vr (by simp)).2.1
  .rcases xc.mp hy with rfl|hy
   .exact Pr h.1 (by decide)
   .rcases xc.mp hy with rfl|hy
    .exact(Vr (by simp)).2.1
    .exact Pr (h.2.2.2.1 y hy) (by decide)
theorem CU(r:List ua):BU ("rules"::r)=true:=by
 unfold BU;dsimp only;rw[if_neg (by decide),if_neg (by decide)]
def MT:Nat->Nat->Nat->Nat->List Nat->Option Nat
 |_,_,_,_,[]=>none
 |i,a,b,c,h::hs=>if HM a b c h=true then MT (i+1) (a+if h=1 then 1 else 0) (b+if h=2 then 1 else 0) (c+if h=3 then 1 else 0) hs else some i
def E7(ds:List ua)(ps qs:List (ua×List ua)):List ua:=ds.map (λx=>(("door ":ua)++x))++ps.map (He "wing" "=")++qs.map (He "key" "opens")
structure In33(ds:List ua)(ps qs:List (ua×List ua)):Prop where
 d:ds.length<=60/\∀ x∈ds,Gd x
 p:ps.length<=60/\∀ x∈ps,PrG x
 q:qs.length<=60/\∀ x∈qs,PrG x
theorem Am{P:α->Prop}{l:List α}{x:α}(h:∀ y∈l,P y)(hx:P x):∀ y∈l++ [x],P y:=λy hy=>by
 rcases wj.mp hy with z|z
 .exact h y z
 .rw[qk.mp z];exact hx
theorem YV(Tx Rw Ru:D):∀ (rs:List Rw33) (i:Nat) (ds:List ua) (ps qs:List (ua×List ua)) (x4 x5 x6 x7:Option S),(∀ r∈rs,r.Ok)->In33 ds ps qs->i+rs.length<1000->
  (∀ j,MT i ds.length ps.length qs.length (rs.map Rw33.hd)=some j->Te NI Cb (Of i (rs.map λr=>D.str r.tx)) (Rv Tx Rw Ru (ds.map D.str) (ps.map Ed) (qs.map Ed) x4 x5 x6 x7)=.ex "NoRow" (Zl (j:Int)))/\
  (MT i ds.length ps.length qs.length (rs.map Rw33.hd)=none->∃ ds' ps' qs' y4 y5 y6 y7,Te NI Cb (Of i (rs.map λr=>D.str r.tx)) (Rv Tx Rw Ru (ds.map D.str) (ps.map Ed) (qs.map Ed) x4 x5 x6 x7)=.nx (Rv Tx Rw Ru (ds'.map D.str) (ps'.map Ed) (qs'.map Ed) y4 y5 y6 y7)/\In33 ds' ps' qs'/\E7 ds' ps' qs'=E7 ds ps qs++rs.map Rw33.tx/\ds'.length=ds.length+(rs.map Rw33.hd).count 1/\ps'.length=ps.length+(rs.map Rw33.hd).count 2/\qs'.length=qs.length+(rs.map Rw33.hd).count 3)
 | [],i,ds,ps,qs,x4,x5,x6,x7,_,hi,_=>⟨(λj h=>by cases h),λ_=>⟨ds,ps,qs,x4,x5,x6,x7,rfl,hi,by rw[tf,kg],rfl,rfl,rfl⟩⟩
 |r::rs,i,ds,ps,qs,x4,x5,x6,x7,ok,hi,hn=>by
  have okr:=ok r kc;have oks:∀ r∈rs,r.Ok:=λq hq=>ok q (ib _ hq);rw[ba]at hn
  have lA:(ds.map D.str).length=ds.length:=Db ..;have lB:(ps.map Ed).length=ps.length:=Db ..;have lC:(qs.map Ed).length=qs.length:=Db ..;rw[db,MT];cases r with
  |ru a b c d=>
   obtain⟨s1,s2⟩:=IL (show RuOk a b c d from okr);have tb:=HS Tx Rw Ru .non i (by omega) (some (.k (.dct KS) [.l (ds.map D.str),.l (ps.map Ed),.l (qs.map Ed)])) (("rules ":ua)++Rh a b c d) _ x6 x7 s1 (TL (CU _) (by show 5<60;decide) s2);refine⟨λj h=>?_,λh=>?_⟩
   .rw[show(Rw33.ru a b c d).hd=0 from rfl,show HM ds.length ps.length qs.length 0=false from rfl,if_neg xa]at h
    cases h;exact Uy rfl tb
   .rw[show(Rw33.ru a b c d).hd=0 from rfl,show HM ds.length ps.length qs.length 0=false from rfl,if_neg xa]at h
    cases h
  |dr x=>
   have gx:Gd x:=okr;have cd:=UM (ds.map D.str) (ps.map Ed) (qs.map Ed);rw[lA,lB,lC]at cd
   rw[show(Rw33.dr x).hd=1 from rfl,if_pos (show(1:Nat)=1 from rfl),if_neg (show ¬ (1:Nat)=2 by decide),if_neg (show ¬ (1:Nat)=3 by decide),qu,qu];cases hc:HM ds.length ps.length qs.length 1 with
   |false=>
    rw[hc]at cd
    rw[if_neg xa];refine⟨λj h=>?_,λh=>by cases h⟩;cases h;exact Uy rfl (Kr Tx Rw Ru i (by omega) _ _ _ (("door ":ua)++x) "door" _ (.str x) x6 x7 (Zt gx) (MD ["door",x] 0 "door" rfl) (Ov gx) (NH x) cd)
   |true=>
    rw[hc]at cd
    rw[if_pos rfl]
    have hc':ds.length<60/\ps.length+qs.length=0:=by
     have:=oi.mp hc;exact⟨of_decide_eq_true this.1,of_decide_eq_true this.2⟩
    have tn:=BG Tx Rw Ru (.int (i:Int)) (ds.map D.str) (ps.map Ed) (qs.map Ed) (("door ":ua)++x) "door" _ (.str x) 0 (ds.map D.str) x6 x7 (Zt gx) (MD ["door",x] 0 "door" rfl) (Ov gx) (NH x) cd rfl rfl (by rw[lA];omega);have hp0:ps= []:=zf (by omega);have hq0:qs= []:=zf (by omega);have ih:=YV Tx Rw Ru rs (i+1) (ds++ [x]) ps qs (some (.d (.int (i:Int)))) (some (.d (.str (("door ":ua)++x)))) (some (.d (.lst ((["door",x]:List ua).map D.str)))) (some (.d (.str x))) oks ⟨⟨by rw[md];show ds.length+1<=60;omega,Am hi.d.2 gx⟩,hi.p,hi.q⟩ (by omega)
    have st:Te NI Cb (Of i (D.str (("door ":ua)++x)::rs.map λr=>D.str r.tx)) (Rv Tx Rw Ru (ds.map D.str) (ps.map Ed) (qs.map Ed) x4 x5 x6 x7)=Te NI Cb (Of (i+1) (rs.map λr=>D.str r.tx)) (Rv Tx Rw Ru ((ds++ [x]).map D.str) (ps.map Ed) (qs.map Ed) (some (.d (.int (i:Int)))) (some (.d (.str (("door ":ua)++x)))) (some (.d (.lst ((["door",x]:List ua).map D.str)))) (some (.d (.str x)))):=by
     rw[uh];exact EE rfl tn
    rw[show(ds++ [x]).length=ds.length+1 from md ..]at ih
    refine⟨λj h=>st.trans (ih.1 j h),λh=>?_⟩;obtain⟨ds',ps',qs',y4,y5,y6,y7,e1,e2,e3,e4,e5,e6⟩:=ih.2 h;refine⟨ds',ps',qs',y4,y5,y6,y7,st.trans e1,e2,?_,?_,?_,?_⟩
    .rw[e3,hp0,hq0];unfold E7;simp only[uh,tf,kg,db,xg];rfl
    .rw[e4,rm];omega
    .rw[e5,yg (by decide)]
    .rw[e6,yg (by decide)]
  |wi p=>
   have gx:PrG p:=okr;have cd:=VM (ds.map D.str) (ps.map Ed) (qs.map Ed);rw[lA,lB,lC]at cd
   rw[show(Rw33.wi p).hd=2 from rfl,if_pos (show(2:Nat)=2 from rfl),if_neg (show ¬ (2:Nat)=1 by decide),if_neg (show ¬ (2:Nat)=3 by decide),qu,qu];cases hc:HM ds.length ps.length qs.length 2 with
   |false=>
    rw[hc]at cd
    rw[if_neg xa];refine⟨λj h=>?_,λh=>by cases h⟩;cases h;exact Uy rfl (Kr Tx Rw Ru i (by omega) _ _ _ (He "wing" "=" p) "wing" _ (Ed p) x6 x7 (Ck gx (.inl rfl) (.inl rfl)) (MD ("wing"::p.1::"="::p.2) 0 "wing" rfl) (Rn gx (.inl ⟨rfl,rfl⟩)) (Zy p) cd)
   |true=>
    rw[hc]at cd
    rw[if_pos rfl]
    have hc':ps.length<60/\qs.length=0/\0<ds.length:=by
     have h1:=oi.mp hc;have h2:=oi.mp h1.1;exact⟨of_decide_eq_true h2.1,of_decide_eq_true h2.2,of_decide_eq_true h1.2⟩
    have tn:=BG Tx Rw Ru (.int (i:Int)) (ds.map D.str) (ps.map Ed) (qs.map Ed) (He "wing" "=" p) "wing" _ (Ed p) 1 (ps.map Ed) x6 x7 (Ck gx (.inl rfl) (.inl rfl)) (MD ("wing"::p.1::"="::p.2) 0 "wing" rfl) (Rn gx (.inl ⟨rfl,rfl⟩)) (Zy p) cd rfl rfl (by rw[lB];omega);have hq0:qs= []:=zf (by omega);have ih:=YV Tx Rw Ru rs (i+1) ds (ps++ [p]) qs (some (.d (.int (i:Int)))) (some (.d (.str (He "wing" "=" p)))) (some (.d (.lst ((("wing":ua)::p.1::("=":ua)::p.2).map D.str)))) (some (.d (Ed p))) oks ⟨hi.d,⟨by rw[md];show ps.length+1<=60;omega,Am hi.p.2 gx⟩,hi.q⟩ (by omega)
    have st:Te NI Cb (Of i (D.str (He "wing" "=" p)::rs.map λr=>D.str r.tx)) (Rv Tx Rw Ru (ds.map D.str) (ps.map Ed) (qs.map Ed) x4 x5 x6 x7)=Te NI Cb (Of (i+1) (rs.map λr=>D.str r.tx)) (Rv Tx Rw Ru (ds.map D.str) ((ps++ [p]).map Ed) (qs.map Ed) (some (.d (.int (i:Int)))) (some (.d (.str (He "wing" "=" p)))) (some (.d (.lst ((("wing":ua)::p.1::("=":ua)::p.2).map D.str)))) (some (.d (Ed p)))):=by
     rw[uh];exact EE rfl tn
    rw[show(ps++ [p]).length=ps.length+1 from md ..]at ih
    refine⟨λj h=>st.trans (ih.1 j h),λh=>?_⟩;obtain⟨ds',ps',qs',y4,y5,y6,y7,e1,e2,e3,e4,e5,e6⟩:=ih.2 h;refine⟨ds',ps',qs',y4,y5,y6,y7,st.trans e1,e2,?_,?_,?_,?_⟩
    .rw[e3,hq0];unfold E7;simp only[uh,tf,kg,db,xg];rfl
    .rw[e4,yg (by decide)]
    .rw[e5,rm];omega
    .rw[e6,yg (by decide)]
  |ke p=>
   have gx:PrG p:=okr;have cd:=DU (ds.map D.str) (ps.map Ed) (qs.map Ed);rw[lA,lB,lC]at cd
   rw[show(Rw33.ke p).hd=3 from rfl,if_pos (show(3:Nat)=3 from rfl),if_neg (show ¬ (3:Nat)=1 by decide),if_neg (show ¬ (3:Nat)=2 by decide),qu,qu];cases hc:HM ds.length ps.length qs.length 3 with
   |false=>
    rw[hc]at cd
    rw[if_neg xa];refine⟨λj h=>?_,λh=>by cases h⟩;cases h;exact Uy rfl (Kr Tx Rw Ru i (by omega) _ _ _ (He "key" "opens" p) "key" _ (Ed p) x6 x7 (Ck gx (.inr rfl) (.inr rfl)) (MD ("key"::p.1::"opens"::p.2) 0 "key" rfl) (Rn gx (.inr ⟨rfl,rfl⟩)) (Zy p) cd)
   |true=>
    rw[hc]at cd
    rw[if_pos rfl]
    have hc':qs.length<60/\0<ds.length:=by
     have h1:=oi.mp hc;exact⟨of_decide_eq_true h1.1,of_decide_eq_true h1.2⟩
    have tn:=BG Tx Rw Ru (.int (i:Int)) (ds.map D.str) (ps.map Ed) (qs.map Ed) (He "key" "opens" p) "key" _ (Ed p) 2 (qs.map Ed) x6 x7 (Ck gx (.inr rfl) (.inr rfl)) (MD ("key"::p.1::"opens"::p.2) 0 "key" rfl) (Rn gx (.inr ⟨rfl,rfl⟩)) (Zy p) cd rfl rfl (by rw[lC];omega);have ih:=YV Tx Rw Ru rs (i+1) ds ps (qs++ [p]) (some (.d (.int (i:Int)))) (some (.d (.str (He "key" "opens" p)))) (some (.d (.lst ((("key":ua)::p.1::("opens":ua)::p.2).map D.str)))) (some (.d (Ed p))) oks ⟨hi.d,hi.p,⟨by rw[md];show qs.length+1<=60;omega,Am hi.q.2 gx⟩⟩ (by omega)
    have st:Te NI Cb (Of i (D.str (He "key" "opens" p)::rs.map λr=>D.str r.tx)) (Rv Tx Rw Ru (ds.map D.str) (ps.map Ed) (qs.map Ed) x4 x5 x6 x7)=Te NI Cb (Of (i+1) (rs.map λr=>D.str r.tx)) (Rv Tx Rw Ru (ds.map D.str) (ps.map Ed) ((qs++ [p]).map Ed) (some (.d (.int (i:Int)))) (some (.d (.str (He "key" "opens" p)))) (some (.d (.lst ((("key":ua)::p.1::("opens":ua)::p.2).map D.str)))) (some (.d (Ed p)))):=by
     rw[uh];exact EE rfl tn
    rw[show(qs++ [p]).length=qs.length+1 from md ..]at ih
    refine⟨λj h=>st.trans (ih.1 j h),λh=>?_⟩;obtain⟨ds',ps',qs',y4,y5,y6,y7,e1,e2,e3,e4,e5,e6⟩:=ih.2 h;refine⟨ds',ps',qs',y4,y5,y6,y7,st.trans e1,e2,?_,?_,?_,?_⟩
    .rw[e3];unfold E7;simp only[uh,tf,kg,db,xg];rfl
    .rw[e4,yg (by decide)]
    .rw[e5,yg (by decide)]
    .rw[e6,rm];omega
def iN(j:Nat):D:=.int (j:Int)
def iL(s:List Nat):D:=.lst (s.map iN)
abbrev Ms(hs:List Nat)(c0 a b c:Nat)(x2 x3 x4:Option S):Ha:= [some (.d (iL hs)),some (.o [iN c0,iN a,iN b,iN c]),x2,x3,x4]
theorem Xo(a b:Nat):Kd (iN a) (iN b)=.ok (.bl (decide (a=b))):=by
 refine(Yi _ _).trans ?_;congr 2;rw[sg,beq_iff_eq,decide_eq_true_eq];omega
theorem R8(a b:Nat):Xy (iN a) (iN b)=.ok (.bl (decide (b<a))):=by
 refine(Hm _ _).trans ?_;congr 2;rw[decide_eq_decide];omega
theorem Z8(a b:Bool):Nu (.bl a) (.bl b)=.ok (.bl (!(a==b))):=by simp[Nu,Qe,Pj]
def VZ(at0:Bool)(a b c h:Nat):Bool:=(!(decide (h=0)==at0))||((decide (1<h)&&decide (a=0))||(decide (0<h)&&decide ((if h=1 then a else if h=2 then b else c)=60)))||((decide (h=1)&&decide (0<b+c))||(decide (h=2)&&decide (0<c)))
theorem M8(hs:List Nat)(i h:Nat)(hi:hs[i]? =some h)(hh:h<=3)(c0 a b c:Nat)(hc0:c0≠60\/h≠0)(x3 x4:Option S):∃ y3 y4,Kb (Ms hs c0 a b c (some (.d (iN i))) x3 x4)=if VZ (decide (i=0)) a b c h=true then .rt (iN i) else .nx (Ms hs (c0+if h=0 then 1 else 0) (a+if h=1 then 1 else 0) (b+if h=2 then 1 else 0) (c+if h=3 then 1 else 0) (some (.d (iN i))) y3 y4):=by
 have ix:Xc (iL hs) (iN i)=.ok (iN h):=by
  refine RB _ _ _ (Bn (by omega) ?_);rw[tj,wg,hi];rfl
 have z0:∀ n:Nat,Kd (iN n) (.int 0)=.ok (.bl (decide (n=0))):=λn=>Xo n 0;have z1:∀ n:Nat,Kd (iN n) (.int 1)=.ok (.bl (decide (n=1))):=λn=>Xo n 1;have z2:∀ n:Nat,Kd (iN n) (.int 2)=.ok (.bl (decide (n=2))):=λn=>Xo n 2;have z6:∀ n:Nat,Kd (iN n) (.int 60)=.ok (.bl (decide (n=60))):=λn=>Xo n 60;have g0:∀ n:Nat,Xy (iN n) (.int 0)=.ok (.bl (decide (0<n))):=λn=>R8 n 0;have g1:∀ n:Nat,Xy (iN n) (.int 1)=.ok (.bl (decide (1<n))):=λn=>R8 n 1;have k1:Xc (.lst [iN c0,iN a,iN b,iN c]) (.int 1)=.ok (iN a):=rfl;have k2:Xc (.lst [iN c0,iN a,iN b,iN c]) (.int 2)=.ok (iN b):=rfl;have k3:Xc (.lst [iN c0,iN a,iN b,iN c]) (.int 3)=.ok (iN c):=rfl
 have kh:∃ m,Xc (.lst [iN c0,iN a,iN b,iN c]) (iN h)=.ok (iN m)/\(0<h->m=if h=1 then a else if h=2 then b else c):=by
  rcases(show h=0\/h=1\/h=2\/h=3 by omega) with rfl|rfl|rfl|rfl
  .exact⟨c0,rfl,λz=>absurd z (by decide)⟩
  .exact⟨a,rfl,λ_=>rfl⟩
  .exact⟨b,rfl,λ_=>rfl⟩
  .exact⟨c,rfl,λ_=>rfl⟩
 obtain⟨m,km,hm⟩:=kh;have ad:∀ n:Nat,Wc (iN n) (.int 1)=.ok (iN (n+1)):=λn=>Kf _ _;have ab:Wc (iN b) (iN c)=.ok (iN (b+c)):=(Kf _ _).trans (by unfold iN;rw[wv]);refine⟨some (.d (iN h)),some (.d (.bl ((!(decide (h=0)==decide (i=0)))||((decide (1<h)&&decide (a=0))||(decide (0<h)&&decide (m=60)))))),?_⟩
 have s1:Rb 3 (b2 Xc (Ba 0) (Ba 2)) (Ms hs c0 a b c (some (.d (iN i))) x3 x4)=.nx (Ms hs c0 a b c (some (.d (iN i))) (some (.d (iN h))) x4):=by
  simp only[Rb,b2,Oa,Bb,Res.bind_ok,ix,Wa,ac,bc]
 have s2:Rb 4 (OI (b2 Nu (b2 Kd (Ba 3) (kD (.int 0))) (b2 Kd (Ba 2) (kD (.int 0)))) (OI (Ek (b2 Xy (Ba 3) (kD (.int 1))) (b2 Kd (b2 Xc (Ba 1) (kD (.int 1))) (kD (.int 0)))) (Ek (b2 Xy (Ba 3) (kD (.int 0))) (b2 Kd (b2 Xc (Ba 1) (Ba 3)) (kD (.int 60)))))) (Ms hs c0 a b c (some (.d (iN i))) (some (.d (iN h))) x4)=.nx (Ms hs c0 a b c (some (.d (iN i))) (some (.d (iN h))) (some (.d (.bl ((!(decide (h=0)==decide (i=0)))||((decide (1<h)&&decide (a=0))||(decide (0<h)&&decide (m=60)))))))):=by
  simp only[Rb,OI,Ek,b2,kD,Oa,Sh,Bb,Res.bind_ok,z0,z6,g0,g1,k1,km,Z8,Ap,Li];cases (decide (h=0)==decide (i=0))<;>cases decide (1<h)<;>cases decide (a=0)<;>cases decide (0<h)<;>cases decide (m=60)<;>rfl
 have e4:((!(decide (h=0)==decide (i=0)))||((decide (1<h)&&decide (a=0))||(decide (0<h)&&decide (m=60))))=((!(decide (h=0)==decide (i=0)))||((decide (1<h)&&decide (a=0))||(decide (0<h)&&decide ((if h=1 then a else if h=2 then b else c)=60)))):=by
  by_cases z:0<h
  .rw[hm z]
  .rw[decide_eq_false z,ql,ql]
 have s3:Nf (Fe (tR (Ra 4)) (Fe (Vj (tR (b2 Kd (Ba 3) (kD (.int 1)))) (tR (b2 Xy (b2 Wc (b2 Xc (Ba 1) (kD (.int 2))) (b2 Xc (Ba 1) (kD (.int 3)))) (kD (.int 0))))) (Vj (tR (b2 Kd (Ba 3) (kD (.int 2)))) (tR (b2 Xy (b2 Xc (Ba 1) (kD (.int 3))) (kD (.int 0))))))) (Gb (Ra 2)) Out.nx (Ms hs c0 a b c (some (.d (iN i))) (some (.d (iN h))) (some (.d (.bl ((!(decide (h=0)==decide (i=0)))||((decide (1<h)&&decide (a=0))||(decide (0<h)&&decide (m=60))))))))=if VZ (decide (i=0)) a b c h=true then .rt (iN i) else .nx (Ms hs c0 a b c (some (.d (iN i))) (some (.d (iN h))) (some (.d (.bl ((!(decide (h=0)==decide (i=0)))||((decide (1<h)&&decide (a=0))||(decide (0<h)&&decide (m=60)))))))):=by
  unfold VZ;rw[<-e4];simp only[Nf,Fe,Vj,tR,b2,kD,Ya,Ob,Oa,Sh,Bb,Res.bind_ok,z1,z2,k2,k3,ab,g0,Ua,Qd,Cj];cases ((!(decide (h=0)==decide (i=0)))||((decide (1<h)&&decide (a=0))||(decide (0<h)&&decide (m=60))))<;>cases decide (h=1)<;>cases decide (0<b+c)<;>cases decide (h=2)<;>cases decide (0<c)<;>rfl
 unfold Kb Ab;rw[s1,Ma,s2,Ma,s3];cases hb:VZ (decide (i=0)) a b c h with
 |true=>rfl
 |false=>
  rw[if_neg xa,if_neg xa,Ma];have am:=ad m;rcases(show h=0\/h=1\/h=2\/h=3 by omega) with rfl|rfl|rfl|rfl<;>rfl
variable{a b:Nat}
theorem W7{h:Nat}(ha:a<=60)(hb:b<=60)(hc:c<=60)(hh:h<=3):VZ false a b c h= !HM a b c h:=by
 rcases(show h=0\/h=1\/h=2\/h=3 by omega) with rfl|rfl|rfl|rfl
 .rfl
 .show(false||((false&&decide (a=0))||(true&&decide (a=60)))||((true&&decide (0<b+c))||(false&&decide (0<c))))= !(decide (a<60)&&decide (b+c=0));rw[sg];simp;omega
 .show(false||((true&&decide (a=0))||(true&&decide (b=60)))||((false&&decide (0<b+c))||(true&&decide (0<c))))= !(decide (b<60)&&decide (c=0)&&decide (0<a));rw[sg];simp;omega
 .show(false||((true&&decide (a=0))||(true&&decide (c=60)))||((false&&decide (0<b+c))||(false&&decide (0<c))))= !(decide (c<60)&&decide (0<a));rw[sg];simp;omega
theorem Y7{h:Nat}(ha:a<=60)(hb:b<=60)(hc:c<=60)(e:HM a b c h=true):(a+if h=1 then 1 else 0)<=60/\(b+if h=2 then 1 else 0)<=60/\(c+if h=3 then 1 else 0)<=60:=by
 match h with
 |0=>cases e
 |1=>
  have:=of_decide_eq_true (oi.mp e).1;exact⟨by show a+1<=60;omega,hb,hc⟩
 |2=>
  have:=of_decide_eq_true (oi.mp (oi.mp e).1).1;exact⟨ha,by show b+1<=60;omega,hc⟩
 |3=>
  have:=of_decide_eq_true (oi.mp e).1;exact⟨ha,hb,by show c+1<=60;omega⟩
 |n+4=>cases e
theorem DH(hs:List Nat):∀ (t:List Nat) (i a b c:Nat) (x2 x3 x4:Option S),hs.drop i=t->1<=i->(∀ h∈t,h<=3)->a<=60->b<=60->c<=60->
  (∀ j,MT i a b c t=some j->Te (Cc 2) Kb ((range' i t.length).map iN) (Ms hs 1 a b c x2 x3 x4)=.rt (iN j))/\
  (MT i a b c t=none->∃ a' b' c' y2 y3 y4,Te (Cc 2) Kb ((range' i t.length).map iN) (Ms hs 1 a b c x2 x3 x4)=.nx (Ms hs 1 a' b' c' y2 y3 y4)/\a'=a+t.count 1)
 | [],i,a,b,c,x2,x3,x4,_,_,_,_,_,_=>⟨(λj h=>by cases h),λ_=>⟨a,b,c,x2,x3,x4,rfl,rfl⟩⟩
 |h::t,i,a,b,c,x2,x3,x4,hd,hi,h3,ha,hb,hc=>by
  have hi':hs[i]? =some h:=by
   have:=congrArg (λl=>l[0]?) hd;simpa using this
  have hd':hs.drop (i+1)=t:=by
   have:=congrArg List.tail hd
   rwa [List.tail_drop]at this
  obtain⟨y3,y4,e⟩:=M8 hs i h hi' (h3 h kc) 1 a b c (.inl (by decide)) x3 x4;rw[decide_eq_false (show ¬ i=0 by omega),W7 ha hb hc (h3 h kc)]at e
  have st:∀ ds,Te (Cc 2) Kb (iN i::ds) (Ms hs 1 a b c x2 x3 x4)=_:=λds=>Rk (iN i) ds (Ms hs 1 a b c x2 x3 x4) (Ms hs 1 a b c (some (.d (iN i))) x3 x4) rfl;rw[ba,su,db,MT];cases cn:HM a b c h with
  |false=>
   rw[cn,if_pos (show(!false)=true from rfl)]at e
   rw[if_neg xa];refine⟨λj z=>?_,λz=>by cases z⟩;cases z;rw[st,e]
  |true=>
   rw[cn,if_neg (show ¬ (!true)=true by decide)]at e
   rw[if_pos rfl];have h0:h≠0:=λz=>by rw[z]at cn;cases cn
   rw[if_neg h0,qu]at e
   obtain⟨n1,n2,n3⟩:=Y7 ha hb hc cn;have ih:=DH hs t (i+1) (a+if h=1 then 1 else 0) (b+if h=2 then 1 else 0) (c+if h=3 then 1 else 0) (some (.d (iN i))) y3 y4 hd' (by omega) (λq hq=>h3 q (ib _ hq)) n1 n2 n3;refine⟨λj z=>?_,λz=>?_⟩
   .rw[st,e];exact ih.1 j z
   .obtain⟨a',b',c',z2,z3,z4,e1,e2⟩:=ih.2 z;refine⟨a',b',c',z2,z3,z4,by rw[st,e];exact e1,?_⟩;rw[e2];by_cases z:h=1
    .rw[if_pos z,z,rm];omega
    .rw[if_neg z,yg (λw=>z w)];omega
def U1:List Nat->Option Nat
 | []=>some 0
 |h::t=>if h=0 then(match MT 1 0 0 0 t with
  |some j=>some j
  |none=>if t.count 1=0 then some (t.length+1) else none) else some 0
def oD:Option Nat->D
 |none=>.non
 |some j=>iN j
theorem L8(hs:List Nat)(h3:∀ h∈hs,h<=3)(hl:hs.length<=900):Pa 1 Jc [iL hs]=.ok (oD (U1 hs)):=by
 have lL:Gc (iL hs)=.ok (iN hs.length):=by unfold iL;rw[Zd,Db];rfl
 have r1:Xe [iN hs.length]=.ok ((range' 0 hs.length).map iN):=by
  rw[show Xe [iN hs.length]=.ok (Zj 0 hs.length) from Nz _ (by omega)];congr 1;unfold Zj;rw[<-List.range_eq_range'];refine ym λi _=>?_;show D.int ((0:Int)+i)=D.int (i:Int);rw[Int.zero_add]
 have s1:Tj 1 (b1 Oc (Aa (kD (.int 0)) (Aa (kD (.int 0)) (Aa (kD (.int 0)) (Aa (kD (.int 0)) Ja))))) (Hb 5 [iL hs])=.nx (Ms hs 0 0 0 0 none none none):=by
  simp only[Hb,db,tf,ba,lc,jd,Re,ae,uf,qb,Tj,b1,kD,Aa,Ja,Ka,Oc,Res.bind_ok,si,pf,if_true,reduceIte,Wa,ac,bc];rfl
 have s2:∀ o,Te (Cc 2) Kb ((range' 0 hs.length).map iN) (Ms hs 0 0 0 0 none none none)=o->Aj (Cc 2) Kb (b1 Xe (Aa (b1 Gc (Ba 0)) Ja)) (Ms hs 0 0 0 0 none none none)=o:=λo e=>by
  simp only[Aj,b1,Aa,Ja,Oa,Ka,Res.bind_ok,lL,r1,Wa];exact e
 have z0:∀ n:Nat,Kd (iN n) (.int 0)=.ok (.bl (decide (n=0))):=λn=>Xo n 0
 have fin:∀ c0 a b c y2 y3 y4,Ab (Nf (tR (b2 Kd (b2 Xc (Ba 1) (kD (.int 1))) (kD (.int 0)))) (Gb (b1 Gc (Ba 0))) Out.nx) (Gb (kD .non)) (Ms hs c0 a b c y2 y3 y4)=.rt (if a=0 then iN hs.length else .non):=λc0 a b c y2 y3 y4=>by
  have k1:Xc (.lst [iN c0,iN a,iN b,iN c]) (.int 1)=.ok (iN a):=rfl;simp only[Ab,Nf,tR,b1,b2,kD,Oa,Sh,Bb,Res.bind_ok,k1,z0,lL,Ua,Hd,Gb,Wa];by_cases z:a=0
  .rw[decide_eq_true z,if_pos rfl,if_pos z];rfl
  .rw[decide_eq_false z,if_neg xa,if_neg z];rfl
 have run:∀ o,Te (Cc 2) Kb ((range' 0 hs.length).map iN) (Ms hs 0 0 0 0 none none none)=o->Jc [iL hs]=Np (Bp o (Ab (Nf (tR (b2 Kd (b2 Xc (Ba 1) (kD (.int 1))) (kD (.int 0)))) (Gb (b1 Gc (Ba 0))) Out.nx) (Gb (kD .non)))):=λo e=>by
  unfold Jc Hk;rw[Nb];show Np (Bp (Tj 1 _ (Hb 5 [iL hs])) _)=_;rw[s1,Ma];show Np (Bp (Aj _ _ _ _) _)=_;rw[s2 o e]
 refine Za _ _ _ _ ?_ rfl;cases hs with
 |nil=>
  rw[run (.nx (Ms [] 0 0 0 0 none none none)) rfl,Ma,fin];rfl
 |cons h t=>
  obtain⟨y3,y4,e⟩:=M8 (h::t) 0 h rfl (h3 h kc) 0 0 0 0 (.inl (by decide)) none none;have st:∀ ds,Te (Cc 2) Kb (iN 0::ds) (Ms (h::t) 0 0 0 0 none none none)=_:=λds=>Rk (iN 0) ds (Ms (h::t) 0 0 0 0 none none none) (Ms (h::t) 0 0 0 0 (some (.d (iN 0))) none none) rfl;rw[U1];by_cases h0:h=0
  .subst h0;rw[if_neg (by decide)]at e
   rw[if_pos rfl];have ih:=DH (0::t) t 1 0 0 0 (some (.d (iN 0))) y3 y4 rfl (Uf _) (λq hq=>h3 q (ib _ hq)) (by omega) (by omega) (by omega)
   have e0:∀ o,Te (Cc 2) Kb ((range' 1 t.length).map iN) (Ms (0::t) 1 0 0 0 (some (.d (iN 0))) y3 y4)=o->Te (Cc 2) Kb ((range' 0 (0::t).length).map iN) (Ms (0::t) 0 0 0 0 none none none)=o:=λo eo=>by
    rw[ba,su,db,st,e];exact eo
   cases hf:MT 1 0 0 0 t with
   |some j=>rw[run _ (e0 _ (ih.1 j hf))];rfl
   |none=>
    obtain⟨a',b',c',z2,z3,z4,e1,e2⟩:=ih.2 hf;rw[ou]at e2
    rw[run _ (e0 _ e1),Ma,fin,e2];dsimp only;by_cases z:t.count 1=0
    .rw[if_pos z,if_pos z];rfl
    .rw[if_neg z,if_neg z];rfl
  .have bt:VZ (decide (0=0)) 0 0 0 h=true:=by
    unfold VZ;rw[decide_eq_false h0];rfl
   rw[bt,if_pos rfl]at e
   rw[if_neg h0,run (.rt (iN 0)) (by rw[ba,su,db,st,e])];rfl
theorem Cz{r:List Nat}(e:x.cps.toList=c::r)(hc:c≠114):LB x=false:=by
 have st:wf x "rules "=false:=by
  cases h:wf x "rules " with
  |false=>rfl
  |true=>
   unfold wf at h;rw[qf]at h
   have h2:=h.2;rw[StrLaws.subAt_eq,beq_iff_eq,e,List.drop_zero]at h2
   have:("rules ":ua).cps.toList= [114,117,108,101,115,32]:=by decide +kernel
   rw[this,show("rules ":ua).length=6 from by decide +kernel,List.take_succ_cons]at h2
   injection h2 with h3
   exact absurd h3 hc
 unfold LB;rw[st];rfl
theorem Rw33.bad0(h:r.hd≠0):LB r.tx=false:=by
 have cat:∀ x y:ua,(x++y).cps.toList=x.cps.toList++y.cps.toList:=λx y=>by rw[vf,dh]
 have jn1:∀ (k l:ua) (p:ua×List ua),(He k l p).cps.toList=jn 32 ((k::p.1::l::p.2).map λx=>x.cps.toList):=λk l p=>by
  unfold He;rw[show zb ⟨#[32]⟩ (k::p.1::l::p.2)=vj ⟨#[32]⟩ (k::p.1::l::p.2) from bg _ _,Lg]
 cases r with
 |ru a b c d=>exact absurd rfl h
 |dr x=>
  refine Cz (c:=100) (r:= [111,111,114,32]++x.cps.toList) ?_ (by decide);show(("door ":ua)++x).cps.toList=_;rw[cat,show("door ":ua).cps.toList= [100,111,111,114,32] from by decide +kernel];rfl
 |wi p=>
  refine Cz (c:=119) (r:= [105,110,103]++32::jn 32 ((p.1::"="::p.2).map λx=>x.cps.toList)) ?_ (by decide);show(He "wing" "=" p).cps.toList=_;rw[jn1,db,Pl _ _ (by simp),show("wing":ua).cps.toList= [119,105,110,103] from by decide +kernel];rfl
 |ke p=>
  refine Cz (c:=107) (r:= [101,121]++32::jn 32 ((p.1::"opens"::p.2).map λx=>x.cps.toList)) ?_ (by decide);show(He "key" "opens" p).cps.toList=_;rw[jn1,db,Pl _ _ (by simp),show("key":ua).cps.toList= [107,101,121] from by decide +kernel];rfl
theorem EY(rows:List ua)(hn:rows.length<=400)(hl:∀ x∈rows,x.length<=200)(hf:∀ x∈rows,10∉x.cps.toList):Jf (zb ⟨#[10]⟩ rows) [.str "\n"]=.ok ((if rows= [] then([""]:List ua) else rows).map D.str):=by
 have nl:("\n":ua)=⟨#[10]⟩:=by decide +kernel
 by_cases h0:rows= []
 .rw[if_pos h0,h0];refine El ?_;have:=Jj "" 10 (by decide);rw[nl,show zb ⟨#[10]⟩ []="" from by decide +kernel];rw[show yb "" ⟨#[10]⟩=([""]:List ua) from by decide +kernel]at this
  exact this
 .rw[if_neg h0];by_cases h2:2<=rows.length
  .have sm:=Gr (λx:ua=>x.length) 200 rows hl;rw[nl];exact HD h2 (by omega) (by omega) hf
  .have h1:rows.length=1:=by
    have:=qq.mpr h0;omega
   have sm:=Gr (λx:ua=>x.length) 200 rows hl;have jl:=Up 10 rows;have:=Jj (zb ⟨#[10]⟩ rows) 10 (by omega);rw[Hi 10 rows h0 hf]at this
   rw[nl];exact El this
theorem Q5(sp:Jf z [.str "\n"]=.ok RW)(i0:Xc (.lst RW) (.int 0)=.ok (.str r0))(R:D)(RS:List D)(rx:Wb [.str r0]=.ok R)(s1:FD (.lst RW) (some 1) none=.ok RS)(A B C:List D)(hA:A= [])(w4 w5 w6 w7:Option S)(hn:RW.length<1000)(fo:Te NI Cb (Of 1 RS) (Rv (.str z) (.lst RW) R [] [] [] none none none none)=.nx (Rv (.str z) (.lst RW) R A B C w4 w5 w6 w7)):Fb [.str z]=.ex "NoRow" (Zl (RW.length:Int)):=by
 have isS':We "str" (.str z)=.ok (.bl true):=by rw[Jm _ (by simp[Yz])];rfl
 have q0:Zi (Fc (tR (b1 (We "str") (Ba 0)))) [some (.d (.str z)),none,none,none,none,none,none,none]=.ok false:=by
  simp only[Zi,Fc,tR,b1,Oa,Res.bind_ok,isS',Ua,jf,Pc]
 have q1:Rb 1 (Bd (bM Jf (Ra 0) (Aa (kD (.str "\n")) Ja))) [some (.d (.str z)),none,none,none,none,none,none,none]=.nx [some (.d (.str z)),some (.d (.lst RW)),none,none,none,none,none,none]:=by
  simp only[Rb,Bd,bM,kD,Aa,Ja,Ka,Ya,Res.bind_ok,sp,Wa,ac,bc]
 have cx:Jg 1 Wb [.str r0]=.ok R:=(if_pos rfl).trans rx
 have q2:Rb 2 (b1 (Jg 1 Wb) (Mg (Aa (b2 Xc (Ba 1) (kD (.int 0))) Ja))) [some (.d (.str z)),some (.d (.lst RW)),none,none,none,none,none,none]=.nx [some (.d (.str z)),some (.d (.lst RW)),some (.d R),none,none,none,none,none]:=by
  simp only[Rb,b1,b2,kD,Mg,Aa,Ja,Ka,Oa,Bb,Res.bind_ok,i0,Pc,cx,Wa,ac,bc]
 have q3:UX 3 "door" "wing" "key" [some (.d (.str z)),some (.d (.lst RW)),some (.d R),none,none,none,none,none]=.nx (Rv (.str z) (.lst RW) R [] [] [] none none none none):=rfl;have en:Wo [.lst RS]=.ok (Of 1 RS):=rfl
 have q4:Aj NI Cb (Mg (b1 Wo (Aa (Bd (b3 FD (Ba 1) (b1 Oh (kD (.int 1))) Se)) Ja))) (Rv (.str z) (.lst RW) R [] [] [] none none none none)=.nx (Rv (.str z) (.lst RW) R A B C w4 w5 w6 w7):=by
  rw[<-fo];simp only[Rv,Aj,Mg,Bd,b1,b3,kD,Se,Aa,Ja,Ka,Oa,Bb,Res.bind_ok,Mf,s1,en,Pc,Wa]
 have g0:Le (KS.zip [.lst A,.lst B,.lst C]) (.str "door")=.ok (.lst A):=rfl;have la:Gc (.lst A)=.ok (.int 0):=by rw[Zd,hA];rfl
 have ea:Kd (.int 0) (.int 0)=.ok (.bl true):=by rw[Yi];rfl
 have lw:Gc (.lst RW)=.ok (.int (RW.length:Int)):=Zd RW;have rr:=Nt (RW.length:Int) (by omega)
 have q5:Zi (tR (b2 Kd (b1 Gc (Sq Le (Eg 3) (kD (.str "door")))) (kD (.int 0)))) [some (.d (.str z)),some (.d (.lst RW)),some (.d R),some (.d (Oi A B C)),w4,w5,w6,w7]=.ok true:=by
  simp only[Zi,tR,b1,b2,Sq,kD,Pt,Dl,Res.bind_ok,g0,la,ea,Ua,Pc]
 have q6:Og "NoRow" [("row",true)] (Mg (Aa (b1 Gc (Ba 1)) Ja)) [some (.d (.str z)),some (.d (.lst RW)),some (.d R),some (.d (Oi A B C)),w4,w5,w6,w7]=.ex "NoRow" (Zl (RW.length:Int)):=by
  simp only[Og,Mg,b1,Aa,Ja,Ka,Oa,Bb,Res.bind_ok,lw,Pc,Wa,rr]
 unfold Fb Gh;show(match Ab _ _ [some (.d (.str z)),none,none,none,none,none,none,none] with| .rt d=>Res.ok d| .nx _=>.ok .non| .ex c fs=>.ex c fs|_=>.stuck)=_;unfold Ab Nm;rw[Uh q0,Ma,q1,Ad,Ma,q2,Ma,q3,Ad,Ma,q4,Ma];show(match Bp (Nf (Zi (tR (b2 Kd (b1 Gc (Sq Le (Eg 3) (kD (.str "door")))) (kD (.int 0))))) _ Out.nx [some (.d (.str z)),some (.d (.lst RW)),some (.d R),some (.d (Oi A B C)),w4,w5,w6,w7]) _ with| .rt d=>Res.ok d| .nx _=>.ok .non| .ex c fs=>.ex c fs|_=>.stuck)=_;rw[sIf_t q5,q6];rfl
theorem Vc0(rs:List Rw33)(ok:∀ r∈rs,r.Ok)(hn:rs.length<=400):
  (∀ j,U1 (rs.map Rw33.hd)=some j->∃ fs,Fb [.str (zb ⟨#[10]⟩ (rs.map Rw33.tx))]=.ex "NoRow" fs/\(fs=Zl (j:Int)\/fs=.non::Zl (j:Int)))/\
  (U1 (rs.map Rw33.hd)=none->∃ (a b c d:Int) (ds:List ua) (ps qs:List (ua×List ua)),RuOk a b c d/\In33 ds ps qs/\rs.map Rw33.tx=Al a b c d ds ps qs/\ds.length=(rs.map Rw33.hd).count 1/\ps.length=(rs.map Rw33.hd).count 2/\qs.length=(rs.map Rw33.hd).count 3/\
   Fb [.str (zb ⟨#[10]⟩ (rs.map Rw33.tx))]=.ok (IT (.tup [.int a,.int b,.int c,.int d]) (.lst (ds.map D.str)) (.lst (ps.map Ed)) (.lst (qs.map Ed)))):=by
 have mem:∀ x∈rs.map Rw33.tx,10∉x.cps.toList/\x.length<=200:=λx hx=>by
  obtain⟨r,hr,rfl⟩:=lj.mp hx;exact Rw33.no (ok r hr)
 have sp:=EY (rs.map Rw33.tx) (by rw[Db];omega) (λx hx=>(mem x hx).2) (λx hx=>(mem x hx).1);cases rs with
 |nil=>
  refine⟨λj h=>?_,λh=>by cases h⟩;cases h;obtain⟨fs,e1,e2⟩:=Qx (r:="") (by decide) (by decide +kernel);have H:=(CI (r0:="") sp rfl).1 fs e1;exact⟨fs,H,e2⟩
 |cons r rs=>
  rw[if_neg (by simp)]at sp
  have okr:=ok r kc;have H:=CI (r0:=r.tx) sp (MD _ 0 _ rfl);rw[db (f:=Rw33.hd),U1];by_cases h0:r.hd=0
  .rw[if_pos h0];cases r with
   |dr x=>cases h0
   |wi p=>cases h0
   |ke p=>cases h0
   |ru a b c d=>
    have o:RuOk a b c d:=okr;have H2:=H.2 _ ((rs.map Rw33.tx).map D.str) (Bs o) (by rw[db (f:=Rw33.tx)];exact Vx _ _);rw[ba]at hn
    have lp:=YV (.str (zb ⟨#[10]⟩ ((Rw33.ru a b c d::rs).map Rw33.tx))) (.lst (((Rw33.ru a b c d::rs).map Rw33.tx).map D.str)) (.tup [.int a,.int b,.int c,.int d]) rs 1 [] [] [] none none none none (λq hq=>ok q (ib _ hq)) ⟨⟨by decide,λ_ h=>by cases h⟩,⟨by decide,λ_ h=>by cases h⟩,⟨by decide,λ_ h=>by cases h⟩⟩ (by omega);rw[show(rs.map λr=>D.str r.tx)=(rs.map Rw33.tx).map D.str by rw[gl];rfl]at lp
    cases hf:MT 1 0 0 0 (rs.map Rw33.hd) with
    |some j=>
     refine⟨λj' h=>?_,λh=>by cases h⟩;cases h;exact⟨_,H2.1 _ (lp.1 j hf),.inl rfl⟩
    |none=>
     obtain⟨ds,ps,qs,y4,y5,y6,y7,e1,e2,e3,e4,e5,e6⟩:=lp.2 hf;rw[lc,ou]at e4 e5 e6
     dsimp only;by_cases hz:(rs.map Rw33.hd).count 1=0
     .rw[if_pos hz];refine⟨λj h=>?_,λh=>by cases h⟩;cases h;have hds:ds= []:=zf (by omega);have nd:=Q5 sp (MD _ 0 _ rfl) _ ((rs.map Rw33.tx).map D.str) (Bs o) (by rw[db (f:=Rw33.tx)];exact Vx _ _) (ds.map D.str) (ps.map Ed) (qs.map Ed) (by rw[hds];rfl) y4 y5 y6 y7 (by rw[Db,Db,ba];omega) e1;rw[Db,Db,ba]at nd
      exact⟨_,nd,.inl (by rw[Db])⟩
     .rw[if_neg hz];refine⟨(λj h=>by cases h),λ_=>⟨a,b,c,d,ds,ps,qs,o,e2,?_,?_,?_,?_,?_⟩⟩
      .rw[db];show _=_::E7 ds ps qs;rw[e3];rfl
      .rw[e4];exact(yg (by show(0:Nat)≠_;decide)).symm
      .rw[e5];exact(yg (by show(0:Nat)≠_;decide)).symm
      .rw[e6];exact(yg (by show(0:Nat)≠_;decide)).symm
      .refine H2.2 _ _ _ y4 y5 y6 y7 _ e1 (λz=>hz ?_) (ZV _ _ ps qs (by have:=e2.p.1;omega) (by have:=e2.q.1;omega));have:=congrArg length z;rw[Db,lc]at this
       omega
  .rw[if_neg h0];refine⟨λj h=>?_,λh=>by cases h⟩;cases h;obtain⟨fs,e1,e2⟩:=Qx (r:=r.tx) (by have:=(Rw33.no okr).2;omega) (Rw33.bad0 h0);exact⟨fs,H.1 fs e1,e2⟩
theorem Wy(h:(decide (1<=x.length/\x.length<=12)&&(x.cps.toList.all (λc=>decide (c∈WV))&& !inB (.str x) JG))=true):Gd x:=by
 rw[qf,qf,decide_eq_true_eq,yi]at h
 exact⟨h.1,λc hc=>of_decide_eq_true (h.2.1 c hc),by have:=h.2.2;cases z:inB (.str x) JG with|false=>rfl|true=>rw[z]at this;cases this⟩
theorem gdA:Gd "a":=Wy (by decide +kernel)
theorem gdB:Gd "b":=Wy (by decide +kernel)
theorem gdC:Gd "c":=Wy (by decide +kernel)
theorem gdD:Gd "d":=Wy (by decide +kernel)
def Mr:Nat->List ua
 |0=> ["a","b"]
 |1=> ["a"]
 |_=> ["b","c","d"]
def ZF:Nat->ua
 |0=>"a b"
 |1=>"a"
 |_=>"b c d"
theorem MZ(i:Nat):zb ⟨#[32]⟩ (Mr i)=ZF i:=by
 match i with
 |0=>decide +kernel
 |1=>decide +kernel
 |n+2=>show zb ⟨#[32]⟩ (["b","c","d"]:List ua)="b c d";decide +kernel
theorem SI{n:ua}(g:Gd n)(i:Nat):PrG (n,Mr i):=by
 match i with
 |0=>exact⟨g,by simp[Mr],by show 2<=6;decide,λw hw=>by
   rcases xc.mp hw with rfl|hw
   .exact gdA
   .rw[qk.mp hw];exact gdB,by show(["a","b"]:List ua).Nodup;decide +kernel⟩
 |1=>exact⟨g,by simp[Mr],by show 1<=6;decide,λw hw=>by rw[qk.mp hw];exact gdA,by show(["a"]:List ua).Nodup;decide +kernel⟩
 |m+2=>exact⟨g,by simp[Mr],by show 3<=6;decide,λw hw=>by
   rcases xc.mp hw with rfl|hw
   .exact gdB
   .rcases xc.mp hw with rfl|hw
    .exact gdC
    .rw[qk.mp hw];exact gdD,by show(["b","c","d"]:List ua).Nodup;decide +kernel⟩
def RX:Nat->Rw33
 |0=>.ru 3 4 2 3
 |1=>.ru 24 20 20 19
 |_=>.ru 1 2 1 1
def SX:Nat->ua
 |0=>"3 4 2 3"
 |1=>"24 20 20 19"
 |_=>"1 2 1 1"
theorem U9(i:Nat):(RX i).Ok/\(RX i).hd=0/\(RX i).tx=("rules ":ua)++SX i:=by
 match i with
 |0=>exact⟨⟨by decide,by decide,by decide,by decide⟩,rfl,by decide +kernel⟩
 |1=>exact⟨⟨by decide,by decide,by decide,by decide⟩,rfl,by decide +kernel⟩
 |m+2=>exact⟨⟨by decide,by decide,by decide,by decide⟩,rfl,by show(("rules ":ua)++Rh 1 2 1 1)=("rules ":ua)++"1 2 1 1";decide +kernel⟩
theorem U5(h:Nat)(hh:h<=3)(cc:Int):∃ r:Rw33,r.Ok/\r.hd=h/\Pa 2 Ve [iN h,.int cc]=.ok (.str r.tx):=by
 obtain⟨v,mx⟩:=NP cc 1 (by decide) (by decide);obtain⟨f,_,gf,nm⟩:=UP v 1 (by decide);have nm':Pa 2 Td [.int v,.int 1]=.ok (sL (wo 1) f):=nm;have i0:Xc (sL (wo 1) f) (.int 0)=.ok (.str (f 0)):=rfl;have g:=gf 0;have m3:=Ss cc 3 (by decide);have q0:=mm cc (show(3:Int)≠0 by decide);have q1:=fj cc (show(0:Int)<3 by decide);obtain⟨i,hi⟩:∃ i:Nat,(i:Int)=cc%3:=⟨(cc%3).toNat,by omega⟩
 rw[<-hi]at m3
 have hi3:i<3:=by omega
 have lr:Xc (.lst [.str "3 4 2 3",.str "24 20 20 19",.str "1 2 1 1"]) (.int (i:Int))=.ok (.str (SX i)):=by
  rcases(show i=0\/i=1\/i=2 by omega) with rfl|rfl|rfl<;>rfl
 have lw:Xc (.lst [.str "a b",.str "a",.str "b c d"]) (.int (i:Int))=.ok (.str (ZF i)):=by
  rcases(show i=0\/i=1\/i=2 by omega) with rfl|rfl|rfl<;>rfl
 have rtl:(SX i).length<=20:=by rcases(show i=0\/i=1\/i=2 by omega) with rfl|rfl|rfl<;>decide
 have tsl:(ZF i).length<=20:=by rcases(show i=0\/i=1\/i=2 by omega) with rfl|rfl|rfl<;>decide
 have fl:=g.1;have l1:("rules ":ua).length=6:=rfl;have l2:("door ":ua).length=5:=rfl;have l3:("wing ":ua).length=5:=rfl;have l4:(" = ":ua).length=3:=rfl;have l5:("key ":ua).length=4:=rfl;have l6:(" opens ":ua).length=7:=rfl;have a1:=Qg "rules " (SX i) (by omega);have a2:=Qg "door " (f 0) (by omega);have a3:=Qg "wing " (f 0) (by omega);have a4:=Qg ("wing "++f 0) " = " (by rw[Sb];omega);have a5:=Qg "key " (f 0) (by omega);have a6:=Qg ("key "++f 0) " opens " (by rw[Sb];omega);have a7:=Qg ("wing "++f 0++" = ") (ZF i) (by rw[Sb,Sb];omega);have a8:=Qg ("key "++f 0++" opens ") (ZF i) (by rw[Sb,Sb];omega)
 have s1:Rb 2 (b2 Xc (b1 (Pa 2 Td) (Aa (b1 (Pa 2 Ue) (Aa (Ra 1) (Aa (kD (.int 1)) Ja))) (Aa (kD (.int 1)) Ja))) (kD (.int 0))) (Hb 3 [iN h,.int cc])=.nx [some (.d (iN h)),some (.d (.int cc)),some (.d (.str (f 0)))]:=by
  simp only[Hb,db,tf,ba,lc,jd,Re,ae,uf,qb,Rb,b1,b2,kD,Aa,Ja,Ya,Ob,Ka,Res.bind_ok,mx,nm',i0,Wa,ac,bc]
 rcases(show h=0\/h=1\/h=2\/h=3 by omega) with rfl|rfl|rfl|rfl
 .obtain⟨o1,o2,o3⟩:=U9 i;refine⟨RX i,o1,o2,Za _ _ _ _ ?_ rfl⟩;rw[o3];have e0:Kd (iN 0) (.int 0)=.ok (.bl true):=rfl;unfold Ve Mj Ab;rw[Nb,s1,Ma];simp only[Nf,tR,b1,b2,Bd,Oc,kD,Aa,Ja,Oa,Bb,Ka,Res.bind_ok,e0,Ua,Hd,if_true,reduceIte,Gb,ba,lc,ae,pf,m3,lr,a1,Wa,Je,Tb]
 .refine⟨.dr (f 0),g,rfl,Za _ _ _ _ ?_ rfl⟩;have e0:Kd (iN 1) (.int 0)=.ok (.bl false):=rfl;have e1:Kd (iN 1) (.int 1)=.ok (.bl true):=rfl;unfold Ve Mj Ab;rw[Nb,s1,Ma];simp only[Nf,tR,b1,b2,kD,Oa,Bb,Res.bind_ok,e0,e1,Ua,Hd,if_true,if_false,Sc,reduceIte,Gb,a2,Wa,Ma,Je,Tb];rfl
 .refine⟨.wi (f 0,Mr i),SI g i,rfl,Za _ _ _ _ ?_ rfl⟩;have e0:Kd (iN 2) (.int 0)=.ok (.bl false):=rfl;have e1:Kd (iN 2) (.int 1)=.ok (.bl false):=rfl;have sb:JD (iN 2) (.int 2)=.ok (.int 0):=rfl;have ix:∀ x y:D,Xc (.lst [x,y]) (.int 0)=.ok x:=λ_ _=>rfl
  have tx:Rw33.tx (.wi (f 0,Mr i))="wing "++f 0++" = "++ZF i:=by
   show He "wing" "=" (f 0,Mr i)=_;rw[EI "wing" "=" "wing " " = " (f 0,Mr i) (SI g i).2.1 (by decide +kernel) (by decide +kernel),MZ]
  rw[tx];unfold Ve Mj Ab;rw[Nb,s1,Ma];simp only[Nf,tR,b1,b2,Bd,Oc,kD,Aa,Ja,Oa,Bb,Ka,Res.bind_ok,e0,e1,Ua,Hd,if_false,Sc,reduceIte,Ma,Gb,ba,lc,ae,pf,if_true,a3,a4,a5,a6,sb,ix,m3,lw,a7,Wa,Tb]
 .refine⟨.ke (f 0,Mr i),SI g i,rfl,Za _ _ _ _ ?_ rfl⟩;have e0:Kd (iN 3) (.int 0)=.ok (.bl false):=rfl;have e1:Kd (iN 3) (.int 1)=.ok (.bl false):=rfl;have sb:JD (iN 3) (.int 2)=.ok (.int 1):=rfl;have ix:∀ x y:D,Xc (.lst [x,y]) (.int 1)=.ok y:=λ_ _=>rfl
  have tx:Rw33.tx (.ke (f 0,Mr i))="key "++f 0++" opens "++ZF i:=by
   show He "key" "opens" (f 0,Mr i)=_;rw[EI "key" "opens" "key " " opens " (f 0,Mr i) (SI g i).2.1 (by decide +kernel) (by decide +kernel),MZ]
  rw[tx];unfold Ve Mj Ab;rw[Nb,s1,Ma];simp only[Nf,tR,b1,b2,Bd,Oc,kD,Aa,Ja,Oa,Bb,Ka,Res.bind_ok,e0,e1,Ua,Hd,if_false,Sc,reduceIte,Ma,Gb,ba,lc,ae,pf,if_true,a3,a4,a5,a6,sb,ix,m3,lw,a8,Wa,Tb]
abbrev Y6(hs:List Nat)(n:Nat):Prop:=hs.length<=n/\∀ h∈hs,h<=3
theorem YK(k n:Nat)(hk:k<=3)(hn:n<=100)(δ:Ha)(he:∀ δ,fe δ= .ok (iN k)):∃ hs,Y6 hs 100/\Lf 1 (Cc 0) (λ_=>.ok true) fe δ (Zj 0 n)=.ok (hs.map iN):=by
 refine⟨qb n k,⟨by rw[ai];exact hn,λh hh=>by rw[(List.mem_replicate.mp hh).2];exact hk⟩,?_⟩;have l:(Zj 0 n).length=n:=by unfold Zj;rw[Db,vo]
 refine Nd ?_ (by rw[l];omega);have:=Ke (fe:=fe) (λ_=>iN k) δ (Zj 0 n) none (λ_ _=>he _);refine this.trans ?_;rw[List.map_const',l,List.map_replicate]
theorem AW(w z:Nat)(hw:w<5)(hz:z<5):∃ hs,Y6 hs 300/\Pa 2 Yc [iN w,iN z]=.ok (iL hs):=by
 have z1:=Xo w 1;have z2:=Xo w 2;have z3:=Xo w 3;have z4:=Xo w 4;have y0:=Xo z 0;have y1:=Xo z 1;have y2:=Xo z 2;have ad:∀ n:Nat,Wc (.int (n:Int)) (iN z)=.ok (.int ((n+z:Nat):Int)):=λn=>(Kf _ _).trans (by rw[wv]);have r1:∀ n:Nat,n<=100->Xe [.int (n:Int)]=.ok (Zj 0 n):=λn h=>Nz n (by omega);have in1:∀ b:Bool,Wv (.bl b)=.ok (.int ((if b=true then 1 else 0:Nat):Int)):=λb=>by cases b<;>rfl
 have ab:∀ (n:Nat) (b:Bool),Wc (.int (n:Int)) (.int ((if b=true then 1 else 0:Nat):Int))=.ok (.int ((n+(if b=true then 1 else 0):Nat):Int)):=λn b=>(Kf _ _).trans (by rw[wv]);unfold iN at z1 z2 z3 z4 y0 y1 y2;rcases(show w=1\/w=2\/w=3\/w=4\/w=0 by omega) with rfl|rfl|rfl|rfl|rfl
 .obtain⟨hs,o,e⟩:=YK (fe:=Bo) 1 (57+z) (by decide) (by omega) [some (.d (iN 1)),some (.d (iN z)),none] (λ_=>rfl);refine⟨hs,⟨by have:=o.1;omega,o.2⟩,Za _ _ _ _ ?_ rfl⟩;have a:=ad 57;have r:=r1 (57+z) (by omega);have t:Kd (iN 1) (.int 1)=.ok (.bl true):=rfl;unfold Yc Tg;simp only[Nb,Hb,db,tf,ba,lc,jd,Re,ae,uf,qb,Ab,Nf,tR,b1,b2,kD,Bd,Qc,Aa,Ja,Ka,Oa,Bb,Res.bind_ok,t,Ua,Hd,if_true,reduceIte,Gb,show Wc (.int 57) (iN z)=_ from a,r,e,Wa,Je,Tb];rfl
 .obtain⟨hs,o,e⟩:=YK (fe:=Co) 2 (58+z) (by decide) (by omega) [some (.d (iN 2)),some (.d (iN z)),none] (λ_=>rfl);refine⟨hs,⟨by have:=o.1;omega,o.2⟩,Za _ _ _ _ ?_ rfl⟩;have a:=ad 58;have r:=r1 (58+z) (by omega);have t1:Kd (iN 2) (.int 1)=.ok (.bl false):=rfl;have t:Kd (iN 2) (.int 2)=.ok (.bl true):=rfl;unfold Yc Tg;simp only[Nb,Hb,db,tf,ba,lc,jd,Re,ae,uf,qb,Ab,Nf,tR,b1,b2,kD,Bd,Qc,Aa,Ja,Ka,Oa,Bb,Res.bind_ok,t1,t,Ua,Hd,if_true,if_false,Sc,reduceIte,Gb,show Wc (.int 58) (iN z)=_ from a,r,e,Wa,Ma,Je,Tb];rfl
 .obtain⟨hs,o,e⟩:=YK (fe:=Eo) 3 (58+z) (by decide) (by omega) [some (.d (iN 3)),some (.d (iN z)),none] (λ_=>rfl);refine⟨hs,⟨by have:=o.1;omega,o.2⟩,Za _ _ _ _ ?_ rfl⟩;have a:=ad 58;have r:=r1 (58+z) (by omega);have t1:Kd (iN 3) (.int 1)=.ok (.bl false):=rfl;have t2:Kd (iN 3) (.int 2)=.ok (.bl false):=rfl;have t:Kd (iN 3) (.int 3)=.ok (.bl true):=rfl;unfold Yc Tg;simp only[Nb,Hb,db,tf,ba,lc,jd,Re,ae,uf,qb,Ab,Nf,tR,b1,b2,kD,Bd,Qc,Aa,Ja,Ka,Oa,Bb,Res.bind_ok,t1,t2,t,Ua,Hd,if_true,if_false,Sc,reduceIte,Gb,show Wc (.int 58) (iN z)=_ from a,r,e,Wa,Ma,Je,Tb];rfl
 .generalize hn1:59+(if decide (z=0)=true then 1 else 0)=n1;generalize hn2:60+(if decide (z=1)=true then 1 else 0)=n2;generalize hn3:60+(if decide (z=2)=true then 1 else 0)=n3;have b1':n1<=60:=by rw[<-hn1];split<;>omega
  have b2':n2<=61:=by rw[<-hn2];split<;>omega
  have b3':n3<=61:=by rw[<-hn3];split<;>omega
  have a1:=ab 59 (decide (z=0));have a2:=ab 60 (decide (z=1));have a3:=ab 60 (decide (z=2));rw[hn1]at a1
  rw[hn2]at a2
  rw[hn3]at a3
  obtain⟨h1,o1,e1⟩:=YK (fe:=Fo) 1 n1 (by decide) (by omega) [some (.d (iN 4)),some (.d (iN z)),some (.d (.lst [.int (n1:Int),.int (n2:Int),.int (n3:Int)]))] (λ_=>rfl);obtain⟨h2,o2,e2⟩:=YK (fe:=Ho) 2 n2 (by decide) (by omega) [some (.d (iN 4)),some (.d (iN z)),some (.d (.lst [.int (n1:Int),.int (n2:Int),.int (n3:Int)]))] (λ_=>rfl);obtain⟨h3,o3,e3⟩:=YK (fe:=Io) 3 n3 (by decide) (by omega) [some (.d (iN 4)),some (.d (iN z)),some (.d (.lst [.int (n1:Int),.int (n2:Int),.int (n3:Int)]))] (λ_=>rfl);have i1:=in1 (decide (z=0));have i2:=in1 (decide (z=1));have i3:=in1 (decide (z=2));have ll1:=o1.1;have ll2:=o2.1;have ll3:=o3.1
  have c1:Vt (.lst (h1.map iN)) (.lst (h2.map iN))=.ok ((h1++h2).map iN):=by
   rw[Jy _ _ (by rw[Db,Db];omega),uh]
  have c2:Vt (.lst ((h1++h2).map iN)) (.lst (h3.map iN))=.ok ((h1++h2++h3).map iN):=by
   rw[Jy _ _ (by rw[Db,Db,md];omega),<-uh]
  have x0:Xc (.lst [.int (n1:Int),.int (n2:Int),.int (n3:Int)]) (.int 0)=.ok (.int (n1:Int)):=rfl;have x1:Xc (.lst [.int (n1:Int),.int (n2:Int),.int (n3:Int)]) (.int 1)=.ok (.int (n2:Int)):=rfl;have x2:Xc (.lst [.int (n1:Int),.int (n2:Int),.int (n3:Int)]) (.int 2)=.ok (.int (n3:Int)):=rfl;have r1':=r1 n1 (by omega);have r2':=r1 n2 (by omega);have r3':=r1 n3 (by omega);refine⟨h1++h2++h3,⟨by rw[md,md];omega,λh hh=>?_⟩,Za _ _ _ _ ?_ rfl⟩
  .rcases wj.mp hh with hh|hh
   .rcases wj.mp hh with hh|hh
    .exact o1.2 h hh
    .exact o2.2 h hh
   .exact o3.2 h hh
  have t1:Kd (iN 4) (.int 1)=.ok (.bl false):=rfl;have t2:Kd (iN 4) (.int 2)=.ok (.bl false):=rfl;have t3:Kd (iN 4) (.int 3)=.ok (.bl false):=rfl;have t:Kd (iN 4) (.int 4)=.ok (.bl true):=rfl;have y0':Kd (iN z) (.int 0)=.ok (.bl (decide (z=0))):=y0;have y1':Kd (iN z) (.int 1)=.ok (.bl (decide (z=1))):=y1;have y2':Kd (iN z) (.int 2)=.ok (.bl (decide (z=2))):=y2
  have w4:(Rb 2 (Bd (b1 Oc (Aa (b2 Wc (kD (.int 59)) (b1 Wv (b2 Kd (Ba 1) (kD (.int 0))))) (Aa (b2 Wc (kD (.int 60)) (b1 Wv (b2 Kd (Ba 1) (kD (.int 1))))) (Aa (b2 Wc (kD (.int 60)) (b1 Wv (b2 Kd (Ba 1) (kD (.int 2))))) Ja)))))) [some (.d (iN 4)),some (.d (iN z)),none]=.nx [some (.d (iN 4)),some (.d (iN z)),some (.d (.lst [.int (n1:Int),.int (n2:Int),.int (n3:Int)]))]:=by
   simp only[Rb,Bd,b1,b2,kD,Oc,Aa,Ja,Ka,Oa,Bb,Res.bind_ok,y0',y1',y2',i1,i2,i3,show Wc (.int 59) _=_ from a1,show Wc (.int 60) (.int ((if decide (z=1)=true then 1 else 0:Nat):Int))=_ from a2,show Wc (.int 60) (.int ((if decide (z=2)=true then 1 else 0:Nat):Int))=_ from a3,ba,lc,ae,pf,if_true,reduceIte,Wa,ac,bc]
  unfold Yc Tg;rw[Nb];simp only[Hb,db,tf,ba,lc,jd,Re,ae,uf,qb,Ab,Nf,tR,b2,kD,Oa,Bb,Res.bind_ok,t1,t2,t3,t,Ua,Hd,if_true,if_false,Sc,reduceIte,Ma,w4,Gb,Bd,b1,OG,Qc,Aa,Ja,Ka,x0,x1,x2,r1',r2',r3',e1,e2,e3,c1,c2,Wa,Je,Tb];rfl
 .refine⟨[],⟨by decide,λ_ h=>by cases h⟩,Za _ _ _ _ ?_ rfl⟩;have t1:Kd (iN 0) (.int 1)=.ok (.bl false):=rfl;have t2:Kd (iN 0) (.int 2)=.ok (.bl false):=rfl;have t3:Kd (iN 0) (.int 3)=.ok (.bl false):=rfl;have t4:Kd (iN 0) (.int 4)=.ok (.bl false):=rfl;unfold Yc Tg;rw[Nb];simp only[Hb,db,tf,ba,lc,jd,Re,ae,uf,qb,Ab,Nf,tR,b2,kD,Oa,Bb,Res.bind_ok,t1,t2,t3,t4,Ua,Hd,if_false,Sc,reduceIte,Ma,Gb,Bd,b1,Oc,Ja,si,if_true,Wa,Tb];rfl
abbrev NB(sc:D)(c:Int)(x2 x3:Option S):Ha:= [some (.d sc),some (.d (.int c)),x2,x3]
def Qd0:List Nat:= [1,1,2,1,1,3,1,2,1,1,1,2,1,0]
theorem VE(c:Int)(n:Nat)(h:0<n):∃ a:Nat,a<n/\Gf (.int c) (.int (n:Int))=.ok (iN a):=by
 have m:=Ss c (n:Int) (by omega);have q0:=mm c (show(n:Int)≠0 by omega);have q1:=fj c (show(0:Int)<n by omega);exact⟨(c%n).toNat,by omega,m.trans (by unfold iN;rw[Int.toNat_of_nonneg q0])⟩
theorem LO(ns:List Int):∃ hs,Y6 hs 400/\Pa 1 Sd [.lst (ns.map D.int)]=.ok (iL hs):=by
 obtain⟨c,c0⟩:=Ly ns 0 (by decide);obtain⟨e,c1⟩:=Ly ns 1 (by decide);obtain⟨m7,_,d7⟩:=VE c 7 (by decide);have f7:=WA c 7 (by decide) (by decide);obtain⟨k,hk,d5⟩:=VE (c / 7) 5 (by decide);obtain⟨w,hw,e5⟩:=VE e 5 (by decide);have f5:=WA e 5 (by decide) (by decide);obtain⟨z,hz,e55⟩:=VE (e / 5) 5 (by decide);have f35:=WA c 35 (by decide) (by decide);obtain⟨v,_,d4⟩:=VE (c / 35) 4 (by decide);obtain⟨ms,om,me⟩:=AW w z hw hz
 obtain⟨cs,hcs,hcl⟩:∃ cs:List Int,FD (.lst (ns.map D.int)) (some 2) (some 62)=.ok (cs.map D.int)/\cs.length<=60:=by
  refine⟨(ns.drop (min 2 ns.length)).take (min 62 ns.length-min 2 ns.length),?_,by rw[js];omega⟩;rw[II];unfold L3.cutD;rw[show(some (2:Int))=some ((2:Nat):Int) from rfl,show(some (62:Int))=some ((62:Nat):Int) from rfl,HT.sIx_nat,HT.sIx_nat,Db,<-List.map_drop,<-List.map_take]
 generalize hsc:D.lst (ns.map D.int)=sc at*
 have s1:Rb 1 (b1 (Pa 2 Pb) (Aa (Ra 0) (Aa (kD (.int 0)) Ja))) (Hb 4 [sc])=.nx (NB sc c none none):=by
  simp only[Hb,db,tf,ba,lc,jd,Re,ae,uf,qb,Rb,b1,kD,Aa,Ja,Ya,Ka,Res.bind_ok,c0,Wa,ac,bc]
 have s2:Tj 2 (b1 Oc (Aa (kD (.int 0)) (Aa (kD (.int 1)) Ja))) (NB sc c none none)=.nx (NB sc c (some (.o ([0,1].map iN))) none):=by
  simp only[Tj,b1,kD,Aa,Ja,Ka,Oc,Res.bind_ok,ba,lc,ae,pf,if_true,reduceIte,Wa,ac,bc];rfl
 have e6:=Xo m7 6
 obtain⟨h0,x2,o0,s3,sp⟩:∃ (h0:List Nat) (x2:Option S),Y6 h0 2/\Nf (tR (b2 Kd (b2 Gf (Ba 1) (kD (.int 7))) (kD (.int 6)))) (Rb 2 (b2 Xc (Bd (b1 Oc (Aa (Bd (b1 Oc Ja)) (Aa (Bd (b1 Oc (Aa (kD (.int 1)) Ja))) (Aa (Bd (b1 Oc (Aa (kD (.int 0)) Ja))) (Aa (Bd (b1 Oc (Aa (kD (.int 0)) (Aa (kD (.int 2)) Ja)))) (Aa (Bd (b1 Oc (Aa (kD (.int 3)) Ja))) Ja))))))) (b2 Gf (b2 Bj (Ba 1) (kD (.int 7))) (kD (.int 5))))) Out.nx (NB sc c (some (.o ([0,1].map iN))) none)=.nx (NB sc c x2 none)/\Ba 2 (NB sc c x2 none)=.ok (iL h0):=by
  have e6':Kd (iN m7) (.int 6)=.ok (.bl (decide (m7=6))):=e6;have d7':Gf (.int c) (.int 7)=.ok (iN m7):=d7;have d5':Gf (.int (c / 7)) (.int 5)=.ok (iN k):=d5;by_cases hm:m7=6
  .rw[decide_eq_true hm]at e6'
   obtain⟨h0,o,ix⟩:∃ h0,Y6 h0 2/\Xc (.lst [.lst [],.lst [.int 1],.lst [.int 0],.lst [.int 0,.int 2],.lst [.int 3]]) (iN k)=.ok (iL h0):=by
    rcases(show k=0\/k=1\/k=2\/k=3\/k=4 by omega) with rfl|rfl|rfl|rfl|rfl
    .exact⟨[],⟨by decide,by decide⟩,rfl⟩
    .exact⟨[1],⟨by decide,by decide⟩,rfl⟩
    .exact⟨[0],⟨by decide,by decide⟩,rfl⟩
    .exact⟨[0,2],⟨by decide,by decide⟩,rfl⟩
    .exact⟨[3],⟨by decide,by decide⟩,rfl⟩
   refine⟨h0,some (.d (iL h0)),o,?_,rfl⟩;simp only[Nf,tR,b1,b2,Bd,Oc,kD,Aa,Ja,Ka,Oa,Bb,Res.bind_ok,d7',e6',Ua,Hd,if_true,reduceIte,Rb,ba,lc,ae,pf,si,f7,d5',ix,Wa,ac,bc]
  .rw[decide_eq_false hm]at e6'
   refine⟨[0,1],some (.o ([0,1].map iN)),⟨by decide,by decide⟩,?_,rfl⟩;simp only[Nf,tR,b2,kD,Oa,Bb,Res.bind_ok,d7',e6',Ua,Hd,if_false,Sc,reduceIte]
 have ct:Vt (iL h0) (iL ms)=.ok ((h0++ms).map iN):=by
  have:=o0.1;have:=om.1;unfold iL;rw[Jy _ _ (by rw[Db,Db];omega),uh]
 have s4:Tj 2 (OG Vt (Ba 2) (b1 (Pa 2 Yc) (Aa (b2 Gf (b1 (Pa 2 Pb) (Aa (Ra 0) (Aa (kD (.int 1)) Ja))) (kD (.int 5))) (Aa (b2 Gf (b2 Bj (b1 (Pa 2 Pb) (Aa (Ra 0) (Aa (kD (.int 1)) Ja))) (kD (.int 5))) (kD (.int 5))) Ja)))) (NB sc c x2 none)=.nx (NB sc c (some (.o ((h0++ms).map iN))) none):=by
  have e5':Gf (.int e) (.int 5)=.ok (iN w):=e5;have e55':Gf (.int (e / 5)) (.int 5)=.ok (iN z):=e55;simp only[Tj,b1,b2,OG,kD,Aa,Ja,Ka,Ya,Res.bind_ok,sp,c1,e5',f5,e55',me,ct,Wa,ac,bc]
 have oh:Y6 (h0++ms) 302:=⟨by have:=o0.1;have:=om.1;rw[md];omega,λh hh=>(wj.mp hh).elim (o0.2 h) (om.2 h)⟩
 generalize h0++ms=H0 at*;have d4':Gf (.int (c / 35)) (.int 4)=.ok (iN v):=d4;have e3:Kd (iN v) (.int 3)=.ok (.bl (decide (v=3))):=Xo v 3
 have s5:Nf (tR (b2 Kd (b2 Gf (b2 Bj (Ba 1) (kD (.int 35))) (kD (.int 4))) (kD (.int 3)))) (Gb (Ba 2)) Out.nx (NB sc c (some (.o (H0.map iN))) none)=if v=3 then .rt (iL H0) else .nx (NB sc c (some (.o (H0.map iN))) none):=by
  simp only[Nf,tR,b2,kD,Oa,Bb,Res.bind_ok,f35,d4',e3,Ua,Hd];by_cases hv:v=3
  .rw[decide_eq_true hv,if_pos rfl,if_pos hv];rfl
  .rw[decide_eq_false hv,if_neg xa,if_neg hv]
 by_cases hv:v=3
 .refine⟨H0,⟨by have:=oh.1;omega,oh.2⟩,Za _ _ _ _ ?_ rfl⟩;unfold Sd Fl Ab;rw[Nb,s1,Ma,s2,Ma,s3,Ma,s4,Ma,s5,if_pos hv];rfl
 .obtain⟨δ,fo,hs,y3,os,rfl⟩:=Bt (t:=Cc 3) (body:=Kh) (λi δ=>∃ hs y3,(hs.length<=302+i/\∀ h∈hs,h<=3)/\δ=NB sc c (some (.o (hs.map iN))) y3) (cs.map D.int) (NB sc c (some (.o (H0.map iN))) none) (λi d δ hd ⟨hs,y3,os,e⟩=>by
   subst e;rw[wg]at hd
   obtain⟨o,ho,rfl⟩:=oj.mp hd;have hi:=(pb.mp ho).1;obtain⟨a,ha,ma⟩:=VE o 14 (by decide);have ma':Gf (.int o) (.int 14)=.ok (iN a):=ma
   obtain⟨h,hh,ix⟩:∃ h,h<=3/\Xc (.lst [.int 1,.int 1,.int 2,.int 1,.int 1,.int 3,.int 1,.int 2,.int 1,.int 1,.int 1,.int 2,.int 1,.int 0]) (iN a)=.ok (iN h):=by
    refine⟨Qd0.getD a 0,?_,?_⟩
    .rcases(show a=0\/a=1\/a=2\/a=3\/a=4\/a=5\/a=6\/a=7\/a=8\/a=9\/a=10\/a=11\/a=12\/a=13 by omega) with rfl|rfl|rfl|rfl|rfl|rfl|rfl|rfl|rfl|rfl|rfl|rfl|rfl|rfl<;>decide
    .rcases(show a=0\/a=1\/a=2\/a=3\/a=4\/a=5\/a=6\/a=7\/a=8\/a=9\/a=10\/a=11\/a=12\/a=13 by omega) with rfl|rfl|rfl|rfl|rfl|rfl|rfl|rfl|rfl|rfl|rfl|rfl|rfl|rfl<;>rfl
   have ap:=Dy 2 (NB sc c (some (.o (hs.map iN))) (some (.d (.int o)))) (hs.map iN) (iN h) rfl (by rw[Db];omega);refine⟨NB sc c (some (.o (hs.map iN))) (some (.d (.int o))),rfl,NB sc c (some (.o ((hs++ [h]).map iN))) (some (.d (.int o))),.inl ?_,hs++ [h],_,⟨by rw[md,aj];omega,Am os.2 hh⟩,rfl⟩;unfold Kh;simp only[Ws,b1,b2,Bd,Oc,kD,Aa,Ja,Ka,Oa,Bb,Res.bind_ok,ba,lc,ae,pf,if_true,reduceIte,ma',ix];refine ap.trans ?_
   rw[uh];rfl) ⟨H0,none,⟨oh.1,oh.2⟩,rfl⟩
  rw[Db]at os
  refine⟨hs,⟨by omega,os.2⟩,Za _ _ _ _ ?_ rfl⟩
  have s6:Aj (Cc 3) Kh (b1 Gi (Bd (b3 FD (Ba 0) (b1 Oh (kD (.int 2))) (b1 Oh (kD (.int 62)))))) (NB sc c (some (.o (H0.map iN))) none)=.nx (NB sc c (some (.o (hs.map iN))) y3):=by
   simp only[Aj,b1,b3,kD,Bd,Oa,Res.bind_ok,Mf,hcs,Dk,Wa];exact fo
  unfold Sd Fl Ab;rw[Nb,s1,Ma,s2,Ma,s3,Ma,s4,Ma,s5,if_neg hv,Ma,s6,Ma];rfl
theorem T5{T:D}{n:Int}{fs:List D}(h:Fb [T]=.ex "NoRow" fs)(hf:fs=Zl n\/fs=.non::Zl n):Pa 1 Zc [T]=.ok (.int n):=by
 have cx:Jg 1 Fb [T]=.ex "NoRow" fs:=(if_pos rfl).trans h
 have tr:Dr ["NoRow"] (Jr (Aa (Ra 0) Ja) 1 Fb []) (λ_ δ=>.nx δ) Out.nx (KO 2 Uk) [some (.d T),some (.d .non),none]=.nx [some (.d T),some (.d (.exc "NoRow" fs)),none]:=by
  have:Jr (Aa (Ra 0) Ja) 1 Fb [] [some (.d T),some (.d .non),none]=.ex "NoRow" fs:=by
   simp only[Jr,Aa,Ja,Ya,Res.bind_ok,Ka,Pc,kg,cx]
  unfold Dr;rw[this];rfl
 have x1:Wl [("NoRow",true),("NoRules",false)] (.exc "NoRow" fs)=.ok (.bl true):=rfl;have x2:Wl [("NoRow",true),("NoRules",true)] (.exc "NoRow" fs)=.ok (.bl true):=rfl;have x3:Wl [("NoRow",false),("NoRules",true)] (.exc "NoRow" fs)=.ok (.bl false):=rfl;have x4:Wl [("NoRow",false),("NoRules",false)] (.exc "NoRow" fs)=.ok (.bl false):=rfl;have xf:XN ["NoRow"] "row" (.exc "NoRow" fs)=.ok (.int n):=by rcases hf with rfl|rfl<;>rfl
 have i1:We "int" (.int n)=.ok (.bl true):=by rw[YO _ (by simp[Yz])];rfl
 have i2:We "bool" (.int n)=.ok (.bl false):=by rw[GK _ (by simp[Yz])];rfl
 refine Za _ _ _ _ ?_ rfl;generalize D.exc "NoRow" fs=X at*;unfold Zc Em;rw[Nb];show Np (Ab _ _ [some (.d T),none,none])=_;unfold Ab
 rw[show Rb 1 (kD .non) [some (.d T),none,none]=.nx [some (.d T),some (.d .non),none] from rfl,Ma,tr,Ma,
  Uh (by simp only[Fe,Fc,tR,b1,Oa,Bb,Res.bind_ok,x1,x2,Ua,Qd,jf,Sc,if_false]),Ma,
  Uh (by simp only[tR,b1,Oa,Bb,Res.bind_ok,x3,Ua]),Ma,Uh (by simp only[tR,b1,Oa,Bb,Res.bind_ok,x4,Ua]),Ma,
  Uh (by simp only[Fe,Fc,tR,b1,Ya,Ob,Res.bind_ok,xf,i1,i2,Ua,Qd,jf,Sc,if_false]),Ma]
 simp only[Gb,b1,Ya,Ob,Res.bind_ok,xf,Wa,Tb]
abbrev Iu(sc:D)(x1 x2 x3 x4 x5 x6 x7:Option S):Ha:= [some (.d sc),x1,x2,x3,x4,x5,x6,x7]
theorem ZM(hs:List Nat)(k:Nat):Ls (iL hs) [iN k]=.ok (iN (hs.count k)):=by
 have f:(hs.map iN).all Qf=true:=by
  rw[yi];intro d hd;obtain⟨i,_,rfl⟩:=lj.mp hd;rfl
 show(if(Qf (iN k)&&(hs.map iN).all Qf)=true then Res.ok (D.int (((hs.map iN).countP λz=>Pj z (iN k):Nat):Int)) else .stuck)=_;rw[f,if_pos (show(Qf (iN k)&&true)=true from rfl),List.countP_map];unfold iN;congr 3;show _=List.countP (· ==k) hs;refine List.countP_congr λi _=>?_;show Pj (.int (i:Int)) (.int (k:Int))=true↔(i==k)=true;rw[Pj,beq_iff_eq,beq_iff_eq];omega
theorem law_true(ns:List Int)(hl0:ns.length<=63):KP [.lst (ns.map D.int)]=.ok (.bl true):=by
 obtain⟨hs,oh,he⟩:=LO ns;have lL:Gc (iL hs)=.ok (iN hs.length):=by unfold iL;rw[Zd,Db];rfl
 have oh1:=oh.1
 have r1:Xe [iN hs.length]=.ok ((wo hs.length).map iN):=by
  rw[show Xe [iN hs.length]=.ok (Zj 0 hs.length) from Nz _ (by omega)];congr 1;unfold Zj;refine ym λi _=>?_;show D.int ((0:Int)+i)=D.int (i:Int);rw[Int.zero_add]
 have cells:=λk h=>Ly ns k h;generalize hsc:D.lst (ns.map D.int)=sc at*
 obtain⟨δ,fo,rs,y3,os,rfl⟩:=Bt (t:=Cc 3) (body:=Jt) (λi δ=>∃ (rs:List Rw33) (y3:Option S),(rs.map Rw33.hd=hs.take i/\∀ r∈rs,r.Ok)/\δ=Iu sc (some (.d (iL hs))) (some (.o (rs.map λr=>D.str r.tx))) y3 none none none none) ((wo hs.length).map iN) (Iu sc (some (.d (iL hs))) (some (.o [])) none none none none none) (λi d δ hd ⟨rs,y3,os,e⟩=>by
  subst e;rw[wg]at hd
  obtain⟨j,hj,rfl⟩:=oj.mp hd;have hi:i<hs.length:=by have:=(pb.mp hj).1;rwa [vo]at this
  rw[nq hi]at hj
  cases hj;obtain⟨h,hh⟩:∃ h,hs[i]? =some h:=⟨_,qd hi⟩
  have h3:=oh.2 h (mi hh)
  have ix:Xc (iL hs) (iN i)=.ok (iN h):=by
   refine RB _ _ _ (Bn (by omega) ?_);rw[tj,wg,hh];rfl
  obtain⟨a,_,ma⟩:=VE (i:Int) 31 (by decide);have ma':Gf (iN i) (.int 31)=.ok (iN a):=ma;have a2:Wc (.int 2) (iN a)=.ok (.int (2+(a:Int))):=Kf _ _;obtain⟨v,cv⟩:=cells (2+(a:Int)) (by omega)
  have m5:Mu (.int 5) (iN i)=.ok (.int (5*(i:Int))):=by
   unfold iN;rw[Fj,if_pos (by omega)]
  have av:Wc (.int v) (.int (5*(i:Int)))=.ok (.int (v+5*(i:Int))):=Kf _ _;obtain⟨r,ok,rh,re⟩:=U5 h h3 (v+5*(i:Int));have ln:rs.length=i:=by have:=congrArg length os.1;rw[Db,js]at this;omega
  have ap:=Dy 2 (Iu sc (some (.d (iL hs))) (some (.o (rs.map λr=>D.str r.tx))) (some (.d (iN i))) none none none none) (rs.map λr=>D.str r.tx) (.str r.tx) rfl (by rw[Db];omega);refine⟨Iu sc (some (.d (iL hs))) (some (.o (rs.map λr=>D.str r.tx))) (some (.d (iN i))) none none none none,rfl,Iu sc (some (.d (iL hs))) (some (.o ((rs++ [r]).map λr=>D.str r.tx))) (some (.d (iN i))) none none none none,.inl ?_,rs++ [r],_,⟨?_,Am os.2 ok⟩,rfl⟩
  .unfold Jt;simp only[Ws,b1,b2,kD,Aa,Ja,Ka,Ya,Oa,Bb,Res.bind_ok,ix,ma',a2,cv,m5,av,re];refine ap.trans ?_;rw[uh];rfl
  .rw[uh,os.1,List.take_add_one,hh];show _++ [r.hd]=_
   rw[rh];rfl) ⟨[],none,⟨by rw[List.take_zero];rfl,λ_ h=>by cases h⟩,rfl⟩
 rw[Db,vo,uj (Uf _)]at os
 have lrs:rs.length=hs.length:=by have:=congrArg length os.1;rwa [Db]at this
 have rx:(rs.map λr=>D.str r.tx)=(rs.map Rw33.tx).map D.str:=by rw[gl];rfl
 rw[rx]at fo
 have nl:("\n":ua)=⟨#[10]⟩:=by decide +kernel
 have tl:∀ x∈rs.map Rw33.tx,x.length<=200:=λx hx=>by
  obtain⟨r,hr,rfl⟩:=lj.mp hx;exact(Rw33.no (os.2 r hr)).2
 have sm:=Gr (λx:ua=>x.length) 200 (rs.map Rw33.tx) tl;have lm:(rs.map Rw33.tx).length=rs.length:=Db ..;have jn:=Jn 10 (rs.map Rw33.tx) (by omega);rw[<-nl]at jn
 have fb:=L8 hs oh.2 (by omega);obtain⟨bad,good⟩:=Vc0 rs os.2 (by omega);rw[os.1]at bad good
 rw[<-nl]at bad good
 generalize hT:zb "\n" (rs.map Rw33.tx)=T at*
 have s1:Rb 1 (b1 (Pa 1 Sd) (Aa (Ra 0) Ja)) (Hb 8 [sc])=.nx (Iu sc (some (.d (iL hs))) none none none none none none):=by
  simp only[Hb,db,tf,ba,lc,jd,Re,ae,uf,qb,Rb,b1,Aa,Ja,Ya,Ka,Res.bind_ok,he,Wa,ac,bc]
 have s2:Tj 2 (b1 Oc Ja) (Iu sc (some (.d (iL hs))) none none none none none none)=.nx (Iu sc (some (.d (iL hs))) (some (.o [])) none none none none none):=by
  simp only[Tj,b1,Ja,Oc,Res.bind_ok,lc,si,if_true,reduceIte,Wa,ac,bc]
 have s3:Aj (Cc 3) Jt (b1 Xe (Aa (b1 Gc (Ba 1)) Ja)) (Iu sc (some (.d (iL hs))) (some (.o [])) none none none none none)=.nx (Iu sc (some (.d (iL hs))) (some (.o ((rs.map Rw33.tx).map D.str))) y3 none none none none):=by
  simp only[Aj,b1,Aa,Ja,Oa,Bb,Ka,Res.bind_ok,lL,r1,Wa];exact fo
 have s4:Dv 2 (Rb 4 (bM Qj (kD (.str "\n")) (Aa (Ra 2) Ja))) (Iu sc (some (.d (iL hs))) (some (.o ((rs.map Rw33.tx).map D.str))) y3 none none none none)=.nx (Iu sc (some (.d (iL hs))) (some (.d (.lst ((rs.map Rw33.tx).map D.str)))) y3 (some (.d (.str T))) none none none):=by
  unfold Dv;rw[JH 2 _ ((rs.map Rw33.tx).map D.str) rfl];simp only[Rb,bM,kD,Aa,Ja,Ka,Ya,Ob,Res.bind_ok,jn,Wa,ac,bc]
 have s5:Rb 5 (b1 (Pa 1 Jc) (Aa (Ra 1) Ja)) (Iu sc (some (.d (iL hs))) (some (.d (.lst ((rs.map Rw33.tx).map D.str)))) y3 (some (.d (.str T))) none none none)=.nx (Iu sc (some (.d (iL hs))) (some (.d (.lst ((rs.map Rw33.tx).map D.str)))) y3 (some (.d (.str T))) (some (.d (oD (U1 hs)))) none none):=by
  simp only[Rb,b1,Aa,Ja,Ya,Ob,Ka,Res.bind_ok,fb,Wa,ac,bc]
 unfold KP ZY Ab;rw[Nb,s1,Ma,s2,Ma,s3,Ma,s4,Ma,s5,Ma];cases hf:U1 hs with
 |some j=>
  obtain⟨fs,e1,e2⟩:=bad j hf;have rf:=T5 e1 e2;have nn:Zr (oD (some j))=.ok (.bl true):=rfl;have ee:Kd (.int (j:Int)) (oD (some j))=.ok (.bl true):=(Xo j j).trans (by rw[decide_eq_true rfl])
  have s6:Nf (tR (b1 Zr (Ba 5))) (Gb (b2 Kd (b1 (Pa 1 Zc) (Aa (Ra 4) Ja)) (Ba 5))) Out.nx (Iu sc (some (.d (iL hs))) (some (.d (.lst ((rs.map Rw33.tx).map D.str)))) y3 (some (.d (.str T))) (some (.d (oD (some j)))) none none)=.rt (.bl true):=by
   simp only[Nf,tR,b1,b2,Aa,Ja,Ka,Ya,Ob,Oa,Bb,Res.bind_ok,nn,Ua,Hd,if_true,reduceIte,Gb,rf,ee,Wa]
  rw[s6];rfl
 |none=>
  obtain⟨a,b,c,d,ds,ps,qs,o,inn,rw1,n1,n2,n3,e1⟩:=good hf;have rd:Pa 1 Fb [.str T]=.ok (IT (.tup [.int a,.int b,.int c,.int d]) (.lst (ds.map D.str)) (.lst (ps.map Ed)) (.lst (qs.map Ed))):=Za _ _ _ _ e1 rfl;have sh:=NO a b c d ds ps qs o.sm inn.d.1 inn.p.1 inn.q.1 (λx hx=>by have:=(inn.d.2 x hx).1;omega) (λp hp=>(inn.p.2 p hp).ok) (λp hp=>(inn.q.2 p hp).ok);rw[<-rw1,<-nl,hT]at sh
  have f2:=N8 (.tup [.int a,.int b,.int c,.int d]) (.lst (ds.map D.str)) (.lst (ps.map Ed)) (.lst (qs.map Ed));have f3:=O8 (.tup [.int a,.int b,.int c,.int d]) (.lst (ds.map D.str)) (.lst (ps.map Ed)) (.lst (qs.map Ed));have f4:=P8 (.tup [.int a,.int b,.int c,.int d]) (.lst (ds.map D.str)) (.lst (ps.map Ed)) (.lst (qs.map Ed));generalize hHH:IT (.tup [.int a,.int b,.int c,.int d]) (.lst (ds.map D.str)) (.lst (ps.map Ed)) (.lst (qs.map Ed))=HH at*;have l2:Gc (.lst (ds.map D.str))=.ok (iN (hs.count 1)):=by rw[Zd,Db,n1];rfl
  have l3:Gc (.lst (ps.map Ed))=.ok (iN (hs.count 2)):=by rw[Zd,Db,n2];rfl
  have l4:Gc (.lst (qs.map Ed))=.ok (iN (hs.count 3)):=by rw[Zd,Db,n3];rfl
  have k1:Ls (.lst (hs.map iN)) [.int 1]=.ok (iN (hs.count 1)):=ZM hs 1;have k2:Ls (.lst (hs.map iN)) [.int 2]=.ok (iN (hs.count 2)):=ZM hs 2;have k3:Ls (.lst (hs.map iN)) [.int 3]=.ok (iN (hs.count 3)):=ZM hs 3;have ne:Nu (.lst [iN (hs.count 1),iN (hs.count 2),iN (hs.count 3)]) (.lst [iN (hs.count 1),iN (hs.count 2),iN (hs.count 3)])=.ok (.bl false):=(AB _ rfl (by simp[Pj,WG,iN])).2;have s6:Nf (tR (b1 Zr (Ba 5))) (Gb (b2 Kd (b1 (Pa 1 Zc) (Aa (Ra 4) Ja)) (Ba 5))) Out.nx (Iu sc (some (.d (iL hs))) (some (.d (.lst ((rs.map Rw33.tx).map D.str)))) y3 (some (.d (.str T))) (some (.d (oD none))) none none)=.nx (Iu sc (some (.d (iL hs))) (some (.d (.lst ((rs.map Rw33.tx).map D.str)))) y3 (some (.d (.str T))) (some (.d (oD none))) none none):=rfl
  have s7:Rb 6 (b1 (Pa 1 Fb) (Aa (Ra 4) Ja)) (Iu sc (some (.d (iL hs))) (some (.d (.lst ((rs.map Rw33.tx).map D.str)))) y3 (some (.d (.str T))) (some (.d (oD none))) none none)=.nx (Iu sc (some (.d (iL hs))) (some (.d (.lst ((rs.map Rw33.tx).map D.str)))) y3 (some (.d (.str T))) (some (.d (oD none))) (some (.d HH)) none):=by
   simp only[Rb,b1,Aa,Ja,Ya,Ob,Ka,Res.bind_ok,rd,Wa,ac,bc]
  have s8:Nf (tR (b2 Nu (Bd (b1 Oc (Aa (b1 Gc (b1 (Tn "House" "doors") (Ra 6))) (Aa (b1 Gc (b1 (Tn "House" "wings") (Ra 6))) (Aa (b1 Gc (b1 (Tn "House" "grants") (Ra 6))) Ja))))) (Bd (b1 Oc (Aa (bL Ls (Ba 1) (Aa (kD (.int 1)) Ja)) (Aa (bL Ls (Ba 1) (Aa (kD (.int 2)) Ja)) (Aa (bL Ls (Ba 1) (Aa (kD (.int 3)) Ja)) Ja))))))) (Gb (kD (.bl false))) Out.nx (Iu sc (some (.d (iL hs))) (some (.d (.lst ((rs.map Rw33.tx).map D.str)))) y3 (some (.d (.str T))) (some (.d (oD none))) (some (.d HH)) none)=.nx (Iu sc (some (.d (iL hs))) (some (.d (.lst ((rs.map Rw33.tx).map D.str)))) y3 (some (.d (.str T))) (some (.d (oD none))) (some (.d HH)) none):=by
   unfold iL;simp only[Nf,tR,b1,b2,bL,Bd,Oc,kD,Aa,Ja,Ka,Ya,Ob,Oa,Bb,Res.bind_ok,f2,f3,f4,l2,l3,l4,k1,k2,k3,ba,lc,ae,pf,if_true,reduceIte,ne,Ua,Sc,if_false,Hd]
  have s9:Rb 7 (b1 (Pa 1 Ce) (Aa (Ra 6) Ja)) (Iu sc (some (.d (iL hs))) (some (.d (.lst ((rs.map Rw33.tx).map D.str)))) y3 (some (.d (.str T))) (some (.d (oD none))) (some (.d HH)) none)=.nx (Iu sc (some (.d (iL hs))) (some (.d (.lst ((rs.map Rw33.tx).map D.str)))) y3 (some (.d (.str T))) (some (.d (oD none))) (some (.d HH)) (some (.d (.str T)))):=by
   simp only[Rb,b1,Aa,Ja,Ya,Ob,Ka,Res.bind_ok,sh,Wa,ac,bc]
  have isS:We "str" (.str T)=.ok (.bl true):=by rw[Jm _ (by simp[Yz])];rfl
  have eT:=(PR T).1;rw[s6,Ma,s7,Ma,s8,Ma,s9,Ma];simp only[Gb,Ek,b1,b2,Oa,Bb,Res.bind_ok,isS,eT,Li,if_true,reduceIte,Wa,Tb]
end G
local macro_rules| `(tactic| walk_at "memfree")=> `(tactic| first|exact xj _|exact qj.mpr ⟨(by intro h;first|exact absurd h (by decide)|exact Or.inl rfl|exact Or.inr rfl),by walk_at "memfree"⟩)
local macro_rules| `(tactic| walk_at "memdis")=> `(tactic| first|exact xj _|exact qj.mpr ⟨by decide +kernel,by walk_at "memdis"⟩)
local macro_rules| `(tactic| walk_at "compok")=> `(tactic| exact⟨rfl,by decide +kernel,by walk_at "memfree",rfl,by walk_at "memdis"⟩)
namespace G
open PySem PySem.Spec PyProof.Rows L2 L3
def top(i:Nat):yf:=PySem.Challenge.pw_wardsmith_k33_where_rows_stand.main.body.getD i (.Pass ⟨0,0,0,0⟩)
abbrev Me:yf:=top 59
abbrev Md:yf:=top 67
abbrev Xg:yf:=top 65
abbrev Tf:yf:=top 66
abbrev Bl:yf:=top 50
abbrev Nn:yf:=LH (top 49) 0
abbrev Pn:yf:=LH (top 7) 0
abbrev Ah:yf:=top 55
abbrev Bh:yf:=top 38
abbrev Xf:yf:=top 39
abbrev Dh:yf:=top 37
abbrev Ij:yf:=top 40
abbrev Af:yf:=top 42
abbrev Di:yf:=top 28
abbrev Ci:yf:=top 41
abbrev Bi:yf:=top 30
abbrev Yf:yf:=top 31
abbrev Zf:yf:=top 32
abbrev Bg:yf:=top 43
abbrev Ei:yf:=top 52
abbrev Hj:yf:=top 29
abbrev Tc:yf:=top 54
abbrev Fi:yf:=top 53
abbrev Ag:yf:=top 51
abbrev Oe:yf:=top 68
abbrev Vf:yf:=top 60
abbrev Yg:yf:=top 62
abbrev Zg:yf:=top 61
abbrev Wf:yf:=top 63
abbrev Ai:yf:=top 64
abbrev Cf:yf:=top 44
abbrev Df:yf:=top 57
abbrev Bf:yf:=top 56
abbrev Gq:yf:=top 69
structure Txt(w:yd)(K:td)(mg:ua->Option Da)(ca:Nat->V):Prop where
 n_ValueError:mg "ValueError"=none
 n_all:mg "all"=none
 n_any:mg "any"=none
 n_bool:mg "bool"=none
 n_enumerate:mg "enumerate"=none
 n_int:mg "int"=none
 n_isinstance:mg "isinstance"=none
 n_len:mg "len"=none
 n_list:mg "list"=none
 n_range:mg "range"=none
 n_set:mg "set"=none
 n_str:mg "str"=none
 n_tuple:mg "tuple"=none
 c_FIGURES:∃ t,mg "FIGURES"=some (.str "0123456789" t)
 c_KEPT_WORDS:GlobT K mg "KEPT_WORDS" (["door","key","opens","rules","wing"]:List ua)
 c_LATER_KINDS:GlobG (P7 K) w K mg "LATER_KINDS" [("door",(["wing","key"]:List ua)),("wing",(["key"]:List ua)),("key",([]:List ua))]
 c_LEAST_DEPTHS:∃ t,mg "LEAST_DEPTHS"=some (.int 2 t)
 c_LETTERS:∃ t,mg "LETTERS"=some (.str "abcdefghijklmnopqrstuvwxyz" t)
 c_LINKS:GlobG Q7 w K mg "LINKS" [("wing","="),("key","opens")]
 c_MOST_DEPTHS:∃ t,mg "MOST_DEPTHS"=some (.int 20 t)
 c_MOST_FIGURES:∃ t,mg "MOST_FIGURES"=some (.int 3 t)
 c_MOST_LETTERS:∃ t,mg "MOST_LETTERS"=some (.int 12 t)
 c_MOST_OF_A_KIND:∃ t,mg "MOST_OF_A_KIND"=some (.int 60 t)
 c_MOST_PLACES:∃ t,mg "MOST_PLACES"=some (.int 24 t)
 o_House_doors:FldK K "House" "doors"
 o_House_grants:FldK K "House" "grants"
 o_House_rules:FldK K "House" "rules"
 o_House_wings:FldK K "House" "wings"
 f_row:∀ c∈(["NoRow"]:List ua),FldX K c "row"
 x_NoRules:ClsX K "NoRules"
 m_NoRules_NoRules:MatchX K "NoRules" "NoRules"
 m_SmithError_NoRow:MatchX K "SmithError" "NoRow"
 v_NoBarrel:IsC K mg "NoBarrel" (ca 4)
 v_NoCuts:IsC K mg "NoCuts" (ca 5)
 v_NoDeed:IsC K mg "NoDeed" (ca 6)
 v_NoPlan:IsC K mg "NoPlan" (ca 7)
 v_NoRow:IsC K mg "NoRow" (ca 1)
 v_NoRules:IsC K mg "NoRules" (ca 0)
 v_NoSay:IsC K mg "NoSay" (ca 8)
 v_NoSuch:IsC K mg "NoSuch" (ca 9)
 v_NoThing:IsC K mg "NoThing" (ca 10)
 v_NoTower:IsC K mg "NoTower" (ca 11)
 v_Ring:IsC K mg "Ring" (ca 12)
 v_Shallow:IsC K mg "Shallow" (ca 13)
 v_Shared:IsC K mg "Shared" (ca 14)
 v_Steep:IsC K mg "Steep" (ca 15)
 v_TooFlat:IsC K mg "TooFlat" (ca 16)
 v_TooHigh:IsC K mg "TooHigh" (ca 17)
 v_TooNarrow:IsC K mg "TooNarrow" (ca 18)
 v_Twice:IsC K mg "Twice" (ca 19)
 v_Unknown:IsC K mg "Unknown" (ca 20)
 v_ValueError:IsC K mg "ValueError" (ca 3)
 v_Wrong:IsC K mg "Wrong" (ca 21)
 i_0:IsiX K [("NoRow",true),("NoRules",false)] [ca 1]
 i_1:IsiX K [("NoRow",true),("NoRules",true)] [ca 3]
 i_2:IsiX K [("NoRow",false),("NoRules",true)] [ca 4,ca 5,ca 6,ca 7,ca 0,ca 8,ca 9,ca 10,ca 11]
 i_3:IsiX K [("NoRow",false),("NoRules",false)] [ca 12,ca 13,ca 14,ca 15,ca 16,ca 17,ca 18,ca 19,ca 20,ca 21]
variable{w:yd}{K:td}{mg:ua->Option Da}{f C:ia}{fd:lg}
section
variable {P:ic}{base:pd}{ca:Nat->V}
theorem Xs:FnScope ["_law_script","_law_k"] ["_law_script","_law_k"] (Ca Me):=⟨rfl,rfl,rfl,by decide +kernel,rfl,by decide +kernel,by decide +kernel⟩
theorem Us(F:Fun K "_law_cell_at" "_law_cell_at" Me f fd)(hm:mg "_law_cell_at"=some (.ref f))(T:Txt w K mg ca)  :Fn P w K mg base 1 "_law_cell_at" 2 Pb:=
 Mc (k:=0) F Xs hm (F.binds (ps:= ["_law_script","_law_k"]) λ_ _ _ _ _ _=>LS λ_ _=>rfl) λcdv A outer s H E hr=>
  (Qa (Hg (Fg X7 (Na 1) (Ia (Eh T.n_len (Na 0)))) (Va (Ub (Pe (Na 0) (Na 1)))) Bc)
  (Va (Ub La)))
theorem Xd:FnScope ["_law_heads_here","_law_counts","_law_at","_law_head","_law_bad"] ["_law_heads_here"] (Ca Md):=⟨rfl,rfl,rfl,by decide +kernel,rfl,by decide +kernel,by decide +kernel⟩
theorem Bq(F:Fun K "_law_first_bad" "_law_first_bad" Md f fd)(hm:mg "_law_first_bad"=some (.ref f))(T:Txt w K mg ca)  :Fn P w K mg base 1 "_law_first_bad" 1 Jc:=
 Mc (k:=0) F Xd hm (F.binds (ps:= ["_law_heads_here"]) λ_ _ _ _ _ _=>us1 λ_=>rfl) λcdv A outer s H E hr=>
  (Qa (Sx 1 Xd.nd (Dg (Ga La (Ga La (Ga La (Ga La Xa))))))
  (Qa (Rx xn rfl (Kg T.n_range (Ga (Eh T.n_len (Na 0)) Xa)) (Cd 2 Xd.nd) (Qa (Wd 3 Xd.nd (Pe (Na 0) (Na 2)))
  (Qa (Wd 4 Xd.nd (PY (Vh (QM (Sg hr)) (Ia (Vh (Ni (Sg hr)) (Na 3) (Ia La))) (Ia (Vh (Ni (Sg hr)) (Na 2) (Ia La)))) (PY (Js (Vh GJ (Na 3) (Ia La)) (An (Vh (Ni (Sg hr)) (Ia (Pe (Na 1) (Ia La))) (Ia La)))) (An (Js (Vh GJ (Na 3) (Ia La)) (An (Vh (Ni (Sg hr)) (Ia (Pe (Na 1) (Na 3))) (Ia La))))))))
  (Qa (Hg (AJ (w_or (Fh (Ib 4)) (w_or (AJ (w_and (Fg (Ni (Sg hr)) (Na 3) (Ia La)) (IG (Fg GJ (Ia (Ge (Ia (Pe (Na 1) (Ia La))) (Ia (Pe (Na 1) (Ia La))))) (Ia La))))) (Xm (AJ (w_and (Fg (Ni (Sg hr)) (Na 3) (Ia La)) (IG (Fg GJ (Ia (Pe (Na 1) (Ia La))) (Ia La))))))))) (Va (Ub (Ib 2))) Bc)
  (Va (Y5 1 (Ge (Ia (Pe (Na 1) (Na 3))) (Ia La)) (Ib 3)))))))
  (Qa (Hg (Fg (Ni (Sg hr)) (Ia (Pe (Na 1) (Ia La))) (Ia La)) (Va (Ub (Eh T.n_len (Na 0)))) Bc)
  (Va (Ub Zm)))))
theorem Iq:FnScope ["_law_way","_law_size","_law_counts"] ["_law_way","_law_size"] (Ca Xg):=⟨rfl,rfl,rfl,by decide +kernel,rfl,by decide +kernel,by decide +kernel⟩
theorem Dz(F:Fun K "_law_many" "_law_many" Xg f fd)(hm:mg "_law_many"=some (.ref f))(T:Txt w K mg ca)  :Fn P w K mg base 1 "_law_many" 2 Yc:=
 Mc (k:=0) F Iq hm (F.binds (ps:= ["_law_way","_law_size"]) λ_ _ _ _ _ _=>LS λ_ _=>rfl) λcdv A outer s H E hr=>
  (Qa (Hg (Fg (Ni (Sg hr)) (Na 0) (Ia La)) (Va (Ub (Hc (Pf ["_law_k"] ["_law_way","_law_size","_law_counts"] (by walk_at "compok") rfl (Kg T.n_range (Ga (Ge (Ia La) (Na 1)) Xa)) (λC fp pins s H=>⟨(Cd 0 (show bq (["_law_k","_law_way","_law_size","_law_counts"]:List ua) by decide +kernel)),Ti,La⟩))))) Bc)
  (Qa (Hg (Fg (Ni (Sg hr)) (Na 0) (Ia La)) (Va (Ub (Hc (Pf ["_law_k"] ["_law_way","_law_size","_law_counts"] (by walk_at "compok") rfl (Kg T.n_range (Ga (Ge (Ia La) (Na 1)) Xa)) (λC fp pins s H=>⟨(Cd 0 (show bq (["_law_k","_law_way","_law_size","_law_counts"]:List ua) by decide +kernel)),Ti,La⟩))))) Bc)
  (Qa (Hg (Fg (Ni (Sg hr)) (Na 0) (Ia La)) (Va (Ub (Hc (Pf ["_law_k"] ["_law_way","_law_size","_law_counts"] (by walk_at "compok") rfl (Kg T.n_range (Ga (Ge (Ia La) (Na 1)) Xa)) (λC fp pins s H=>⟨(Cd 0 (show bq (["_law_k","_law_way","_law_size","_law_counts"]:List ua) by decide +kernel)),Ti,La⟩))))) Bc)
  (Qa (Hg (Fg (Ni (Sg hr)) (Na 0) (Ia La)) (Qa (Wd 2 Iq.nd (Hc (Dg (Ga (Ge (Ia La) (Ia (CA T.n_int (Ia (Vh (Ni (Sg hr)) (Na 1) (Ia La)))))) (Ga (Ge (Ia La) (Ia (CA T.n_int (Ia (Vh (Ni (Sg hr)) (Na 1) (Ia La)))))) (Ga (Ge (Ia La) (Ia (CA T.n_int (Ia (Vh (Ni (Sg hr)) (Na 1) (Ia La)))))) Xa))))))
  (Va (Ub (Hc (BH (Ia (Hc (BH (Ia (Hc (Pf ["_law_k"] ["_law_way","_law_size","_law_counts"] (by walk_at "compok") rfl (Kg T.n_range (Ga (Pe (Na 2) (Ia La)) Xa)) (λC fp pins s H=>⟨(Cd 0 (show bq (["_law_k","_law_way","_law_size","_law_counts"]:List ua) by decide +kernel)),Ti,La⟩)))) (Ia (Hc (Pf ["_law_k"] ["_law_way","_law_size","_law_counts"] (by walk_at "compok") rfl (Kg T.n_range (Ga (Pe (Na 2) (Ia La)) Xa)) (λC fp pins s H=>⟨(Cd 0 (show bq (["_law_k","_law_way","_law_size","_law_counts"]:List ua) by decide +kernel)),Ti,La⟩))))))) (Ia (Hc (Pf ["_law_k"] ["_law_way","_law_size","_law_counts"] (by walk_at "compok") rfl (Kg T.n_range (Ga (Pe (Na 2) (Ia La)) Xa)) (λC fp pins s H=>⟨(Cd 0 (show bq (["_law_k","_law_way","_law_size","_law_counts"]:List ua) by decide +kernel)),Ti,La⟩))))))))) Bc)
  (Va (Ub (Hc (Dg Xa))))))))
theorem Ef:FnScope ["_law_script","_law_cell","_law_heads_here","_law_one"] ["_law_script"] (Ca Tf):=⟨rfl,rfl,rfl,by decide +kernel,rfl,by decide +kernel,by decide +kernel⟩
theorem Xv(F:Fun K "_law_heads" "_law_heads" Tf f fd)(hm:mg "_law_heads"=some (.ref f))(T:Txt w K mg ca)(F__law_cell_at:Fn P w K mg base 1 "_law_cell_at" 2 Pb)(F__law_many:Fn P w K mg base 1 "_law_many" 2 Yc):Fn P w K mg base 2 "_law_heads" 1 Sd:=
 Mc (k:=1) F Ef hm (F.binds (ps:= ["_law_script"]) λ_ _ _ _ _ _=>us1 λ_=>rfl) λcdv A outer s H E hr=>
  (Qa (Wd 1 Ef.nd (Yb (F__law_cell_at.mono (by decide)) hr (Ga (Ib 0) (Ga La Xa))))
  (Qa (Sx 2 Ef.nd (Dg (Ga La (Ga La Xa))))
  (Qa (Hg (Fg (Ni (Sg hr)) (Ia (Th (Na 1) (Ia La))) (Ia La)) (Va (Wd 2 Ef.nd (Pe (Ia (Hc (Dg (Ga (Hc (Dg Xa)) (Ga (Hc (Dg (Ga La Xa))) (Ga (Hc (Dg (Ga La Xa))) (Ga (Hc (Dg (Ga La (Ga La Xa)))) (Ga (Hc (Dg (Ga La Xa))) Xa)))))))) (Ia (Th (Ia (Ym (Na 1) (Ia La))) (Ia La)))))) Bc)
  (Qa (Sx 2 Ef.nd (BH (Na 2) (Ia (Yb (F__law_many.mono (by decide)) hr (Ga (Th (Ia (Yb (F__law_cell_at.mono (by decide)) hr (Ga (Ib 0) (Ga La Xa)))) (Ia La)) (Ga (Th (Ia (Ym (Ia (Yb (F__law_cell_at.mono (by decide)) hr (Ga (Ib 0) (Ga La Xa)))) (Ia La))) (Ia La)) Xa))))))
  (Qa (Hg (Fg (Ni (Sg hr)) (Ia (Th (Ia (Ym (Na 1) (Ia La))) (Ia La))) (Ia La)) (Va (LF 2)) Bc)
  (Qa (Rx xn rfl (Im (Hc (CH (Na 0) (Om La) (Om La)))) (Cd 3 Ef.nd) (Va (Gv 2 (Pe (Ia (Hc (Dg (Ga La (Ga La (Ga La (Ga La (Ga La (Ga La (Ga La (Ga La (Ga La (Ga La (Ga La (Ga La (Ga La (Ga La Xa))))))))))))))))) (Ia (Th (Na 3) (Ia La)))))))
  (Va (LF 2))))))))
theorem KL:FnScope ["things"] ["things"] (Ca Bl):=⟨rfl,rfl,rfl,by decide +kernel,rfl,by decide +kernel,by decide +kernel⟩
theorem UK(F:Fun K "copied" "copied" Bl f fd)(hm:mg "copied"=some (.ref f))(T:Txt w K mg ca)  :Fn P w K mg base 1 "copied" 1 Rj:=
 Mc (k:=0) F KL hm (F.binds (ps:= ["things"]) λ_ _ _ _ _ _=>us1 λ_=>rfl) λcdv A outer s H E hr=>
  (Va (Ub (Hc (Pf ["name","names"] ["things"] (by walk_at "compok") rfl (Im (Ib 0)) (λC fp pins s H=>⟨(CZ rfl (Vy (Cd 0 (show bq (["name","names","things"]:List ua) by decide +kernel)) (Vy (Cd 1 (show bq (["name","names","things"]:List ua) by decide +kernel)) BZ))),Ti,(OZ (Ga (Ib 0) (Ga (Hc (CB T.n_list (Na 1))) Xa)))⟩)))))
theorem SR:FnScope ["self","rules","doors","wings","grants"] ["self","rules","doors","wings","grants"] (Ca Nn):=⟨rfl,rfl,rfl,by decide +kernel,rfl,by decide +kernel,by decide +kernel⟩
theorem GQ(F:Fun K "__init__" "House.__init__" Nn f fd)(M:Mk K C f)(hm:mg "House"=some (.ref C))(hc:je K aa "House"=some (some (.ref C)))(cl:Cls K C)(na_rules:NoAttr K C "rules")(na_doors:NoAttr K C "doors")(na_wings:NoAttr K C "wings")(na_grants:NoAttr K C "grants")(T:Txt w K mg ca)(F_copied:Fn P w K mg base 1 "copied" 1 Rj):FnI P w K mg base 3 "House" 4 4 Qi:=
 IV (k:=1) F SR M hm hc (F.binds (ps:= ["self","rules","doors","wings","grants"]) λ_ _ _ _ _ _=>us5 λ_ _ _ _ _=>rfl) λcdv A outer s H E hr=>
  (Et cl na_rules (Ib 1)
  (Et cl na_doors (Hc (CB T.n_list (Na 2)))
  (Et cl na_wings (Yb (F_copied.mono (by decide)) hr (Ga (Ib 3) Xa))
  (Et cl na_grants (Yb (F_copied.mono (by decide)) hr (Ga (Ib 4) Xa))
  U2))))
theorem TR:FnScope ["self","row"] ["self","row"] (Ca Pn):=⟨rfl,rfl,rfl,by decide +kernel,rfl,by decide +kernel,by decide +kernel⟩
theorem HQ{S:ia}(F:Fun K "__init__" "NoRow.__init__" Pn f fd)(Z:XInit K C S f)(hm:mg "NoRow"=some (.ref C))(hc:je K aa "NoRow"=some (some (.ref C)))(hS:mg "SmithError"=some (.ref S))(na_row:fg K (.ref C) "row"=some none):FnG P w K mg base 2 "NoRow" [("row",true)]:=
 HV (k:=0) F TR Z hm hc (F.binds (ps:= ["self","row"]) λ_ _ _ _ _ _=>LS λ_ _=>rfl) λcdv A outer s H E hr=>T2 Z hS na_row (AI (E5 1 (AI F5) rfl (by first|exact Or.inl rfl|exact Or.inr (Or.inl rfl)|exact Or.inr (Or.inr rfl)))) (λσ v1 h1 s1=>⟨N2 h1 s1,trivial⟩)
theorem Rz:FnScope ["things","kind"] ["things","kind"] (Ca Ah):=⟨rfl,rfl,rfl,by decide +kernel,rfl,by decide +kernel,by decide +kernel⟩
theorem Gz(F:Fun K "can_stand" "can_stand" Ah f fd)(hm:mg "can_stand"=some (.ref f))(T:Txt w K mg ca)  :Fn P w K mg base 1 "can_stand" 2 Mb:=
 Mc (k:=0) F Rz hm (F.binds (ps:= ["things","kind"]) λ_ _ _ _ _ _=>LS λ_ _=>rfl) λcdv A outer s H E hr=>
  (Qa (Hg (AJ (w_or (Fg Ub0 (Ia (Eh T.n_len (Ia (Ep (Bv 0) (Na 1))))) (Ia (Sn T.c_MOST_OF_A_KIND))) (Xm (Fh (Na0 rfl T.n_any (Ia (Hc (Pf ["later"] ["things","kind"] (by walk_at "compok") rfl (Im (NY T.c_LATER_KINDS (Na 1))) (λC fp pins s H=>⟨(Cd 0 (show bq (["later","things","kind"]:List ua) by decide +kernel)),Ti,(Vh GJ (Ia (Eh T.n_len (Ia (Ep (Bv 1) (Na 0))))) (Ia La))⟩))))))))) (Va (Ub DM)) Bc)
  (Va (Ub (PY (Vh (Ni (Sg hr)) (Na 1) (Ia Xb)) (An (Vh GJ (Ia (Eh T.n_len (Ia (Ep (Bv 0) (Ia Xb))))) (Ia La)))))))
theorem Sz:FnScope ["rules"] ["rules"] (Ca Bh):=⟨rfl,rfl,rfl,by decide +kernel,rfl,by decide +kernel,by decide +kernel⟩
theorem Hz(F:Fun K "depths_of" "depths_of" Bh f fd)(hm:mg "depths_of"=some (.ref f))(T:Txt w K mg ca)  :Fn P w K mg base 1 "depths_of" 1 Ri:=
 Mc (k:=0) F Sz hm (F.binds (ps:= ["rules"]) λ_ _ _ _ _ _=>us1 λ_=>rfl) λcdv A outer s H E hr=>
  (Va (Ub (Pe (Na 0) (Ia La))))
theorem Fw:FnScope ["rules"] ["rules"] (Ca Xf):=⟨rfl,rfl,rfl,by decide +kernel,rfl,by decide +kernel,by decide +kernel⟩
theorem Aw(F:Fun K "heights_of" "heights_of" Xf f fd)(hm:mg "heights_of"=some (.ref f))(T:Txt w K mg ca)  :Fn P w K mg base 1 "heights_of" 1 Mh:=
 Mc (k:=0) F Fw hm (F.binds (ps:= ["rules"]) λ_ _ _ _ _ _=>us1 λ_=>rfl) λcdv A outer s H E hr=>
  (Va (Ub (Pe (Na 0) (Ia La))))
theorem Tz:FnScope ["rules"] ["rules"] (Ca Dh):=⟨rfl,rfl,rfl,by decide +kernel,rfl,by decide +kernel,by decide +kernel⟩
theorem Iz(F:Fun K "places_of" "places_of" Dh f fd)(hm:mg "places_of"=some (.ref f))(T:Txt w K mg ca)  :Fn P w K mg base 1 "places_of" 1 Si:=
 Mc (k:=0) F Tz hm (F.binds (ps:= ["rules"]) λ_ _ _ _ _ _=>us1 λ_=>rfl) λcdv A outer s H E hr=>
  (Va (Ub (Pe (Na 0) (Ia La))))
theorem NF:FnScope ["rules"] ["rules"] (Ca Ij):=⟨rfl,rfl,rfl,by decide +kernel,rfl,by decide +kernel,by decide +kernel⟩
theorem BF(F:Fun K "step_of" "step_of" Ij f fd)(hm:mg "step_of"=some (.ref f))(T:Txt w K mg ca)  :Fn P w K mg base 1 "step_of" 1 Xk:=
 Mc (k:=0) F NF hm (F.binds (ps:= ["rules"]) λ_ _ _ _ _ _=>us1 λ_=>rfl) λcdv A outer s H E hr=>
  (Va (Ub (Pe (Na 0) (Ia La))))
theorem Qm:FnScope ["rules","depths"] ["rules"] (Ca Af):=⟨rfl,rfl,rfl,by decide +kernel,rfl,by decide +kernel,by decide +kernel⟩
theorem Uu(F:Fun K "are_bounded" "are_bounded" Af f fd)(hm:mg "are_bounded"=some (.ref f))(T:Txt w K mg ca)(F_depths_of:Fn P w K mg base 1 "depths_of" 1 Ri)(F_heights_of:Fn P w K mg base 1 "heights_of" 1 Mh)(F_places_of:Fn P w K mg base 1 "places_of" 1 Si)(F_step_of:Fn P w K mg base 1 "step_of" 1 Xk):Fn P w K mg base 2 "are_bounded" 1 Ae:=
 Mc (k:=1) F Qm hm (F.binds (ps:= ["rules"]) λ_ _ _ _ _ _=>us1 λ_=>rfl) λcdv A outer s H E hr=>
  (Qa (Wd 1 Qm.nd (Yb (F_depths_of.mono (by decide)) hr (Ga (Ib 0) Xa)))
  (Qa (Hg (AJ (w_or (Ui (GA Ks Ks (Ia La) (Ia (Yb (F_places_of.mono (by decide)) hr (Ga (Ib 0) Xa))) (Ia (Sn T.c_MOST_PLACES)))) (Xm (Ui (GA Ks Ks (Ia (Sn T.c_LEAST_DEPTHS)) (Na 1) (Ia (Sn T.c_MOST_DEPTHS))))))) (Va (Ub DM)) Bc)
  (Va (Ub (Js (AA Ks Ks (Ia La) (Ia (Yb (F_heights_of.mono (by decide)) hr (Ga (Ib 0) Xa))) (Na 1)) (An (AA Ks Ks (Ia La) (Ia (Yb (F_step_of.mono (by decide)) hr (Ga (Ib 0) Xa))) (Ia (NZ (Na 1) (Ia La))))))))))
theorem ZC:FnScope ["thing"] ["thing"] (Ca Di):=⟨rfl,rfl,rfl,by decide +kernel,rfl,by decide +kernel,by decide +kernel⟩
theorem FC(F:Fun K "is_whole" "is_whole" Di f fd)(hm:mg "is_whole"=some (.ref f))(T:Txt w K mg ca)  :Fn P w K mg base 1 "is_whole" 1 Yh:=
 Mc (k:=0) F ZC hm (F.binds (ps:= ["thing"]) λ_ _ _ _ _ _=>us1 λ_=>rfl) λcdv A outer s H E hr=>
  (Va (Ub (Js (Rq OH (by decide +kernel) T.n_isinstance T.n_int (Na 0)) (An (Oa0 (Rq QB (by decide +kernel) T.n_isinstance T.n_bool (Na 0)))))))
theorem YC:FnScope ["thing"] ["thing"] (Ca Ci):=⟨rfl,rfl,rfl,by decide +kernel,rfl,by decide +kernel,by decide +kernel⟩
theorem EC(F:Fun K "is_rules" "is_rules" Ci f fd)(hm:mg "is_rules"=some (.ref f))(T:Txt w K mg ca)(F_are_bounded:Fn P w K mg base 2 "are_bounded" 1 Ae)(F_is_whole:Fn P w K mg base 1 "is_whole" 1 Yh):Fn P w K mg base 3 "is_rules" 1 Be:=
 Mc (k:=2) F YC hm (F.binds (ps:= ["thing"]) λ_ _ _ _ _ _=>us1 λ_=>rfl) λcdv A outer s H E hr=>
  (Qa (Hg (AJ (w_or (Ui (Fh (Rq HK (by decide +kernel) T.n_isinstance T.n_tuple (Na 0)))) (Xm (Fg (QM (Sg hr)) (Ia (Eh T.n_len (Na 0))) (Ia La))))) (Va (Ub DM)) Bc)
  (Va (Ub (Js (UI rfl T.n_all (Ia (Hc (Pf ["number"] ["thing"] (by walk_at "compok") rfl (Im (Ib 0)) (λC fp pins s H=>⟨(Cd 0 (show bq (["number","thing"]:List ua) by decide +kernel)),Ti,(Yb (F_is_whole.mono (by decide)) hr (Ga (Ib 0) Xa))⟩))))) (An (Yb (F_are_bounded.mono (by decide)) hr (Ga (Ib 0) Xa)))))))
theorem WC:FnScope ["text","signs"] ["text","signs"] (Ca Bi):=⟨rfl,rfl,rfl,by decide +kernel,rfl,by decide +kernel,by decide +kernel⟩
theorem DC(F:Fun K "has_only" "has_only" Bi f fd)(hm:mg "has_only"=some (.ref f))(T:Txt w K mg ca)  :Fn P w K mg base 1 "has_only" 2 Dd:=
 Mc (k:=0) F WC hm (F.binds (ps:= ["text","signs"]) λ_ _ _ _ _ _=>LS λ_ _=>rfl) λcdv A outer s H E hr=>
  (Va (Ub (UI rfl T.n_all (Ia (Hc (Pf ["sign"] ["text","signs"] (by walk_at "compok") rfl (V8 (Ib 0)) (λC fp pins s H=>⟨(Cd 0 (show bq (["sign","text","signs"]:List ua) by decide +kernel)),Ti,(Td0 (Na 0) (Na 2))⟩)))))))
theorem Gw:FnScope ["text","most"] ["text","most"] (Ca Yf):=⟨rfl,rfl,rfl,by decide +kernel,rfl,by decide +kernel,by decide +kernel⟩
theorem Bw(F:Fun K "is_written" "is_written" Yf f fd)(hm:mg "is_written"=some (.ref f))(T:Txt w K mg ca)(F_has_only:Fn P w K mg base 1 "has_only" 2 Dd):Fn P w K mg base 2 "is_written" 2 Ud:=
 Mc (k:=1) F Gw hm (F.binds (ps:= ["text","most"]) λ_ _ _ _ _ _=>LS λ_ _=>rfl) λcdv A outer s H E hr=>
  (Qa (Hg (AJ (w_or (Ui (GA Ks Ks (Ia La) (Ia (Eh T.n_len (Na 0))) (Na 1))) (Xm (Ui (Fh (Yb (F_has_only.mono (by decide)) hr (Ga (Ib 0) (Ga (YI T.c_FIGURES) Xa)))))))) (Va (Ub DM)) Bc)
  (Va (Ub (PY (Vh (Ni (Sg hr)) (Na 0) (Ia Xb)) (An (Vh (QM (Sg hr)) (Ia (Pe (Na 0) (Ia La))) (Ia Xb)))))))
theorem Oo:FnScope ["thing","mark","parts"] ["thing","mark"] (Ca Zf):=⟨rfl,rfl,rfl,by decide +kernel,rfl,by decide +kernel,by decide +kernel⟩
theorem Cw(F:Fun K "numbers_in" "numbers_in" Zf f fd)(hm:mg "numbers_in"=some (.ref f))(T:Txt w K mg ca)(F_is_written:Fn P w K mg base 2 "is_written" 2 Ud):Fn P w K mg base 3 "numbers_in" 2 Uc:=
 Mc (k:=2) F Oo hm (F.binds (ps:= ["thing","mark"]) λ_ _ _ _ _ _=>LS λ_ _=>rfl) λcdv A outer s H E hr=>
  (Qa (Hg (Ui (Fh (Rq Ft (by decide +kernel) T.n_isinstance T.n_str (Na 0)))) (Va (Ub Zm)) Bc)
  (Qa (Wd 2 Oo.nd (Hc (AV (Ib 0) (Ga (Ib 1) Xa))))
  (Qa (Hg (Ui (Fh (UI rfl T.n_all (Ia (Hc (Pf ["part"] ["thing","mark","parts"] (by walk_at "compok") rfl (Im (Ib 2)) (λC fp pins s H=>⟨(Cd 0 (show bq (["part","thing","mark","parts"]:List ua) by decide +kernel)),Ti,(Yb (F_is_written.mono (by decide)) hr (Ga (Ib 0) (Ga (Sn T.c_MOST_FIGURES) Xa)))⟩))))))) (Va (Ub Zm)) Bc)
  (Va (Ub (RY T.n_tuple (Ia (Hc (Pf ["part"] ["thing","mark","parts"] (by walk_at "compok") rfl (Im (Ib 2)) (λC fp pins s H=>⟨(Cd 0 (show bq (["part","thing","mark","parts"]:List ua) by decide +kernel)),Ti,(P6 T.n_int (Na 0))⟩))))))))))
theorem Po:FnScope ["text","rules"] ["text"] (Ca Bg):=⟨rfl,rfl,rfl,by decide +kernel,rfl,by decide +kernel,by decide +kernel⟩
theorem Ew(F:Fun K "read_rules" "read_rules" Bg f fd)(hm:mg "read_rules"=some (.ref f))(T:Txt w K mg ca)(F_is_rules:Fn P w K mg base 3 "is_rules" 1 Be)(F_numbers_in:Fn P w K mg base 3 "numbers_in" 2 Uc):FnX P w K mg base 4 "read_rules" 1 Vb:=
 Sy (k:=3) F Po hm (F.binds (ps:= ["text"]) λ_ _ _ _ _ _=>us1 λ_=>rfl) λcdv A outer s H E hr=>
  (Qa (Ds (Wd 1 Po.nd (Yb (F_numbers_in.mono (by decide)) hr (Ga (Ib 0) (Ga Xb Xa)))))
  (Qa (Hg (LD (Ui (Fh (Yb (F_is_rules.mono (by decide)) hr (Ga (Ib 1) Xa))))) (Va (WX T.x_NoRules BL rfl (Kw (Ga Xb Xa)))) Bc)
  (Va (Ds (Ub (Ib 1))))))
theorem AD:FnScope ["row"] ["row"] (Ca Ei):=⟨rfl,rfl,rfl,by decide +kernel,rfl,by decide +kernel,by decide +kernel⟩
theorem GC(F:Fun K "rules_in" "rules_in" Ei f fd)(hm:mg "rules_in"=some (.ref f))(T:Txt w K mg ca)(F_NoRow:FnG P w K mg base 2 "NoRow" [("row",true)])(F_read_rules:FnX P w K mg base 4 "read_rules" 1 Vb):FnX P w K mg base 5 "rules_in" 1 Wb:=
 Sy (k:=4) F AD hm (F.binds (ps:= ["row"]) λ_ _ _ _ _ _=>us1 λ_=>rfl) λcdv A outer s H E hr=>
  (Qa (Hg (LD (Ui (Fh (VS (Ib 0) (Ga Xb Xa))))) (Va (Hq (F_NoRow.mono (by decide)) hr Mn rfl (Kw (Ga La Xa)))) Bc)
  (Va (XX ["NoRules"] (F_read_rules.mono (by decide)) (qj.mpr ⟨T.m_NoRules_NoRules,xj _⟩) hr (Ga (US (Na 0) (Om (Eh T.n_len (Ia Xb))) Cr) Xa) K3 Bc (F_NoRow.mono (by decide)) hr CL (λ_=>(Ga La Xa)))))
theorem MF:FnScope ["thing"] ["thing"] (Ca Hj):=⟨rfl,rfl,rfl,by decide +kernel,rfl,by decide +kernel,by decide +kernel⟩
theorem AF(F:Fun K "is_name" "is_name" Hj f fd)(hm:mg "is_name"=some (.ref f))(T:Txt w K mg ca)(F_has_only:Fn P w K mg base 1 "has_only" 2 Dd):Fn P w K mg base 2 "is_name" 1 Rc:=
 Mc (k:=1) F MF hm (F.binds (ps:= ["thing"]) λ_ _ _ _ _ _=>us1 λ_=>rfl) λcdv A outer s H E hr=>
  (Qa (Hg (AJ (w_or (Ui (Fh (Rq Ft (by decide +kernel) T.n_isinstance T.n_str (Na 0)))) (Xm (Sa0 (Na 0) (Ia (OY T.c_KEPT_WORDS)))))) (Va (Ub DM)) Bc)
  (Va (Ub (Js (AA Ks Ks (Ia La) (Ia (Eh T.n_len (Na 0))) (Ia (Sn T.c_MOST_LETTERS))) (An (Yb (F_has_only.mono (by decide)) hr (Ga (Ib 0) (Ga (YI T.c_LETTERS) Xa))))))))
theorem Wn:FnScope ["words"] ["words"] (Ca Tc):=⟨rfl,rfl,rfl,by decide +kernel,rfl,by decide +kernel,by decide +kernel⟩
theorem Vn(F:Fun K "are_unlike_names" "are_unlike_names" Tc f fd)(hm:mg "are_unlike_names"=some (.ref f))(T:Txt w K mg ca)(F_is_name:Fn P w K mg base 2 "is_name" 1 Rc):Fn P w K mg base 3 "are_unlike_names" 1 Ac:=
 Mc (k:=2) F Wn hm (F.binds (ps:= ["words"]) λ_ _ _ _ _ _=>us1 λ_=>rfl) λcdv A outer s H E hr=>
  (Va (Ub (Js (UI rfl T.n_all (Ia (Hc (Pf ["word"] ["words"] (by walk_at "compok") rfl (Im (Ib 0)) (λC fp pins s H=>⟨(Cd 0 (show bq (["word","words"]:List ua) by decide +kernel)),Ti,(Yb (F_is_name.mono (by decide)) hr (Ga (Ib 0) Xa))⟩))))) (An (Vh (Ni (Sg hr)) (Ia (EM rfl T.n_len T.n_set (Na 0))) (Ia (Eh T.n_len (Na 0))))))))
theorem BD:FnScope ["words"] ["words"] (Ca Fi):=⟨rfl,rfl,rfl,by decide +kernel,rfl,by decide +kernel,by decide +kernel⟩
theorem HC(F:Fun K "thing_in" "thing_in" Fi f fd)(hm:mg "thing_in"=some (.ref f))(T:Txt w K mg ca)(F_are_unlike_names:Fn P w K mg base 3 "are_unlike_names" 1 Ac)(F_is_name:Fn P w K mg base 2 "is_name" 1 Rc):Fn P w K mg base 4 "thing_in" 1 Ec:=
 Mc (k:=3) F BD hm (F.binds (ps:= ["words"]) λ_ _ _ _ _ _=>us1 λ_=>rfl) λcdv A outer s H E hr=>
  (Qa (Hg (Fg (Ni (Sg hr)) (Ia (Pe (Na 0) (Ia La))) (Ia Xb)) (Va (Ub (Sd0 (AJ (w_and (Fg (Ni (Sg hr)) (Ia (Eh T.n_len (Na 0))) (Ia La)) (IG (Fh (Yb (F_is_name.mono (by decide)) hr (Ga (Pe (Na 0) (Ia La)) Xa)))))) (Pe (Na 0) (Ia La)) Zm))) Bc)
  (Qa (Hg (AJ (w_or (U6 T.c_LINKS (Ia (Pe (Na 0) (Ia La)))) (w_or (Fg X7 (Ia (Eh T.n_len (Na 0))) (Ia La)) (Xm (Fg (QM (Sg hr)) (Ia (Pe (Na 0) (Ia La))) (Ia (WI T.c_LINKS (Ia (Pe (Na 0) (Ia La)))))))))) (Va (Ub Zm)) Bc)
  (Qa (Hg (AJ (w_or (Ui (Fh (Yb (F_is_name.mono (by decide)) hr (Ga (Pe (Na 0) (Ia La)) Xa)))) (Xm (Ui (Fh (Yb (F_are_unlike_names.mono (by decide)) hr (Ga (Hc (CH (Na 0) (Om La) Cr)) Xa))))))) (Va (Ub Zm)) Bc)
  (Va (Ub (OZ (Ga (Pe (Na 0) (Ia La)) (Ga (Hc (CH (Na 0) (Om La) Cr)) Xa))))))))
theorem Ld:FnScope ["text","rows","rules","things","place","row","words","thing"] ["text"] (Ca Ag):=⟨rfl,rfl,rfl,by decide +kernel,rfl,by decide +kernel,by decide +kernel⟩
theorem Dw(F:Fun K "read_house" "read_house" Ag f fd)(hm:mg "read_house"=some (.ref f))(T:Txt w K mg ca)(F_House:FnI P w K mg base 3 "House" 4 4 Qi)(F_NoRow:FnG P w K mg base 2 "NoRow" [("row",true)])(F_can_stand:Fn P w K mg base 1 "can_stand" 2 Mb)(F_rules_in:FnX P w K mg base 5 "rules_in" 1 Wb)(F_thing_in:Fn P w K mg base 4 "thing_in" 1 Ec):FnX P w K mg base 6 "read_house" 1 Fb:=
 Sy (k:=5) F Ld hm (F.binds (ps:= ["text"]) λ_ _ _ _ _ _=>us1 λ_=>rfl) λcdv A outer s H E hr=>
  (Qa (Hg (LD (Ui (Fh (Rq Ft (by decide +kernel) T.n_isinstance T.n_str (Na 0))))) (Va (Hq (F_NoRow.mono (by decide)) hr Mn rfl (Kw (Ga La Xa)))) Bc)
  (Qa (Ds (Wd 1 Ld.nd (Hc (DB (Ib 0) (Ga Xb Xa)))))
  (Qa (Wd 2 Ld.nd (MY (F_rules_in.mono (by decide)) KQ hr (Kw (Ga (Pe (Na 1) (Ia La)) Xa))))
  (Qa (Ds (V9 3 Xb Xb Xb Ld.nd))
  (Qa (Rx PassesOwn.leaving rfl (U8 (NV T.n_enumerate (Ga (Hc (CH (Na 1) (Om La) Cr)) Xa))) (CZ rfl (Vy (Cd 4 Ld.nd) (Vy (Cd 5 Ld.nd) BZ))) (Qa (Ds (Wd 6 Ld.nd (Hc (DB (Ib 5) (Ga Xb Xa)))))
  (Qa (Ds (Wd 7 Ld.nd (Yb (F_thing_in.mono (by decide)) hr (Ga (Ib 6) Xa))))
  (Qa (Hg (LD (AJ (w_or (Ta0 (Na 7)) (Xm (Ui (Fh (R6 3 (Yb (F_can_stand.mono (by decide)) hr (Ga (Ib 3) (Ga (Pe (Na 6) (Ia La)) Xa)))))))))) (Va (Hq (F_NoRow.mono (by decide)) hr Mn rfl (Kw (Ga (Ib 4) Xa)))) Bc)
  (Va (Ds (W5 3 (Pe (Na 6) (Ia La)) (Ib 7))))))))
  (Qa (X5 3 (Hg (LD (Fg (Ni (Sg hr)) (Ia (Eh T.n_len (Ia (Ep (Bv 3) (Ia Xb))))) (Ia La))) (Va (Hq (F_NoRow.mono (by decide)) hr Mn rfl (Kw (Ga (Eh T.n_len (Na 1)) Xa)))) Bc))
  (Va (Ds (Ub (Q6 (F_House.mono (by decide)) hr (Ga (Ib 2) (Ga (Ep (Bv 3) (Ia Xb)) (Ga (Ep (Bv 3) (Ia Xb)) (Ga (Ep (Bv 3) (Ia Xb)) Xa))))))))))))))
theorem Pg:FnScope ["_law_thing","_law_caught","e"] ["_law_thing"] (Ca Oe):=⟨rfl,rfl,rfl,by decide +kernel,rfl,by decide +kernel,by decide +kernel⟩
theorem Vs(F:Fun K "_law_refused" "_law_refused" Oe f fd)(hm:mg "_law_refused"=some (.ref f))(T:Txt w K mg ca)(F_NoRow:FnG P w K mg base 2 "NoRow" [("row",true)])(F_read_house:FnX P w K mg base 6 "read_house" 1 Fb):Fn P w K mg base 7 "_law_refused" 1 Zc:=
 Mc (k:=6) F Pg hm (F.binds (ps:= ["_law_thing"]) λ_ _ _ _ _ _=>us1 λ_=>rfl) λcdv A outer s H E hr=>
  (Qa (Wd 1 Pg.nd Zm)
  (Qa (YX 2 ["NoRow"] (F_read_house.mono (by decide)) (qj.mpr ⟨T.m_SmithError_NoRow,xj _⟩) Pg.nd hr (Ga (Ib 0) Xa) SV Bc (λ_=>(Va (Wd 1 Pg.nd (Ib 2)))))
  (Qa (Hg (AJ (w_or (Ui (Fh (ZI T.i_0 T.n_isinstance (Na 1) (Yd T.v_NoRow)))) (Xm (Ui (Fh (ZI T.i_1 T.n_isinstance (Na 1) (Yd T.v_ValueError))))))) (Va (Ub Zm)) Bc)
  (Qa (Hg (Fh (SS T.i_2 T.n_isinstance (Na 1) (Fd (Yd T.v_NoBarrel) (Fd (Yd T.v_NoCuts) (Fd (Yd T.v_NoDeed) (Fd (Yd T.v_NoPlan) (Fd (Yd T.v_NoRules) (Fd (Yd T.v_NoSay) (Fd (Yd T.v_NoSuch) (Fd (Yd T.v_NoThing) (Fd (Yd T.v_NoTower) BN))))))))))) (Va (Ub Zm)) Bc)
  (Qa (Hg (Fh (SS T.i_3 T.n_isinstance (Na 1) (Fd (Yd T.v_Ring) (Fd (Yd T.v_Shallow) (Fd (Yd T.v_Shared) (Fd (Yd T.v_Steep) (Fd (Yd T.v_TooFlat) (Fd (Yd T.v_TooHigh) (Fd (Yd T.v_TooNarrow) (Fd (Yd T.v_Twice) (Fd (Yd T.v_Unknown) (Fd (Yd T.v_Wrong) BN)))))))))))) (Va (Ub Zm)) Bc)
  (Qa (Hg (AJ (w_or (Ui (Fh (Rq OH (by decide +kernel) T.n_isinstance T.n_int (Ia (QS T.f_row (Ib 1)))))) (Xm (Fh (Rq QB (by decide +kernel) T.n_isinstance T.n_bool (Ia (QS T.f_row (Ib 1)))))))) (Va (Ub Zm)) Bc)
  (Va (Ub (QS T.f_row (Ib 1))))))))))
theorem Mo:FnScope ["_law_cell","_law_k","_law_number"] ["_law_cell","_law_k"] (Ca Vf):=⟨rfl,rfl,rfl,by decide +kernel,rfl,by decide +kernel,by decide +kernel⟩
theorem Yv(F:Fun K "_law_mixed" "_law_mixed" Vf f fd)(hm:mg "_law_mixed"=some (.ref f))(T:Txt w K mg ca)  :Fn P w K mg base 1 "_law_mixed" 2 Ue:=
 Mc (k:=0) F Mo hm (F.binds (ps:= ["_law_cell","_law_k"]) λ_ _ _ _ _ _=>LS λ_ _=>rfl) λcdv A outer s H E hr=>
  (Qa (Wd 2 Mo.nd (Th (Ia (FA (Ia (Ge (Ia (Th (Na 0) (Ia La))) (Ia La))) (Ia (Ge (Ia La) (Ia (FA (Ia La) (Na 1))))))) (Ia La)))
  (Va (Ub (Th (Ia (FA (Na 2) (Na 2))) (Ia La)))))
theorem Cg:FnScope ["_law_cell","_law_number","_law_word","_law_k"] ["_law_cell"] (Ca Yg):=⟨rfl,rfl,rfl,by decide +kernel,rfl,by decide +kernel,by decide +kernel⟩
theorem Ez(F:Fun K "_law_name" "_law_name" Yg f fd)(hm:mg "_law_name"=some (.ref f))(T:Txt w K mg ca)  :Fn P w K mg base 1 "_law_name" 1 Wg:=
 Mc (k:=0) F Cg hm (F.binds (ps:= ["_law_cell"]) λ_ _ _ _ _ _=>us1 λ_=>rfl) λcdv A outer s H E hr=>
  (Qa (Wd 1 Cg.nd (Th (Ia (Ym (Na 0) (Ia La))) (Ia (Pa0 (Ia La) (Ia La)))))
  (Qa (Wd 2 Cg.nd Xb)
  (Qa (Rx xn rfl (Kg T.n_range (Ga (Ge (Ia La) (Ia (Th (Na 0) (Ia La)))) Xa)) (Cd 3 Cg.nd) (Qa (Wd 2 Cg.nd (Ge (Na 2) (Ia (Pe (Ia Xb) (Ia (Th (Na 1) (Ia La)))))))
  (Va (Wd 1 Cg.nd (Ym (Na 1) (Ia La))))))
  (Va (Ub (Ib 2))))))
theorem Qz:FnScope ["_law_word"] ["_law_word"] (Ca Zg):=⟨rfl,rfl,rfl,by decide +kernel,rfl,by decide +kernel,by decide +kernel⟩
theorem Fz(F:Fun K "_law_open" "_law_open" Zg f fd)(hm:mg "_law_open"=some (.ref f))(T:Txt w K mg ca)  :Fn P w K mg base 1 "_law_open" 1 Rf:=
 Mc (k:=0) F Qz hm (F.binds (ps:= ["_law_word"]) λ_ _ _ _ _ _=>us1 λ_=>rfl) λcdv A outer s H E hr=>
  (Qa (Hg (Sa0 (Na 0) (Ia (Hc (Dg (Ga Xb (Ga Xb (Ga Xb (Ga Xb (Ga Xb Xa))))))))) (Va (Ub (Ge (Na 0) (Ia Xb)))) Bc)
  (Va (Ub (Ib 0))))
theorem De:FnScope ["_law_cell","_law_many_here","_law_word","_law_place","_law_some","_law_names_here","_law_k","_law_inner"] ["_law_cell","_law_many_here"] (Ca Wf):=⟨rfl,rfl,rfl,by decide +kernel,rfl,by decide +kernel,by decide +kernel⟩
theorem Zv(F:Fun K "_law_names" "_law_names" Wf f fd)(hm:mg "_law_names"=some (.ref f))(T:Txt w K mg ca)(F__law_name:Fn P w K mg base 1 "_law_name" 1 Wg)(F__law_open:Fn P w K mg base 1 "_law_open" 1 Rf):Fn P w K mg base 2 "_law_names" 2 Td:=
 Mc (k:=1) F De hm (F.binds (ps:= ["_law_cell","_law_many_here"]) λ_ _ _ _ _ _=>LS λ_ _=>rfl) λcdv A outer s H E hr=>
  (Qa (Wd 2 De.nd (Yb (F__law_name.mono (by decide)) hr (Ga (Ib 0) Xa)))
  (Qa (Wd 3 De.nd (Th (Ia (Ym (Na 0) (Ia La))) (Ia (Ge (Ia (Eh T.n_len (Na 2))) (Ia La)))))
  (Qa (Wd 4 De.nd (Pe (Ia (Hc (Dg (Ga Xb (Ga Xb (Ga Xb Xa)))))) (Ia (Th (Ia (Ym (Na 0) (Ia La))) (Ia La)))))
  (Qa (Sx 5 De.nd (Dg Xa))
  (Qa (Rx xn rfl (Kg T.n_range (Ga (Ib 1) Xa)) (Cd 6 De.nd) (Qa (Wd 7 De.nd (Ge (Ia (Pe (Na 4) (Ia (Th (Na 6) (Ia La))))) (Ia (Pe (Na 4) (Ia (Th (Ia (Ym (Na 6) (Ia La))) (Ia La)))))))
  (Va (Gv 5 (Yb (F__law_open.mono (by decide)) hr (Ga (Ge (Ia (Ge (Ia (US (Na 2) Cr (Om (Ib 3)))) (Na 7))) (Ia (US (Na 2) (Om (Ib 3)) Cr))) Xa))))))
  (Va (LF 5)))))))
theorem Es:FnScope ["_law_head","_law_cell","_law_name_here"] ["_law_head","_law_cell"] (Ca Ai):=⟨rfl,rfl,rfl,by decide +kernel,rfl,by decide +kernel,by decide +kernel⟩
theorem CC(F:Fun K "_law_row" "_law_row" Ai f fd)(hm:mg "_law_row"=some (.ref f))(T:Txt w K mg ca)(F__law_mixed:Fn P w K mg base 1 "_law_mixed" 2 Ue)(F__law_names:Fn P w K mg base 2 "_law_names" 2 Td):Fn P w K mg base 3 "_law_row" 2 Ve:=
 Mc (k:=2) F Es hm (F.binds (ps:= ["_law_head","_law_cell"]) λ_ _ _ _ _ _=>LS λ_ _=>rfl) λcdv A outer s H E hr=>
  (Qa (Wd 2 Es.nd (Pe (Ia (Yb (F__law_names.mono (by decide)) hr (Ga (Yb (F__law_mixed.mono (by decide)) hr (Ga (Ib 1) (Ga La Xa))) (Ga La Xa)))) (Ia La)))
  (Qa (Hg (Fg (Ni (Sg hr)) (Na 0) (Ia La)) (Va (Ub (Ge (Ia Xb) (Ia (Pe (Ia (Hc (Dg (Ga Xb (Ga Xb (Ga Xb Xa)))))) (Ia (Th (Na 1) (Ia La)))))))) Bc)
  (Qa (Hg (Fg (Ni (Sg hr)) (Na 0) (Ia La)) (Va (Ub (Ge (Ia Xb) (Na 2)))) Bc)
  (Va (Ub (Ge (Ia (Pe (Ia (Hc (Dg (Ga (Ge (Ia (Ge (Ia Xb) (Na 2))) (Ia Xb)) (Ga (Ge (Ia (Ge (Ia Xb) (Na 2))) (Ia Xb)) Xa))))) (Ia (NZ (Na 0) (Ia La))))) (Ia (Pe (Ia (Hc (Dg (Ga Xb (Ga Xb (Ga Xb Xa)))))) (Ia (Th (Na 1) (Ia La)))))))))))
theorem Hv:FnScope ["rules"] ["rules"] (Ca Cf):=⟨rfl,rfl,rfl,by decide +kernel,rfl,by decide +kernel,by decide +kernel⟩
theorem Wu(F:Fun K "shown_rules" "shown_rules" Cf f fd)(hm:mg "shown_rules"=some (.ref f))(T:Txt w K mg ca)  :Fn P w K mg base 1 "shown_rules" 1 Ze:=
 Mc (k:=0) F Hv hm (F.binds (ps:= ["rules"]) λ_ _ _ _ _ _=>us1 λ_=>rfl) λcdv A outer s H E hr=>
  (Va (Ub (EA Xb (Ga (Hc (Pf ["number"] ["rules"] (by walk_at "compok") rfl (Im (Ib 0)) (λC fp pins s H=>⟨(Cd 0 (show bq (["number","rules"]:List ua) by decide +kernel)),Ti,(QY hr T.n_str (Na 0))⟩))) Xa))))
theorem Iv:FnScope ["kind","thing"] ["kind","thing"] (Ca Df):=⟨rfl,rfl,rfl,by decide +kernel,rfl,by decide +kernel,by decide +kernel⟩
theorem Xu(F:Fun K "shown_thing" "shown_thing" Df f fd)(hm:mg "shown_thing"=some (.ref f))(T:Txt w K mg ca)  :Fn P w K mg base 1 "shown_thing" 2 Vc:=
 Mc (k:=0) F Iv hm (F.binds (ps:= ["kind","thing"]) λ_ _ _ _ _ _=>LS λ_ _=>rfl) λcdv A outer s H E hr=>
  (Va (Ub (EA Xb (Ga (Hc (BH (Ia (Hc (Dg (Ga (Ib 0) (Ga (Pe (Na 1) (Ia La)) (Ga (WI T.c_LINKS (Na 0)) Xa)))))) (Ia (Pe (Na 1) (Ia La))))) Xa))))
theorem Sm:FnScope ["house","rows"] ["house"] (Ca Bf):=⟨rfl,rfl,rfl,by decide +kernel,rfl,by decide +kernel,by decide +kernel⟩
theorem Vu(F:Fun K "shown_house" "shown_house" Bf f fd)(hm:mg "shown_house"=some (.ref f))(T:Txt w K mg ca)(F_shown_rules:Fn P w K mg base 1 "shown_rules" 1 Ze)(F_shown_thing:Fn P w K mg base 1 "shown_thing" 2 Vc):Fn P w K mg base 2 "shown_house" 1 Ce:=
 Mc (k:=1) F Sm hm (F.binds (ps:= ["house"]) λ_ _ _ _ _ _=>us1 λ_=>rfl) λcdv A outer s H E hr=>
  (Qa (Sx 1 Sm.nd (Dg (Ga (Ge (Ia Xb) (Ia (Yb (F_shown_rules.mono (by decide)) hr (Ga (Qv T.o_House_rules (Ib 0)) Xa)))) Xa)))
  (Qa (NR 1 (Pf ["door"] ["house","rows"] (by walk_at "compok") rfl (Im (Qv T.o_House_doors (Ib 0))) (λC fp pins s H=>⟨(Cd 0 (show bq (["door","house","rows"]:List ua) by decide +kernel)),Ti,(Ge (Ia Xb) (Na 0))⟩)))
  (Qa (NR 1 (Pf ["wing"] ["house","rows"] (by walk_at "compok") rfl (Im (Qv T.o_House_wings (Ib 0))) (λC fp pins s H=>⟨(Cd 0 (show bq (["wing","house","rows"]:List ua) by decide +kernel)),Ti,(Yb (F_shown_thing.mono (by decide)) hr (Ga Xb (Ga (Ib 0) Xa)))⟩)))
  (Qa (NR 1 (Pf ["grant"] ["house","rows"] (by walk_at "compok") rfl (Im (Qv T.o_House_grants (Ib 0))) (λC fp pins s H=>⟨(Cd 0 (show bq (["grant","house","rows"]:List ua) by decide +kernel)),Ti,(Yb (F_shown_thing.mono (by decide)) hr (Ga Xb (Ga (Ib 0) Xa)))⟩)))
  (Va (OR 1 (Ub (EA Xb (Ga (Ib 1) Xa)))))))))
theorem Rm:FnScope ["_law_script","_law_heads_here","_law_rows","_law_k","_law_text","_law_due","_law_house","_law_told"] ["_law_script"] (Ca Gq):=⟨rfl,rfl,rfl,by decide +kernel,rfl,by decide +kernel,by decide +kernel⟩
theorem C4(F:Fun K "law" "law" Gq f fd)(T:Txt w K mg ca)(F__law_cell_at:Fn P w K mg base 1 "_law_cell_at" 2 Pb)(F__law_first_bad:Fn P w K mg base 1 "_law_first_bad" 1 Jc)(F__law_heads:Fn P w K mg base 2 "_law_heads" 1 Sd)(F__law_refused:Fn P w K mg base 7 "_law_refused" 1 Zc)(F__law_row:Fn P w K mg base 3 "_law_row" 2 Ve)(F_read_house:FnX P w K mg base 6 "read_house" 1 Fb)(F_shown_house:Fn P w K mg base 2 "shown_house" 1 Ce):FnOk P w K mg base Fp 8 f fd ["_law_script"] (F6 K 1 KP):=
 B2 (k:=7) F Rm λcdv A outer s H E hr=>
  (Qa (Wd 1 Rm.nd (Yb (F__law_heads.mono (by decide)) hr (Ga (Ib 0) Xa)))
  (Qa (Sx 2 Rm.nd (Dg Xa))
  (Qa (Rx xn rfl (Kg T.n_range (Ga (Eh T.n_len (Na 1)) Xa)) (Cd 3 Rm.nd) (Va (Gv 2 (Yb (F__law_row.mono (by decide)) hr (Ga (Pe (Na 1) (Na 3)) (Ga (Ge (Ia (Yb (F__law_cell_at.mono (by decide)) hr (Ga (Ib 0) (Ga (Ge (Ia La) (Ia (Th (Na 3) (Ia La)))) Xa)))) (Ia (FA (Ia La) (Na 3)))) Xa))))))
  (Qa (OR 2 (Wd 4 Rm.nd (EA Xb (Ga (Ib 2) Xa))))
  (Qa (Wd 5 Rm.nd (Yb (F__law_first_bad.mono (by decide)) hr (Ga (Ib 1) Xa)))
  (Qa (Hg (V6 (Na 5)) (Va (Ub (Vh (Ni (Sg hr)) (Ia (Yb (F__law_refused.mono (by decide)) hr (Ga (Ib 4) Xa))) (Na 5)))) Bc)
  (Qa (Wd 6 Rm.nd (LY (F_read_house.mono (by decide)) hr (Ga (Ib 4) Xa)))
  (Qa (Hg (Fg (QM (Sg hr)) (Ia (Hc (Dg (Ga (Eh T.n_len (Ia (Qv T.o_House_doors (Ib 6)))) (Ga (Eh T.n_len (Ia (Qv T.o_House_wings (Ib 6)))) (Ga (Eh T.n_len (Ia (Qv T.o_House_grants (Ib 6)))) Xa)))))) (Ia (Hc (Dg (Ga (BA (Na 1) (Ga La Xa)) (Ga (BA (Na 1) (Ga La Xa)) (Ga (BA (Na 1) (Ga La Xa)) Xa))))))) (Va (Ub DM)) Bc)
  (Qa (Wd 7 Rm.nd (Yb (F_shown_house.mono (by decide)) hr (Ga (Ib 6) Xa)))
  (Va (Ub (Js (Rq Ft (by decide +kernel) T.n_isinstance T.n_str (Na 7)) (An (Vh (Ni (Sg hr)) (Na 7) (Na 4)))))))))))))))
end
variable{l:PySem.W.OpenLaw}
theorem all_mk{h:pd}{fa:ia}(X:K.In h)(G:h.Ns aa mg)(hfa:mg "law"=some (.ref fa)){f0:ia}{od0 an0:Option ia}{sl0:Array (Option Da)}{oc0 kV0 dc0 pm0 cd0 ct0:Da}{f1:ia}{od1 an1:Option ia}{sl1:Array (Option Da)}{oc1 kV1 dc1 pm1 cd1 ct1:Da}{f2:ia}{od2 an2:Option ia}{sl2:Array (Option Da)}{oc2 kV2 dc2 pm2 cd2 ct2:Da}{f3:ia}{od3 an3:Option ia}{sl3:Array (Option Da)}{oc3 kV3 dc3 pm3 cd3 ct3:Da}{f4:ia}{od4 an4:Option ia}{sl4:Array (Option Da)}{oc4 kV4 dc4 pm4 cd4 ct4:Da}{f5:ia}{od5 an5:Option ia}{sl5:Array (Option Da)}{oc5 kV5 dc5 pm5 cd5 ct5:Da}{C5:ia}{f6:ia}{od6 an6:Option ia}{sl6:Array (Option Da)}{oc6 kV6 dc6 pm6 cd6 ct6:Da}{C6 S6 xN6:ia}{xm6 xq6:ua}{xb6 xe6 xs6:List Da}{xh6 xa6:Bool}{xn6:List ua}{xo6:Option Bool}{xd6:Option ia}{x0_6 x1_6 x2_6 x3_6 x5_6:Option Da}{xc6:ClassData}{f7:ia}{od7 an7:Option ia}{sl7:Array (Option Da)}{oc7 kV7 dc7 pm7 cd7 ct7:Da}{f8:ia}{od8 an8:Option ia}{sl8:Array (Option Da)}{oc8 kV8 dc8 pm8 cd8 ct8:Da}{f9:ia}{od9 an9:Option ia}{sl9:Array (Option Da)}{oc9 kV9 dc9 pm9 cd9 ct9:Da}{f10:ia}{od10 an10:Option ia}{sl10:Array (Option Da)}{oc10 kV10 dc10 pm10 cd10 ct10:Da}{f11:ia}{od11 an11:Option ia}{sl11:Array (Option Da)}{oc11 kV11 dc11 pm11 cd11 ct11:Da}{f12:ia}{od12 an12:Option ia}{sl12:Array (Option Da)}{oc12 kV12 dc12 pm12 cd12 ct12:Da}{f13:ia}{od13 an13:Option ia}{sl13:Array (Option Da)}{oc13 kV13 dc13 pm13 cd13 ct13:Da}{f14:ia}{od14 an14:Option ia}{sl14:Array (Option Da)}{oc14 kV14 dc14 pm14 cd14 ct14:Da}{f15:ia}{od15 an15:Option ia}{sl15:Array (Option Da)}{oc15 kV15 dc15 pm15 cd15 ct15:Da}{f16:ia}{od16 an16:Option ia}{sl16:Array (Option Da)}{oc16 kV16 dc16 pm16 cd16 ct16:Da}{f17:ia}{od17 an17:Option ia}{sl17:Array (Option Da)}{oc17 kV17 dc17 pm17 cd17 ct17:Da}{f18:ia}{od18 an18:Option ia}{sl18:Array (Option Da)}{oc18 kV18 dc18 pm18 cd18 ct18:Da}{f19:ia}{od19 an19:Option ia}{sl19:Array (Option Da)}{oc19 kV19 dc19 pm19 cd19 ct19:Da}{f20:ia}{od20 an20:Option ia}{sl20:Array (Option Da)}{oc20 kV20 dc20 pm20 cd20 ct20:Da}{f21:ia}{od21 an21:Option ia}{sl21:Array (Option Da)}{oc21 kV21 dc21 pm21 cd21 ct21:Da}{f22:ia}{od22 an22:Option ia}{sl22:Array (Option Da)}{oc22 kV22 dc22 pm22 cd22 ct22:Da}{f23:ia}{od23 an23:Option ia}{sl23:Array (Option Da)}{oc23 kV23 dc23 pm23 cd23 ct23:Da}{f24:ia}{od24 an24:Option ia}{sl24:Array (Option Da)}{oc24 kV24 dc24 pm24 cd24 ct24:Da}{f25:ia}{od25 an25:Option ia}{sl25:Array (Option Da)}{oc25 kV25 dc25 pm25 cd25 ct25:Da}{f26:ia}{od26 an26:Option ia}{sl26:Array (Option Da)}{oc26 kV26 dc26 pm26 cd26 ct26:Da}{f27:ia}{od27 an27:Option ia}{sl27:Array (Option Da)}{oc27 kV27 dc27 pm27 cd27 ct27:Da}{f28:ia}{od28 an28:Option ia}{sl28:Array (Option Da)}{oc28 kV28 dc28 pm28 cd28 ct28:Da}{f29:ia}{od29 an29:Option ia}{sl29:Array (Option Da)}{oc29 kV29 dc29 pm29 cd29 ct29:Da}{f30:ia}{od30 an30:Option ia}{sl30:Array (Option Da)}{oc30 kV30 dc30 pm30 cd30 ct30:Da}{f31:ia}{od31 an31:Option ia}{sl31:Array (Option Da)}{oc31 kV31 dc31 pm31 cd31 ct31:Da}{f32:ia}{od32 an32:Option ia}{sl32:Array (Option Da)}{oc32 kV32 dc32 pm32 cd32 ct32:Da}{f33:ia}{od33 an33:Option ia}{sl33:Array (Option Da)}{oc33 kV33 dc33 pm33 cd33 ct33:Da}{t0:Tok}{u1:ia}{ud1:Option ia}{ui1:Array Da}{un1:Nat}{us1:Array (Option Da)}{u2:ia}{un2:Nat}{uh2_0:Int}{ut2_0:Tok}{uc2_0:ia}{ud2_0:Option ia}{ui2_0:Array Da}{um2_0:Nat}{us2_0:Array (Option Da)}{uh2_1:Int}{ut2_1:Tok}{uc2_1:ia}{ud2_1:Option ia}{ui2_1:Array Da}{um2_1:Nat}{us2_1:Array (Option Da)}{uh2_2:Int}{ut2_2:Tok}{uc2_2:ia}{ud2_2:Option ia}{ui2_2:Array Da}{um2_2:Nat}{us2_2:Array (Option Da)}{t3:Tok}{t4:Tok}{u5:ia}{un5:Nat}{uh5_0:Int}{ut5_0 uv5_0:Tok}{uh5_1:Int}{ut5_1 uv5_1:Tok}{t6:Tok}{t7:Tok}{t8:Tok}{t9:Tok}{t10:Tok}{ck0:ia}{ck1:ia}{ck2:ia}{ck4:ia}{ck5:ia}{ck6:ia}{ck7:ia}{ck8:ia}{ck9:ia}{ck10:ia}{ck11:ia}{ck12:ia}{ck13:ia}{ck14:ia}{ck15:ia}{ck16:ia}{ck17:ia}{ck18:ia}{ck19:ia}{ck20:ia}{ck21:ia}(a0:je K aa "_law_cell_at"=some (some (.ref f0)))(l0:K.lookup f0=some ⟨oc0,od0,.func (mj "_law_cell_at" "_law_cell_at" (Jb Me) (Eb Me) (Ca Me) .none kV0 dc0 pm0 an0 cd0 ct0),sl0⟩)(c0:gg K cd0 "_law_cell_at"=true)(k0:kf K (.ref f0)=true)(a1:je K aa "_law_first_bad"=some (some (.ref f1)))(l1:K.lookup f1=some ⟨oc1,od1,.func (mj "_law_first_bad" "_law_first_bad" (Jb Md) (Eb Md) (Ca Md) .none kV1 dc1 pm1 an1 cd1 ct1),sl1⟩)(c1:gg K cd1 "_law_first_bad"=true)(k1:kf K (.ref f1)=true)(a2:je K aa "_law_many"=some (some (.ref f2)))(l2:K.lookup f2=some ⟨oc2,od2,.func (mj "_law_many" "_law_many" (Jb Xg) (Eb Xg) (Ca Xg) .none kV2 dc2 pm2 an2 cd2 ct2),sl2⟩)(c2:gg K cd2 "_law_many"=true)(k2:kf K (.ref f2)=true)(a3:je K aa "_law_heads"=some (some (.ref f3)))(l3:K.lookup f3=some ⟨oc3,od3,.func (mj "_law_heads" "_law_heads" (Jb Tf) (Eb Tf) (Ca Tf) .none kV3 dc3 pm3 an3 cd3 ct3),sl3⟩)(c3:gg K cd3 "_law_heads"=true)(k3:kf K (.ref f3)=true)(a4:je K aa "copied"=some (some (.ref f4)))(l4:K.lookup f4=some ⟨oc4,od4,.func (mj "copied" "copied" (Jb Bl) (Eb Bl) (Ca Bl) .none kV4 dc4 pm4 an4 cd4 ct4),sl4⟩)(c4:gg K cd4 "copied"=true)(k4:kf K (.ref f4)=true)(aC5:je K aa "House"=some (some (.ref C5)))(a5:fg K (.ref C5) "__init__"=some (some (.ref f5)))(i5:isFn K (.ref f5)=true)(l5:K.lookup f5=some ⟨oc5,od5,.func (mj "__init__" "House.__init__" (Jb Nn) (Eb Nn) (Ca Nn) .none kV5 dc5 pm5 an5 cd5 ct5),sl5⟩)(c5:gg K cd5 "House.__init__"=true)(k5:kf K (.ref f5)=true)(pg5:plainGet K C5 Str.empty=true)(hd5:zn K C5=true)(po5:plainOver K C5=true)(sa5:fg K (.ref C5) "__setattr__"=some (some (.builtin "object.__setattr__")))(mk5:makesIn K C5=true)(kc5:kf K (.ref C5)=true)(n5_rules:fg K (.ref C5) "rules"=some none)(n5_doors:fg K (.ref C5) "doors"=some none)(n5_wings:fg K (.ref C5) "wings"=some none)(n5_grants:fg K (.ref C5) "grants"=some none)(aC6:je K aa "NoRow"=some (some (.ref C6)))(aS6:je K aa "SmithError"=some (some (.ref S6)))(ex6:K.lookup C6=some (im xm6 xq6 C6 xN6 xb6 xe6 xh6 xn6 xs6 xa6 xo6 xd6 x0_6 x1_6 x2_6 x3_6 x5_6 "ValueError.__new__"))(eo6:PySem.W.nsOkIn K xN6=true)(ei6:je K xN6 "__init__"=some (some (.ref f6)))(et6:PySem.W.tailIn K MS xe6=true)(ef6:typeIn K (.ref f6)=some (.type "function"))(kc6:kf K (.ref C6)=true)(sa6:fg K (.ref C6) "__setattr__"=some (some (.builtin "object.__setattr__")))(em6:nv K C6 (.type "object")=some true)(el6:PySem.W.clsIn K C6=some xc6)(ev6:Ox 2 xc6.mro=true)(eh6:xc6.hasDict=true)(eg6:specialIn K (.ref S6) "__getattribute__"=some (some (.builtin "type.__getattribute__")))(er6:PySem.W.readsIn K S6 (.type "type")=true)(eb6:PySem.W.findCls K (.ref S6) (.type "type") "__init__"=some (.val (.builtin "ValueError.__init__")))(en6_row:fg K (.ref C6) "row"=some none)(l6:K.lookup f6=some ⟨oc6,od6,.func (mj "__init__" "NoRow.__init__" (Jb Pn) (Eb Pn) (Ca Pn) .none kV6 dc6 pm6 an6 cd6 ct6),sl6⟩)(c6:gg K cd6 "NoRow.__init__"=true)(k6:kf K (.ref f6)=true)(xa6:fg K (.ref C6) "__getattribute__"=some (some (.builtin "BaseException.__getattribute__")))(xb6:fg K (.ref C6) "__getattr__"=some none)(xc6:fg K (.ref C6) "__class__"=some (some (.builtin "object.__class__")))(xd6:nv K C6 (.type "BaseException")=some true)(xf6:zn K C6=true)(a7:je K aa "can_stand"=some (some (.ref f7)))(l7:K.lookup f7=some ⟨oc7,od7,.func (mj "can_stand" "can_stand" (Jb Ah) (Eb Ah) (Ca Ah) .none kV7 dc7 pm7 an7 cd7 ct7),sl7⟩)(c7:gg K cd7 "can_stand"=true)(k7:kf K (.ref f7)=true)(a8:je K aa "depths_of"=some (some (.ref f8)))(l8:K.lookup f8=some ⟨oc8,od8,.func (mj "depths_of" "depths_of" (Jb Bh) (Eb Bh) (Ca Bh) .none kV8 dc8 pm8 an8 cd8 ct8),sl8⟩)(c8:gg K cd8 "depths_of"=true)(k8:kf K (.ref f8)=true)(a9:je K aa "heights_of"=some (some (.ref f9)))(l9:K.lookup f9=some ⟨oc9,od9,.func (mj "heights_of" "heights_of" (Jb Xf) (Eb Xf) (Ca Xf) .none kV9 dc9 pm9 an9 cd9 ct9),sl9⟩)(c9:gg K cd9 "heights_of"=true)(k9:kf K (.ref f9)=true)(a10:je K aa "places_of"=some (some (.ref f10)))(l10:K.lookup f10=some ⟨oc10,od10,.func (mj "places_of" "places_of" (Jb Dh) (Eb Dh) (Ca Dh) .none kV10 dc10 pm10 an10 cd10 ct10),sl10⟩)(c10:gg K cd10 "places_of"=true)(k10:kf K (.ref f10)=true)(a11:je K aa "step_of"=some (some (.ref f11)))(l11:K.lookup f11=some ⟨oc11,od11,.func (mj "step_of" "step_of" (Jb Ij) (Eb Ij) (Ca Ij) .none kV11 dc11 pm11 an11 cd11 ct11),sl11⟩)(c11:gg K cd11 "step_of"=true)(k11:kf K (.ref f11)=true)(a12:je K aa "are_bounded"=some (some (.ref f12)))(l12:K.lookup f12=some ⟨oc12,od12,.func (mj "are_bounded" "are_bounded" (Jb Af) (Eb Af) (Ca Af) .none kV12 dc12 pm12 an12 cd12 ct12),sl12⟩)(c12:gg K cd12 "are_bounded"=true)(k12:kf K (.ref f12)=true)(a13:je K aa "is_whole"=some (some (.ref f13)))(l13:K.lookup f13=some ⟨oc13,od13,.func (mj "is_whole" "is_whole" (Jb Di) (Eb Di) (Ca Di) .none kV13 dc13 pm13 an13 cd13 ct13),sl13⟩)(c13:gg K cd13 "is_whole"=true)(k13:kf K (.ref f13)=true)(a14:je K aa "is_rules"=some (some (.ref f14)))(l14:K.lookup f14=some ⟨oc14,od14,.func (mj "is_rules" "is_rules" (Jb Ci) (Eb Ci) (Ca Ci) .none kV14 dc14 pm14 an14 cd14 ct14),sl14⟩)(c14:gg K cd14 "is_rules"=true)(k14:kf K (.ref f14)=true)(a15:je K aa "has_only"=some (some (.ref f15)))(l15:K.lookup f15=some ⟨oc15,od15,.func (mj "has_only" "has_only" (Jb Bi) (Eb Bi) (Ca Bi) .none kV15 dc15 pm15 an15 cd15 ct15),sl15⟩)(c15:gg K cd15 "has_only"=true)(k15:kf K (.ref f15)=true)(a16:je K aa "is_written"=some (some (.ref f16)))(l16:K.lookup f16=some ⟨oc16,od16,.func (mj "is_written" "is_written" (Jb Yf) (Eb Yf) (Ca Yf) .none kV16 dc16 pm16 an16 cd16 ct16),sl16⟩)(c16:gg K cd16 "is_written"=true)(k16:kf K (.ref f16)=true)(a17:je K aa "numbers_in"=some (some (.ref f17)))(l17:K.lookup f17=some ⟨oc17,od17,.func (mj "numbers_in" "numbers_in" (Jb Zf) (Eb Zf) (Ca Zf) .none kV17 dc17 pm17 an17 cd17 ct17),sl17⟩)(c17:gg K cd17 "numbers_in"=true)(k17:kf K (.ref f17)=true)(a18:je K aa "read_rules"=some (some (.ref f18)))(l18:K.lookup f18=some ⟨oc18,od18,.func (mj "read_rules" "read_rules" (Jb Bg) (Eb Bg) (Ca Bg) .none kV18 dc18 pm18 an18 cd18 ct18),sl18⟩)(c18:gg K cd18 "read_rules"=true)(k18:kf K (.ref f18)=true)(a19:je K aa "rules_in"=some (some (.ref f19)))(l19:K.lookup f19=some ⟨oc19,od19,.func (mj "rules_in" "rules_in" (Jb Ei) (Eb Ei) (Ca Ei) .none kV19 dc19 pm19 an19 cd19 ct19),sl19⟩)(c19:gg K cd19 "rules_in"=true)(k19:kf K (.ref f19)=true)(a20:je K aa "is_name"=some (some (.ref f20)))(l20:K.lookup f20=some ⟨oc20,od20,.func (mj "is_name" "is_name" (Jb Hj) (Eb Hj) (Ca Hj) .none kV20 dc20 pm20 an20 cd20 ct20),sl20⟩)(c20:gg K cd20 "is_name"=true)(k20:kf K (.ref f20)=true)(a21:je K aa "are_unlike_names"=some (some (.ref f21)))(l21:K.lookup f21=some ⟨oc21,od21,.func (mj "are_unlike_names" "are_unlike_names" (Jb Tc) (Eb Tc) (Ca Tc) .none kV21 dc21 pm21 an21 cd21 ct21),sl21⟩)(c21:gg K cd21 "are_unlike_names"=true)(k21:kf K (.ref f21)=true)(a22:je K aa "thing_in"=some (some (.ref f22)))(l22:K.lookup f22=some ⟨oc22,od22,.func (mj "thing_in" "thing_in" (Jb Fi) (Eb Fi) (Ca Fi) .none kV22 dc22 pm22 an22 cd22 ct22),sl22⟩)(c22:gg K cd22 "thing_in"=true)(k22:kf K (.ref f22)=true)(a23:je K aa "read_house"=some (some (.ref f23)))(l23:K.lookup f23=some ⟨oc23,od23,.func (mj "read_house" "read_house" (Jb Ag) (Eb Ag) (Ca Ag) .none kV23 dc23 pm23 an23 cd23 ct23),sl23⟩)(c23:gg K cd23 "read_house"=true)(k23:kf K (.ref f23)=true)(a24:je K aa "_law_refused"=some (some (.ref f24)))(l24:K.lookup f24=some ⟨oc24,od24,.func (mj "_law_refused" "_law_refused" (Jb Oe) (Eb Oe) (Ca Oe) .none kV24 dc24 pm24 an24 cd24 ct24),sl24⟩)(c24:gg K cd24 "_law_refused"=true)(k24:kf K (.ref f24)=true)(a25:je K aa "_law_mixed"=some (some (.ref f25)))(l25:K.lookup f25=some ⟨oc25,od25,.func (mj "_law_mixed" "_law_mixed" (Jb Vf) (Eb Vf) (Ca Vf) .none kV25 dc25 pm25 an25 cd25 ct25),sl25⟩)(c25:gg K cd25 "_law_mixed"=true)(k25:kf K (.ref f25)=true)(a26:je K aa "_law_name"=some (some (.ref f26)))(l26:K.lookup f26=some ⟨oc26,od26,.func (mj "_law_name" "_law_name" (Jb Yg) (Eb Yg) (Ca Yg) .none kV26 dc26 pm26 an26 cd26 ct26),sl26⟩)(c26:gg K cd26 "_law_name"=true)(k26:kf K (.ref f26)=true)(a27:je K aa "_law_open"=some (some (.ref f27)))(l27:K.lookup f27=some ⟨oc27,od27,.func (mj "_law_open" "_law_open" (Jb Zg) (Eb Zg) (Ca Zg) .none kV27 dc27 pm27 an27 cd27 ct27),sl27⟩)(c27:gg K cd27 "_law_open"=true)(k27:kf K (.ref f27)=true)(a28:je K aa "_law_names"=some (some (.ref f28)))(l28:K.lookup f28=some ⟨oc28,od28,.func (mj "_law_names" "_law_names" (Jb Wf) (Eb Wf) (Ca Wf) .none kV28 dc28 pm28 an28 cd28 ct28),sl28⟩)(c28:gg K cd28 "_law_names"=true)(k28:kf K (.ref f28)=true)(a29:je K aa "_law_row"=some (some (.ref f29)))(l29:K.lookup f29=some ⟨oc29,od29,.func (mj "_law_row" "_law_row" (Jb Ai) (Eb Ai) (Ca Ai) .none kV29 dc29 pm29 an29 cd29 ct29),sl29⟩)(c29:gg K cd29 "_law_row"=true)(k29:kf K (.ref f29)=true)(a30:je K aa "shown_rules"=some (some (.ref f30)))(l30:K.lookup f30=some ⟨oc30,od30,.func (mj "shown_rules" "shown_rules" (Jb Cf) (Eb Cf) (Ca Cf) .none kV30 dc30 pm30 an30 cd30 ct30),sl30⟩)(c30:gg K cd30 "shown_rules"=true)(k30:kf K (.ref f30)=true)(a31:je K aa "shown_thing"=some (some (.ref f31)))(l31:K.lookup f31=some ⟨oc31,od31,.func (mj "shown_thing" "shown_thing" (Jb Df) (Eb Df) (Ca Df) .none kV31 dc31 pm31 an31 cd31 ct31),sl31⟩)(c31:gg K cd31 "shown_thing"=true)(k31:kf K (.ref f31)=true)(a32:je K aa "shown_house"=some (some (.ref f32)))(l32:K.lookup f32=some ⟨oc32,od32,.func (mj "shown_house" "shown_house" (Jb Bf) (Eb Bf) (Ca Bf) .none kV32 dc32 pm32 an32 cd32 ct32),sl32⟩)(c32:gg K cd32 "shown_house"=true)(k32:kf K (.ref f32)=true)(a33:je K aa "law"=some (some (.ref f33)))(l33:K.lookup f33=some ⟨oc33,od33,.func (mj "law" "law" (Jb Gq) (Eb Gq) (Ca Gq) .none kV33 dc33 pm33 an33 cd33 ct33),sl33⟩)(c33:gg K cd33 "law"=true)(k33:kf K (.ref f33)=true)(z0:je K aa "ValueError"=some none)(z1:je K aa "all"=some none)(z2:je K aa "any"=some none)(z3:je K aa "bool"=some none)(z4:je K aa "enumerate"=some none)(z5:je K aa "int"=some none)(z6:je K aa "isinstance"=some none)(z7:je K aa "len"=some none)(z8:je K aa "list"=some none)(z9:je K aa "range"=some none)(z10:je K aa "set"=some none)(z11:je K aa "str"=some none)(z12:je K aa "tuple"=some none)(y0:je K aa "FIGURES"=some (some (.str "0123456789" t0)))(y1:je K aa "KEPT_WORDS"=some (some (.ref u1)))(w1:K.lookup u1=some ⟨.type "tuple",ud1,.seq ui1 un1,us1⟩)(v1:Vals ((["door","key","opens","rules","wing"]:List ua).map V.str) ui1.toList)(y2:je K aa "LATER_KINDS"=some (some (.ref u2)))(w2:K.lookup u2=some ⟨.type "dict",none,.dict #[⟨uh2_0,.str "door" ut2_0,.ref uc2_0⟩,⟨uh2_1,.str "wing" ut2_1,.ref uc2_1⟩,⟨uh2_2,.str "key" ut2_2,.ref uc2_2⟩] un2,#[]⟩)(s2:(u2==jk)=false)(h2_0:uh2_0=hashStr w "door")(w2_0:K.lookup uc2_0=some ⟨.type "tuple",ud2_0,.seq ui2_0 um2_0,us2_0⟩)(v2_0:Vals ((["wing","key"]:List ua).map V.str) ui2_0.toList)(h2_1:uh2_1=hashStr w "wing")(w2_1:K.lookup uc2_1=some ⟨.type "tuple",ud2_1,.seq ui2_1 um2_1,us2_1⟩)(v2_1:Vals ((["key"]:List ua).map V.str) ui2_1.toList)(h2_2:uh2_2=hashStr w "key")(w2_2:K.lookup uc2_2=some ⟨.type "tuple",ud2_2,.seq ui2_2 um2_2,us2_2⟩)(v2_2:Vals (([]:List ua).map V.str) ui2_2.toList)(y3:je K aa "LEAST_DEPTHS"=some (some (.int 2 t3)))(y4:je K aa "LETTERS"=some (some (.str "abcdefghijklmnopqrstuvwxyz" t4)))(y5:je K aa "LINKS"=some (some (.ref u5)))(w5:K.lookup u5=some ⟨.type "dict",none,.dict #[⟨uh5_0,.str "wing" ut5_0,.str "=" uv5_0⟩,⟨uh5_1,.str "key" ut5_1,.str "opens" uv5_1⟩] un5,#[]⟩)(h5_0:uh5_0=hashStr w "wing")(h5_1:uh5_1=hashStr w "key")(s5:(u5==jk)=false)(y6:je K aa "MOST_DEPTHS"=some (some (.int 20 t6)))(y7:je K aa "MOST_FIGURES"=some (some (.int 3 t7)))(y8:je K aa "MOST_LETTERS"=some (some (.int 12 t8)))(y9:je K aa "MOST_OF_A_KIND"=some (some (.int 60 t9)))(y10:je K aa "MOST_PLACES"=some (some (.int 24 t10)))(cn0:je K aa "NoRules"=some (some (.ref ck0)))(cn1:je K aa "NoRow"=some (some (.ref ck1)))(cn2:je K aa "SmithError"=some (some (.ref ck2)))(cn4:je K aa "NoBarrel"=some (some (.ref ck4)))(cn5:je K aa "NoCuts"=some (some (.ref ck5)))(cn6:je K aa "NoDeed"=some (some (.ref ck6)))(cn7:je K aa "NoPlan"=some (some (.ref ck7)))(cn8:je K aa "NoSay"=some (some (.ref ck8)))(cn9:je K aa "NoSuch"=some (some (.ref ck9)))(cn10:je K aa "NoThing"=some (some (.ref ck10)))(cn11:je K aa "NoTower"=some (some (.ref ck11)))(cn12:je K aa "Ring"=some (some (.ref ck12)))(cn13:je K aa "Shallow"=some (some (.ref ck13)))(cn14:je K aa "Shared"=some (some (.ref ck14)))(cn15:je K aa "Steep"=some (some (.ref ck15)))(cn16:je K aa "TooFlat"=some (some (.ref ck16)))(cn17:je K aa "TooHigh"=some (some (.ref ck17)))(cn18:je K aa "TooNarrow"=some (some (.ref ck18)))(cn19:je K aa "Twice"=some (some (.ref ck19)))(cn20:je K aa "Unknown"=some (some (.ref ck20)))(cn21:je K aa "Wrong"=some (some (.ref ck21)))(cx0:excIn K ck0 bmV "ValueError.__new__"=true)(cm0_0:exmOne K (.ref ck0) (.ref ck0)=some true)(cm2_1:exmOne K (.ref ck1) (.ref ck2)=some true)(ea_1:fg K (.ref ck1) "__getattribute__"=some (some (.builtin "BaseException.__getattribute__")))(eb_1:fg K (.ref ck1) "__getattr__"=some none)(ec_1:fg K (.ref ck1) "__class__"=some (some (.builtin "object.__class__")))(ed_1:nv K ck1 (.type "object")=some true)(ee_1:nv K ck1 (.type "BaseException")=some true)(ea_0:fg K (.ref ck0) "__getattribute__"=some (some (.builtin "BaseException.__getattribute__")))(eb_0:fg K (.ref ck0) "__getattr__"=some none)(ec_0:fg K (.ref ck0) "__class__"=some (some (.builtin "object.__class__")))(ed_0:nv K ck0 (.type "object")=some true)(ee_0:nv K ck0 (.type "BaseException")=some true)(ek0_0:gv K (.ref ck0) [.ref ck1]=some false)(ek0_1:gv K (.ref ck1) [.ref ck1]=some true)(ek1_0:gv K (.ref ck0) [.type "ValueError"]=some true)(ek1_1:gv K (.ref ck1) [.type "ValueError"]=some true)(ek2_0:gv K (.ref ck0) [.ref ck4,.ref ck5,.ref ck6,.ref ck7,.ref ck0,.ref ck8,.ref ck9,.ref ck10,.ref ck11]=some true)(ek2_1:gv K (.ref ck1) [.ref ck4,.ref ck5,.ref ck6,.ref ck7,.ref ck0,.ref ck8,.ref ck9,.ref ck10,.ref ck11]=some false)(ek3_0:gv K (.ref ck0) [.ref ck12,.ref ck13,.ref ck14,.ref ck15,.ref ck16,.ref ck17,.ref ck18,.ref ck19,.ref ck20,.ref ck21]=some false)(ek3_1:gv K (.ref ck1) [.ref ck12,.ref ck13,.ref ck14,.ref ck15,.ref ck16,.ref ck17,.ref ck18,.ref ck19,.ref ck20,.ref ck21]=some false)
  :∃ fd:lg,(∀ (s:ka) (v:Da),xu s fd ⟨[v],[]⟩ [("_law_script",v)])/\∀ base:pd,K.In base->base.Ns aa mg->FnOk l.prog w K mg base Fp 8 fa fd ["_law_script"] (KI K):=by
 have e:=hfa.symm.trans (lf X G a33);cases e;have T:Txt w K mg (λi=>([.ref ck0,.ref ck1,.ref ck2,.ty "ValueError",.ref ck4,.ref ck5,.ref ck6,.ref ck7,.ref ck8,.ref ck9,.ref ck10,.ref ck11,.ref ck12,.ref ck13,.ref ck14,.ref ck15,.ref ck16,.ref ck17,.ref ck18,.ref ck19,.ref ck20,.ref ck21]:List V).getD i .non):=⟨di X G z0,di X G z1,di X G z2,di X G z3,di X G z4,di X G z5,di X G z6,di X G z7,di X G z8,di X G z9,di X G z10,di X G z11,di X G z12,⟨t0,lf X G y0⟩,⟨⟨u1,_,ui1,un1,lf X G y1,w1,rfl,rfl,by have:=v1.length;rw[qe];simp at this;omega,v1⟩⟩,⟨⟨u2,_,_,un2,lf X G y2,w2,⟨rfl,rfl,rfl⟩,rfl,(.cons ⟨h2_0,⟨_,rfl⟩,uc2_0,_,ui2_0,um2_0,rfl,w2_0,rfl,rfl,by have:=v2_0.length;rw[qe];simp at this;omega,v2_0⟩ (.cons ⟨h2_1,⟨_,rfl⟩,uc2_1,_,ui2_1,um2_1,rfl,w2_1,rfl,rfl,by have:=v2_1.length;rw[qe];simp at this;omega,v2_1⟩ (.cons ⟨h2_2,⟨_,rfl⟩,uc2_2,_,ui2_2,um2_2,rfl,w2_2,rfl,rfl,by have:=v2_2.length;rw[qe];simp at this;omega,v2_2⟩ .nil))),by decide +kernel,s2⟩⟩,⟨t3,lf X G y3⟩,⟨t4,lf X G y4⟩,⟨⟨u5,_,_,un5,lf X G y5,w5,⟨rfl,rfl,rfl⟩,rfl,(.cons ⟨h5_0,⟨_,rfl⟩,_,rfl⟩ (.cons ⟨h5_1,⟨_,rfl⟩,_,rfl⟩ .nil)),by decide +kernel,s5⟩⟩,⟨t6,lf X G y6⟩,⟨t7,lf X G y7⟩,⟨t8,lf X G y8⟩,⟨t9,lf X G y9⟩,⟨t10,lf X G y10⟩,⟨⟨C5,aC5,⟨pg5,hd5,po5,sa5⟩,n5_doors⟩⟩,⟨⟨C5,aC5,⟨pg5,hd5,po5,sa5⟩,n5_grants⟩⟩,⟨⟨C5,aC5,⟨pg5,hd5,po5,sa5⟩,n5_rules⟩⟩,⟨⟨C5,aC5,⟨pg5,hd5,po5,sa5⟩,n5_wings⟩⟩,qj.mpr ⟨⟨C6,aC6,⟨xa6,xb6,xc6,em6,xd6⟩,xf6,en6_row⟩,xj _⟩,⟨ck0,cn0,cx0⟩,⟨_,_,cn0,cn0,cm0_0⟩,⟨_,_,cn1,cn2,cm2_1⟩,.own (lf X G cn4),.own (lf X G cn5),.own (lf X G cn6),.own (lf X G cn7),.own (lf X G cn1),.own (lf X G cn0),.own (lf X G cn8),.own (lf X G cn9),.own (lf X G cn10),.own (lf X G cn11),.own (lf X G cn12),.own (lf X G cn13),.own (lf X G cn14),.own (lf X G cn15),.own (lf X G cn16),.own (lf X G cn17),.own (lf X G cn18),.own (lf X G cn19),.own (lf X G cn20),.blt (di X G z0) PyProof.Rows.Boot.«ValueError» (by decide),.own (lf X G cn21),(Vg cn1 ⟨ea_1,eb_1,ec_1,ed_1,ee_1⟩ ek0_1 (Vg cn0 ⟨ea_0,eb_0,ec_0,ed_0,ee_0⟩ ek0_0 (Rp (Ic Lp)))),(Vg cn1 ⟨ea_1,eb_1,ec_1,ed_1,ee_1⟩ ek1_1 (Vg cn0 ⟨ea_0,eb_0,ec_0,ed_0,ee_0⟩ ek1_0 (Rp (GU Lp)))),(Vg cn1 ⟨ea_1,eb_1,ec_1,ed_1,ee_1⟩ ek2_1 (Vg cn0 ⟨ea_0,eb_0,ec_0,ed_0,ee_0⟩ ek2_0 (Rp (Ic (Ic (Ic (Ic (Ic (Ic (Ic (Ic (Ic Lp)))))))))))),(Vg cn1 ⟨ea_1,eb_1,ec_1,ed_1,ee_1⟩ ek3_1 (Vg cn0 ⟨ea_0,eb_0,ec_0,ed_0,ee_0⟩ ek3_0 (Rp (Ic (Ic (Ic (Ic (Ic (Ic (Ic (Ic (Ic (Ic Lp)))))))))))))⟩
 refine⟨mj "law" "law" (Jb Gq) (Eb Gq) (Ca Gq) .none kV33 dc33 pm33 an33 cd33 ct33,λs v=>.of_eq rfl,λbase _ _=>?_⟩;have F__law_cell_at:Fn l.prog w K mg base 1 "_law_cell_at" 2 Pb:=Us (Dc (st:=Me) l0 c0 k0) (lf X G a0) T;have F__law_first_bad:Fn l.prog w K mg base 1 "_law_first_bad" 1 Jc:=Bq (Dc (st:=Md) l1 c1 k1) (lf X G a1) T;have F__law_many:Fn l.prog w K mg base 1 "_law_many" 2 Yc:=Dz (Dc (st:=Xg) l2 c2 k2) (lf X G a2) T;have F__law_heads:Fn l.prog w K mg base 2 "_law_heads" 1 Sd:=Xv (Dc (st:=Tf) l3 c3 k3) (lf X G a3) T F__law_cell_at F__law_many;have F_copied:Fn l.prog w K mg base 1 "copied" 1 Rj:=UK (Dc (st:=Bl) l4 c4 k4) (lf X G a4) T;have F_House:FnI l.prog w K mg base 3 "House" 4 4 Qi:=GQ (Dc (st:=Nn) l5 c5 k5) ⟨mk5,a5,i5,kc5⟩ (lf X G aC5) aC5 ⟨pg5,hd5,po5,sa5⟩ n5_rules n5_doors n5_wings n5_grants T F_copied;have F_NoRow:FnG l.prog w K mg base 2 "NoRow" [("row",true)]:=HQ (Dc (st:=Pn) l6 c6 k6) ⟨⟨_,_,_,_,_,_,_,_,_,_,_,_,_,_,_,_,ex6,eo6,ei6,et6⟩,ef6,kc6,sa6,em6,⟨_,2,el6,ev6,eh6⟩,eg6,er6,eb6⟩ (lf X G aC6) aC6 (lf X G aS6) en6_row;have F_can_stand:Fn l.prog w K mg base 1 "can_stand" 2 Mb:=Gz (Dc (st:=Ah) l7 c7 k7) (lf X G a7) T;have F_depths_of:Fn l.prog w K mg base 1 "depths_of" 1 Ri:=Hz (Dc (st:=Bh) l8 c8 k8) (lf X G a8) T;have F_heights_of:Fn l.prog w K mg base 1 "heights_of" 1 Mh:=Aw (Dc (st:=Xf) l9 c9 k9) (lf X G a9) T;have F_places_of:Fn l.prog w K mg base 1 "places_of" 1 Si:=Iz (Dc (st:=Dh) l10 c10 k10) (lf X G a10) T;have F_step_of:Fn l.prog w K mg base 1 "step_of" 1 Xk:=BF (Dc (st:=Ij) l11 c11 k11) (lf X G a11) T;have F_are_bounded:Fn l.prog w K mg base 2 "are_bounded" 1 Ae:=Uu (Dc (st:=Af) l12 c12 k12) (lf X G a12) T F_depths_of F_heights_of F_places_of F_step_of;have F_is_whole:Fn l.prog w K mg base 1 "is_whole" 1 Yh:=FC (Dc (st:=Di) l13 c13 k13) (lf X G a13) T;have F_is_rules:Fn l.prog w K mg base 3 "is_rules" 1 Be:=EC (Dc (st:=Ci) l14 c14 k14) (lf X G a14) T F_are_bounded F_is_whole;have F_has_only:Fn l.prog w K mg base 1 "has_only" 2 Dd:=DC (Dc (st:=Bi) l15 c15 k15) (lf X G a15) T;have F_is_written:Fn l.prog w K mg base 2 "is_written" 2 Ud:=Bw (Dc (st:=Yf) l16 c16 k16) (lf X G a16) T F_has_only;have F_numbers_in:Fn l.prog w K mg base 3 "numbers_in" 2 Uc:=Cw (Dc (st:=Zf) l17 c17 k17) (lf X G a17) T F_is_written;have F_read_rules:FnX l.prog w K mg base 4 "read_rules" 1 Vb:=Ew (Dc (st:=Bg) l18 c18 k18) (lf X G a18) T F_is_rules F_numbers_in;have F_rules_in:FnX l.prog w K mg base 5 "rules_in" 1 Wb:=GC (Dc (st:=Ei) l19 c19 k19) (lf X G a19) T F_NoRow F_read_rules;have F_is_name:Fn l.prog w K mg base 2 "is_name" 1 Rc:=AF (Dc (st:=Hj) l20 c20 k20) (lf X G a20) T F_has_only;have F_are_unlike_names:Fn l.prog w K mg base 3 "are_unlike_names" 1 Ac:=Vn (Dc (st:=Tc) l21 c21 k21) (lf X G a21) T F_is_name;have F_thing_in:Fn l.prog w K mg base 4 "thing_in" 1 Ec:=HC (Dc (st:=Fi) l22 c22 k22) (lf X G a22) T F_are_unlike_names F_is_name;have F_read_house:FnX l.prog w K mg base 6 "read_house" 1 Fb:=Dw (Dc (st:=Ag) l23 c23 k23) (lf X G a23) T F_House F_NoRow F_can_stand F_rules_in F_thing_in;have F__law_refused:Fn l.prog w K mg base 7 "_law_refused" 1 Zc:=Vs (Dc (st:=Oe) l24 c24 k24) (lf X G a24) T F_NoRow F_read_house;have F__law_mixed:Fn l.prog w K mg base 1 "_law_mixed" 2 Ue:=Yv (Dc (st:=Vf) l25 c25 k25) (lf X G a25) T;have F__law_name:Fn l.prog w K mg base 1 "_law_name" 1 Wg:=Ez (Dc (st:=Yg) l26 c26 k26) (lf X G a26) T;have F__law_open:Fn l.prog w K mg base 1 "_law_open" 1 Rf:=Fz (Dc (st:=Zg) l27 c27 k27) (lf X G a27) T;have F__law_names:Fn l.prog w K mg base 2 "_law_names" 2 Td:=Zv (Dc (st:=Wf) l28 c28 k28) (lf X G a28) T F__law_name F__law_open;have F__law_row:Fn l.prog w K mg base 3 "_law_row" 2 Ve:=CC (Dc (st:=Ai) l29 c29 k29) (lf X G a29) T F__law_mixed F__law_names;have F_shown_rules:Fn l.prog w K mg base 1 "shown_rules" 1 Ze:=Wu (Dc (st:=Cf) l30 c30 k30) (lf X G a30) T;have F_shown_thing:Fn l.prog w K mg base 1 "shown_thing" 2 Vc:=Xu (Dc (st:=Df) l31 c31 k31) (lf X G a31) T;have F_shown_house:Fn l.prog w K mg base 2 "shown_house" 1 Ce:=Vu (Dc (st:=Bf) l32 c32 k32) (lf X G a32) T F_shown_rules F_shown_thing;exact S3 (C4 (Dc (st:=Gq) l33 c33 k33) T F__law_cell_at F__law_first_bad F__law_heads F__law_refused F__law_row F_read_house F_shown_house) law_true
theorem walk{q:ic}{loose:List ua}{XP:(ua->Option Da)->pd->Prop}{YP:yd->pd->Prop}{d:DefRec}{K:Params->td}(hn:l.most=some 63)(hdf:d.params.defaults= [])(hY:∀ (w:yd) (h:pd),YP w h->(K w.params).In h)(F:∀ (w:yd) (mg:ua->Option Da) (fa:ia) (h:pd),(K w.params).In h->h.Ns aa mg->mg d.name=some (.ref fa)->
   ∃ fd:lg,(∀ (s:ka) (u:Da),xu s fd ⟨[u],[]⟩ [("_law_script",u)])/\∀ base:pd,(K w.params).In base->base.Ns aa mg->FnOk l.prog w (K w.params) mg base Fp 8 fa fd ["_law_script"] (KI (K w.params))):
  PySem.W.WalkO q loose XP YP l.row.toRowW d [] (λf vs=>PySem.call f vs):=
 L2.walk_of (n:=63) (k:=8) (x:="_law_script") (CX:=λ_=>Fp) (sp:=λw=>KI (K w.params)) hn (by decide) hdf ⟨rfl,by decide,by decide,rfl⟩ hY F (λ_ _ a ns hl _ hS=>⟨a,ns,rfl,hS,hl,(λ_ h=>nomatch h),λ_ _=>rfl⟩) λ_ _ _ _ _ z=>z
end G
open PySem PySem.W PyProof.Rows
theorem PySem.W.Fast.tw9510685202660210067 : True := trivial
theorem PySem.W.Fast.tw3141228415224812725 : True := trivial
theorem PySem.W.Fast.tw2956955780708056097 : True := trivial
theorem PySem.W.Fast.tw11562310923533725562 : True := trivial
theorem PySem.W.Fast.tw9651330852391656143 : True := trivial
theorem PySem.W.Fast.tw9518657651380138644 : True := trivial
theorem PySem.W.Fast.tw18189702841700244239 : True := trivial
theorem PySem.W.Fast.tw10701815677631594335 : True := trivial
theorem PySem.W.Fast.tw3040699074832723470 : True := trivial
theorem PySem.W.Fast.tw11823018635241309876 : True := trivial
theorem PySem.W.Fast.tw13055933470409692683 : True := trivial
theorem PySem.W.Fast.tw8273300246850344286 : True := trivial
theorem PySem.W.Fast.tw4580213053842232338 : True := trivial
theorem PySem.W.Fast.tw7841424563385436759 : True := trivial
theorem PySem.W.Fast.tw5530688696908041782 : True := trivial
theorem PySem.W.Fast.tw9567150715257481495 : True := trivial
theorem PySem.W.Fast.tw4119479416467260032 : True := trivial
theorem PySem.W.Fast.tw17370233598306573204 : True := trivial
theorem PySem.W.Fast.tw6203341330113944174 : True := trivial
theorem PySem.W.Fast.tw259226080219789899 : True := trivial
theorem PySem.W.Fast.tw1298523538238071645 : True := trivial
theorem PySem.W.Fast.tw6801776227236154429 : True := trivial
theorem PySem.W.Fast.tw15545665870777839585 : True := trivial
theorem PySem.W.Fast.tw4015766515294688074 : True := trivial
theorem PySem.W.Fast.tw2660033411151132738 : True := trivial
theorem PySem.W.Fast.tw3941674552382547096 : True := trivial
theorem PySem.W.Fast.tw7578212053021732351 : True := trivial
theorem PySem.W.Fast.tw7013255813324622530 : True := trivial
theorem PySem.W.Fast.tw3789431215533845292 : True := trivial
theorem PySem.W.Fast.tw16650615491269349636 : True := trivial
theorem PySem.W.Fast.tw29712768687197263 : True := trivial
theorem PySem.W.Fast.tw9521092503810045850 : True := trivial
theorem PySem.W.Fast.tw1144905527899298922 : True := trivial
theorem PySem.W.Fast.tw3988782840320552245 : True := trivial
theorem PySem.W.Fast.tw703455729933533661 : True := trivial
theorem PySem.W.Fast.tw11708446814305947448 : True := trivial
theorem PySem.W.Fast.tw12110533979093220629 : True := trivial
theorem PySem.W.Fast.tw7036445169324912408 : True := trivial
theorem PySem.W.Fast.tw9526057249011958734 : True := trivial
theorem PySem.W.Fast.tw15433623843403501434 : True := trivial
theorem PySem.W.Fast.tw7462450348079278850 : True := trivial
theorem PySem.W.Fast.tw1878811352856359762 : True := trivial
theorem PySem.W.Fast.tw10373754494193332713 : True := trivial
theorem PySem.W.Fast.tw4010348667152642257 : True := trivial
theorem PySem.W.Fast.tw10228671071818069375 : True := trivial
theorem PySem.W.Fast.tw9427161607614856300 : True := trivial
theorem PySem.W.Fast.tw15210149252944607167 : True := trivial
theorem PySem.W.Fast.tw1419630398413468807 : True := trivial
theorem PySem.W.Fast.tw9654464877622444123 : True := trivial
theorem PySem.W.Fast.tw5432126189349581018 : True := trivial
theorem PySem.W.Fast.tw14095699232252101641 : True := trivial
theorem PySem.W.Fast.tw367466228174262443 : True := trivial
theorem PySem.W.Fast.tw9118840139160831529 : True := trivial
theorem PySem.W.Fast.tw8358975713281496218 : True := trivial
theorem PySem.W.Fast.tw15369802384457964632 : True := trivial
theorem PySem.W.Fast.tw16750637698044640352 : True := trivial
theorem PySem.W.Fast.tw8168361556189514818 : True := trivial
theorem PySem.W.Fast.tw7161078869623843013 : True := trivial
theorem PySem.W.Fast.tw5610040160049901652 : True := trivial
theorem PySem.W.Fast.tw8379951612472113451 : True := trivial
theorem PySem.W.Fast.tw12179354433275387721 : True := trivial
theorem PySem.W.Fast.tw15652079377081283628 : True := trivial
theorem PySem.W.Fast.tw12567447340877613642 : True := trivial
theorem PySem.W.Fast.tw5199014422350938751 : True := trivial
theorem PySem.W.Fast.tw4437126194837426491 : True := trivial
theorem PySem.W.Fast.tw15327092417914825754 : True := trivial
theorem PySem.W.Fast.tw8989546551663089160 : True := trivial
theorem PySem.W.Fast.tw10341820076075711973 : True := trivial
theorem PySem.W.Fast.tw14604285609899470582 : True := trivial
theorem PySem.W.Fast.tw259618465685192729 : True := trivial
theorem PySem.W.Fast.tw2595533495818519033 : True := trivial
theorem PySem.W.Fast.tw16508627569018115771 : True := trivial
theorem PySem.W.Fast.tw8309683128486106135 : True := trivial
theorem PySem.W.Fast.tw4664628553608007911 : True := trivial
theorem PySem.W.Fast.tw15493107956074989914 : True := trivial
theorem PySem.W.Fast.tw7263814473698828994 : True := trivial
theorem PySem.W.Fast.tw13620603662016069283 : True := trivial
theorem PySem.W.Fast.tw13213267254708314989 : True := trivial
theorem PySem.W.Fast.tw6349468310104071240 : True := trivial
theorem PySem.W.Fast.tw11768171113352972506 : True := trivial
theorem PySem.W.Fast.tw14353524709388877611 : True := trivial
theorem PySem.W.Fast.tw15453673361162307133 : True := trivial
theorem PySem.W.Fast.tw2907111036474341597 : True := trivial
theorem PySem.W.Fast.tw11932118097441135343 : True := trivial
theorem PySem.W.Fast.tw13970857288891031818 : True := trivial
theorem PySem.W.Fast.tw7599277993549689893 : True := trivial
theorem PySem.W.Fast.tw9386750038352818659 : True := trivial
theorem PySem.W.Fast.tw16379298221778235191 : True := trivial
theorem PySem.W.Fast.tw15818574657160964224 : True := trivial
theorem PySem.W.Fast.tw14461147876198605968 : True := trivial
theorem PySem.W.Fast.tw15615856200826210790 : True := trivial
theorem PySem.W.Fast.tw109000849267710863 : True := trivial
theorem PySem.W.Fast.tw5929069640339154663 : True := trivial
theorem PySem.W.Fast.tw12538336015890250257 : True := trivial
theorem PySem.W.Fast.tw4579619169758359072 : True := trivial
theorem PySem.W.Fast.tw11630009668284053033 : True := trivial
theorem PySem.W.Fast.tw1777507944248570362 : True := trivial
theorem PySem.W.Fast.tw13637516494045483841 : True := trivial
theorem PySem.W.Fast.tw14558649689763051671 : True := trivial
theorem PySem.W.Fast.tw4685830523810608659 : True := trivial
theorem PySem.W.Fast.tw6048587358510497235 : True := trivial
theorem PySem.W.Fast.tw7443951106239858089 : True := trivial
theorem PySem.W.Fast.tw15415583862378541294 : True := trivial
theorem PySem.W.Fast.tw7181553038447172229 : True := trivial
theorem PySem.W.Fast.tw8729311418811659225 : True := trivial
theorem PySem.W.Fast.tw10331546898567125916 : True := trivial
theorem PySem.W.Fast.tw17399290135746342849 : True := trivial
theorem PySem.W.Fast.tw17074572470474802015 : True := trivial
theorem PySem.W.Fast.tw11443466928879895933 : True := trivial
theorem PySem.W.Fast.tw2071837553035789528 : True := trivial
theorem PySem.W.Fast.tw13959689102142861627 : True := trivial
theorem PySem.W.Fast.tw12400350484375262430 : True := trivial
theorem PySem.W.Fast.tw1882516764860648958 : True := trivial
theorem PySem.W.Fast.tw1571275213392706067 : True := trivial
theorem PySem.W.Fast.tw6578800382315940594 : True := trivial
theorem PySem.W.Fast.tw12672672657119869176 : True := trivial
theorem PySem.W.Fast.tw1018913637706779660 : True := trivial
theorem PySem.W.Fast.tw3264763014423684284 : True := trivial
theorem PySem.W.Fast.tw16480009455451264582 : True := trivial
theorem PySem.W.Fast.tw15595554526565922787 : True := trivial
theorem PySem.W.Fast.tw17848328974676622644 : True := trivial
theorem PySem.W.Fast.tw6752291048456940354 : True := trivial
theorem PySem.W.Fast.tw14445600577769707212 : True := trivial
theorem PySem.W.Fast.tw16518907989873092623 : True := trivial
theorem PySem.W.Fast.tw10031508117191306991 : True := trivial
theorem PySem.W.Fast.tw3661588879079517097 : True := trivial
theorem PySem.W.Fast.tw15763350855893555619 : True := trivial
theorem PySem.W.Fast.tw2189095485680097852 : True := trivial
theorem PySem.W.Fast.tw13773518065807170076 : True := trivial
theorem PySem.W.Fast.tw8195531773859569984 : True := trivial
theorem PySem.W.Fast.tw10662934613468693899 : True := trivial
theorem PySem.W.Fast.tw3388857974169295271 : True := trivial
theorem PySem.W.Fast.tw8643177035603921177 : True := trivial
theorem PySem.W.Fast.tw3981767649788118484 : True := trivial
theorem PySem.W.Fast.tw10230181044699710520 : True := trivial
theorem PySem.W.Fast.tw3132187665402010138 : True := trivial
theorem PySem.W.Fast.tw8583043015218530957 : True := trivial
theorem PySem.W.Fast.tw4509760226527440913 : True := trivial
theorem PySem.W.Fast.tw5066332048003217128 : True := trivial
theorem PySem.W.Fast.tw17893160974421077006 : True := trivial
theorem PySem.W.Fast.tw17731213740683146661 : True := trivial
theorem PySem.W.Fast.tw17956634160252118516 : True := trivial
theorem PySem.W.Fast.tw2545037101918909181 : True := trivial
theorem PySem.W.Fast.tw7617095272397497944 : True := trivial
theorem PySem.W.Fast.tw16002145313276099441 : True := trivial
theorem PySem.W.Fast.tw1735595326433954078 : True := trivial
theorem PySem.W.Fast.tw12778280431283432468 : True := trivial
theorem PySem.W.Fast.tw5890082666701677545 : True := trivial
theorem PySem.W.Fast.tw4798672573233231029 : True := trivial
theorem PySem.W.Fast.tw15600834094843551279 : True := trivial
theorem PySem.W.Fast.tw9492147768472283375 : True := trivial
theorem PySem.W.Fast.tw3538148096755812065 : True := trivial
theorem PySem.W.Fast.tw14905568421679006559 : True := trivial
theorem PySem.W.Fast.tw2183271956162817009 : True := trivial
theorem PySem.W.Fast.tw3731965592810451857 : True := trivial
theorem PySem.W.Fast.tw1003389823166557160 : True := trivial
theorem PySem.W.Fast.tw10740006928049410300 : True := trivial
theorem PySem.W.Fast.tw337331911057459559 : True := trivial
theorem PySem.W.Fast.tw11803697353734031991 : True := trivial
theorem PySem.W.Fast.tw9045323405522705630 : True := trivial
theorem PySem.W.Fast.tw17004994688307103054 : True := trivial
theorem PySem.W.Fast.tw5245231211117841222 : True := trivial
theorem PySem.W.Fast.tw15802746918927556874 : True := trivial
theorem PySem.W.Fast.tw11678312048058687154 : True := trivial
theorem PySem.W.Fast.tw17759680166948870647 : True := trivial
theorem PySem.W.Fast.tw9722521097010121546 : True := trivial
theorem PySem.W.Fast.tw15993674721496013889 : True := trivial
theorem PySem.W.Fast.tw8790988922741288444 : True := trivial
theorem PySem.W.Fast.tw15512099609400577533 : True := trivial
theorem PySem.W.Fast.tw16006899141903181745 : True := trivial
theorem PySem.W.Fast.tw1308859022849988368 : True := trivial
theorem PySem.W.Fast.tw474809332276561476 : True := trivial
theorem PySem.W.Fast.tw13589597087479738343 : True := trivial
theorem PySem.W.Fast.tw11545147732249811784 : True := trivial
theorem PySem.W.Fast.tw7132651530367419851 : True := trivial
theorem PySem.W.Fast.tw7272628058100777179 : True := trivial
theorem PySem.W.Fast.tw4620298117605512886 : True := trivial
theorem PySem.W.Fast.tw14542988042854451695 : True := trivial
theorem PySem.W.Fast.tw13254386095903064636 : True := trivial
theorem PySem.W.Fast.tw4049016283194570776 : True := trivial
theorem PySem.W.Fast.tw12100813280340926178 : True := trivial
theorem PySem.W.Fast.tw11329355172769182365 : True := trivial
theorem PySem.W.Fast.tw7509604469735359156 : True := trivial
theorem PySem.W.Fast.tw10662472387725947847 : True := trivial
theorem PySem.W.Fast.tw13248572502933991821 : True := trivial
theorem PySem.W.Fast.tw15389387297271801338 : True := trivial
theorem PySem.W.Fast.tw12154213596480901993 : True := trivial
theorem PySem.W.Fast.tw6283032784542105482 : True := trivial
theorem PySem.W.Fast.tw11800537053839940086 : True := trivial
theorem PySem.W.Fast.tw1939863250786473743 : True := trivial
theorem PySem.W.Fast.tw2040888416438427812 : True := trivial
theorem PySem.W.Fast.tw13076811007781090841 : True := trivial
theorem PySem.W.Fast.tw15976431166121102436 : True := trivial
theorem PySem.W.Fast.tw3899202381229968456 : True := trivial
theorem PySem.W.Fast.tw16518548282163691302 : True := trivial
theorem PySem.W.Fast.tw6514898828007035980 : True := trivial
theorem PySem.W.Fast.tw17897193027183054276 : True := trivial
theorem PySem.W.Fast.tw4287609346278994177 : True := trivial
theorem PySem.W.Fast.tw12122836489352281213 : True := trivial
theorem PySem.W.Fast.tw15415570460748987744 : True := trivial
theorem PySem.W.Fast.tw5977158392802934048 : True := trivial
theorem PySem.W.Fast.tw5403941965666680743 : True := trivial
theorem PySem.W.Fast.tw4374755062515901033 : True := trivial
theorem PySem.W.Fast.tw13280437163836613934 : True := trivial
theorem PySem.W.Fast.tw17247530473672745774 : True := trivial
theorem PySem.W.Fast.tw12557308347289386274 : True := trivial
theorem PySem.W.Fast.tw17803799401645349975 : True := trivial
theorem PySem.W.Fast.tw13282334645899972342 : True := trivial
theorem PySem.W.Fast.tw14651391525222416169 : True := trivial
theorem PySem.W.Fast.tw3782950393902320267 : True := trivial
theorem PySem.W.Fast.tw16427420228856108033 : True := trivial
theorem PySem.W.Fast.tw7360550022668278879 : True := trivial
theorem PySem.W.Fast.tw1684344804693235963 : True := trivial
theorem PySem.W.Fast.tw14214820505441450726 : True := trivial
theorem PySem.W.Fast.tw5124066212106874815 : True := trivial
theorem PySem.W.Fast.tw3144312520116656042 : True := trivial
theorem PySem.W.Fast.tw7067683999107585446 : True := trivial
theorem PySem.W.Fast.tw18235835900480514758 : True := trivial
theorem PySem.W.Fast.tw17958575273852281619 : True := trivial
theorem PySem.W.Fast.tw5822549769275653753 : True := trivial
theorem PySem.W.Fast.tw15561044359961814078 : True := trivial
theorem PySem.W.Fast.tw17665130185602725848 : True := trivial
theorem PySem.W.Fast.tw8598914321769402376 : True := trivial
theorem PySem.W.Fast.tw12563661992663641764 : True := trivial
theorem PySem.W.Fast.tw8169944062976583044 : True := trivial
theorem PySem.W.Fast.tw11566903598375598126 : True := trivial
theorem PySem.W.Fast.tw8950785362396958774 : True := trivial
theorem PySem.W.Fast.tw18257711891700520693 : True := trivial
theorem PySem.W.Fast.tw14011831295034985726 : True := trivial
theorem PySem.W.Fast.tw13232072520877257090 : True := trivial
theorem PySem.W.Fast.tw11413647454431784911 : True := trivial
theorem PySem.W.Fast.tw16161546685180865407 : True := trivial
theorem PySem.W.Fast.tw15759717093918821795 : True := trivial
theorem PySem.W.Fast.tw14306541317495936662 : True := trivial
theorem PySem.W.Fast.tw4098376332245405600 : True := trivial
theorem PySem.W.Fast.tw12844850064313680996 : True := trivial
theorem PySem.W.Fast.tw41423908558320661 : True := trivial
theorem PySem.W.Fast.tw82221595933140667 : True := trivial
theorem PySem.W.Fast.tw18230653209389666663 : True := trivial
theorem PySem.W.Fast.tw16413519013182084437 : True := trivial
theorem PySem.W.Fast.tw928976022990859382 : True := trivial
theorem PySem.W.Fast.tw16595750500251375492 : True := trivial
theorem PySem.W.Fast.tw2324308191544852067 : True := trivial
theorem PySem.W.Fast.tw11112136603840717938 : True := trivial
theorem PySem.W.Fast.tw5318792964691538230 : True := trivial
theorem PySem.W.Fast.tw1392764990130182667 : True := trivial
theorem PySem.W.Fast.tw14280816067102778035 : True := trivial
theorem PySem.W.Fast.tw14241051020631425999 : True := trivial
theorem PySem.W.Fast.tw3947272278279460192 : True := trivial
theorem PySem.W.Fast.tw5148178677350446234 : True := trivial
theorem PySem.Challenge.cw_wardsmith_k33_where_rows_stand_holds : PySem.Challenge.rw_wardsmith_k33_where_rows_stand.Holds := by
 w_on;o_law;k_head;(case hw=>w_witness2)
 k_fill
 refine G.walk (l:=PySem.Challenge.rw_wardsmith_k33_where_rows_stand) rfl rfl (λw h Y=>PySem.W.kIn_of Y) ?F
 case F=>
  intro w mg fa h KX GG hmg;refine' G.all_mk KX GG hmg ?a0 ?l0 ?c0 ?k0 ?a1 ?l1 ?c1 ?k1 ?a2 ?l2 ?c2 ?k2 ?a3 ?l3 ?c3 ?k3 ?a4 ?l4 ?c4 ?k4 ?aC5 ?a5 ?i5 ?l5 ?c5 ?k5 ?pg5 ?hd5 ?po5 ?sa5 ?mk5 ?kc5 ?n5_rules ?n5_doors ?n5_wings ?n5_grants ?aC6 ?aS6 ?ex6 ?eo6 ?ei6 ?et6 ?ef6 ?kc6 ?sa6 ?em6 ?el6 ?ev6 ?eh6 ?eg6 ?er6 ?eb6 ?l6 ?c6 ?k6 ?en6_row ?xa6 ?xb6 ?xc6 ?xd6 ?xf6 ?a7 ?l7 ?c7 ?k7 ?a8 ?l8 ?c8 ?k8 ?a9 ?l9 ?c9 ?k9 ?a10 ?l10 ?c10 ?k10 ?a11 ?l11 ?c11 ?k11 ?a12 ?l12 ?c12 ?k12 ?a13 ?l13 ?c13 ?k13 ?a14 ?l14 ?c14 ?k14 ?a15 ?l15 ?c15 ?k15 ?a16 ?l16 ?c16 ?k16 ?a17 ?l17 ?c17 ?k17 ?a18 ?l18 ?c18 ?k18 ?a19 ?l19 ?c19 ?k19 ?a20 ?l20 ?c20 ?k20 ?a21 ?l21 ?c21 ?k21 ?a22 ?l22 ?c22 ?k22 ?a23 ?l23 ?c23 ?k23 ?a24 ?l24 ?c24 ?k24 ?a25 ?l25 ?c25 ?k25 ?a26 ?l26 ?c26 ?k26 ?a27 ?l27 ?c27 ?k27 ?a28 ?l28 ?c28 ?k28 ?a29 ?l29 ?c29 ?k29 ?a30 ?l30 ?c30 ?k30 ?a31 ?l31 ?c31 ?k31 ?a32 ?l32 ?c32 ?k32 ?a33 ?l33 ?c33 ?k33 ?z0 ?z1 ?z2 ?z3 ?z4 ?z5 ?z6 ?z7 ?z8 ?z9 ?z10 ?z11 ?z12 ?y0 ?y1 ?w1 ?v1 ?y2 ?w2 ?s2 ?h2_0 ?w2_0 ?v2_0 ?h2_1 ?w2_1 ?v2_1 ?h2_2 ?w2_2 ?v2_2 ?y3 ?y4 ?y5 ?w5 ?h5_0 ?h5_1 ?s5 ?y6 ?y7 ?y8 ?y9 ?y10 ?cn0 ?cn1 ?cn2 ?cn4 ?cn5 ?cn6 ?cn7 ?cn8 ?cn9 ?cn10 ?cn11 ?cn12 ?cn13 ?cn14 ?cn15 ?cn16 ?cn17 ?cn18 ?cn19 ?cn20 ?cn21 ?cx0 ?cm0_0 ?cm2_1 ?ea_1 ?eb_1 ?ec_1 ?ed_1 ?ee_1 ?ea_0 ?eb_0 ?ec_0 ?ed_0 ?ee_0 ?ek0_0 ?ek0_1 ?ek1_0 ?ek1_1 ?ek2_0 ?ek2_1 ?ek3_0 ?ek3_1
  (case a0=>k_is);(case l0=>k_is);(case c0=>k_is);(case k0=>k_is);(case a1=>k_is);(case l1=>k_is)
  (case c1=>k_is);(case k1=>k_is);(case a2=>k_is);(case l2=>k_is);(case c2=>k_is);(case k2=>k_is)
  (case a3=>k_is);(case l3=>k_is);(case c3=>k_is);(case k3=>k_is);(case a4=>k_is);(case l4=>k_is)
  (case c4=>k_is);(case k4=>k_is);(case aC5=>k_is);(case a5=>k_is);(case i5=>k_is);(case l5=>k_is)
  (case c5=>k_is);(case k5=>k_is);(case pg5=>k_is);(case hd5=>k_is);(case po5=>k_is);(case sa5=>k_is)
  (case mk5=>k_is);(case kc5=>k_is);(case n5_rules=>k_is);(case n5_doors=>k_is);(case n5_wings=>k_is);(case n5_grants=>k_is)
  (case aC6=>k_is);(case aS6=>k_is);(case ex6=>k_is);(case eo6=>kernel_rfl);(case ei6=>k_is);(case et6=>kernel_rfl)
  (case ef6=>k_is);(case kc6=>k_is);(case sa6=>k_is);(case em6=>k_is);(case el6=>k_is);(case ev6=>kernel_rfl)
  (case eh6=>kernel_rfl);(case eg6=>k_is);(case er6=>k_is);(case eb6=>k_is);(case l6=>k_is);(case c6=>k_is)
  (case k6=>k_is);(case en6_row=>k_is);(case xa6=>k_is);(case xb6=>k_is);(case xc6=>k_is);(case xd6=>k_is)
  (case xf6=>k_is);(case a7=>k_is);(case l7=>k_is);(case c7=>k_is);(case k7=>k_is);(case a8=>k_is)
  (case l8=>k_is);(case c8=>k_is);(case k8=>k_is);(case a9=>k_is);(case l9=>k_is);(case c9=>k_is)
  (case k9=>k_is);(case a10=>k_is);(case l10=>k_is);(case c10=>k_is);(case k10=>k_is);(case a11=>k_is)
  (case l11=>k_is);(case c11=>k_is);(case k11=>k_is);(case a12=>k_is);(case l12=>k_is);(case c12=>k_is)
  (case k12=>k_is);(case a13=>k_is);(case l13=>k_is);(case c13=>k_is);(case k13=>k_is);(case a14=>k_is)
  (case l14=>k_is);(case c14=>k_is);(case k14=>k_is);(case a15=>k_is);(case l15=>k_is);(case c15=>k_is)
  (case k15=>k_is);(case a16=>k_is);(case l16=>k_is);(case c16=>k_is);(case k16=>k_is);(case a17=>k_is)
  (case l17=>k_is);(case c17=>k_is);(case k17=>k_is);(case a18=>k_is);(case l18=>k_is);(case c18=>k_is)
  (case k18=>k_is);(case a19=>k_is);(case l19=>k_is);(case c19=>k_is);(case k19=>k_is);(case a20=>k_is)
  (case l20=>k_is);(case c20=>k_is);(case k20=>k_is);(case a21=>k_is);(case l21=>k_is);(case c21=>k_is)
  (case k21=>k_is);(case a22=>k_is);(case l22=>k_is);(case c22=>k_is);(case k22=>k_is);(case a23=>k_is)
  (case l23=>k_is);(case c23=>k_is);(case k23=>k_is);(case a24=>k_is);(case l24=>k_is);(case c24=>k_is)
  (case k24=>k_is);(case a25=>k_is);(case l25=>k_is);(case c25=>k_is);(case k25=>k_is);(case a26=>k_is)
  (case l26=>k_is);(case c26=>k_is);(case k26=>k_is);(case a27=>k_is);(case l27=>k_is);(case c27=>k_is)
  (case k27=>k_is);(case a28=>k_is);(case l28=>k_is);(case c28=>k_is);(case k28=>k_is);(case a29=>k_is)
  (case l29=>k_is);(case c29=>k_is);(case k29=>k_is);(case a30=>k_is);(case l30=>k_is);(case c30=>k_is)
  (case k30=>k_is);(case a31=>k_is);(case l31=>k_is);(case c31=>k_is);(case k31=>k_is);(case a32=>k_is)
  (case l32=>k_is);(case c32=>k_is);(case k32=>k_is);(case a33=>k_is);(case l33=>k_is);(case c33=>k_is)
  (case k33=>k_is);(case z0=>k_is);(case z1=>k_is);(case z2=>k_is);(case z3=>k_is);(case z4=>k_is)
  (case z5=>k_is);(case z6=>k_is);(case z7=>k_is);(case z8=>k_is);(case z9=>k_is);(case z10=>k_is)
  (case z11=>k_is);(case z12=>k_is);(case y0=>k_is);(case y1=>k_is);(case w1=>k_is);(case v1=>exact(.cons ⟨_,rfl⟩ (.cons ⟨_,rfl⟩ (.cons ⟨_,rfl⟩ (.cons ⟨_,rfl⟩ (.cons ⟨_,rfl⟩ .nil))))))
  (case y2=>k_is);(case w2=>k_is);(case s2=>rfl);(case h2_0=>rfl);(case w2_0=>k_is);(case v2_0=>exact(.cons ⟨_,rfl⟩ (.cons ⟨_,rfl⟩ .nil)))
  (case h2_1=>rfl);(case w2_1=>k_is);(case v2_1=>exact(.cons ⟨_,rfl⟩ .nil));(case h2_2=>rfl);(case w2_2=>k_is);(case v2_2=>exact  .nil)
  (case y3=>k_is);(case y4=>k_is);(case y5=>k_is);(case w5=>k_is);(case h5_0=>rfl);(case h5_1=>rfl)
  (case s5=>rfl);(case y6=>k_is);(case y7=>k_is);(case y8=>k_is);(case y9=>k_is);(case y10=>k_is)
  (case cn0=>k_is);(case cn1=>k_is);(case cn2=>k_is);(case cn4=>k_is);(case cn5=>k_is);(case cn6=>k_is)
  (case cn7=>k_is);(case cn8=>k_is);(case cn9=>k_is);(case cn10=>k_is);(case cn11=>k_is);(case cn12=>k_is)
  (case cn13=>k_is);(case cn14=>k_is);(case cn15=>k_is);(case cn16=>k_is);(case cn17=>k_is);(case cn18=>k_is)
  (case cn19=>k_is);(case cn20=>k_is);(case cn21=>k_is);(case cx0=>k_exc);(case cm0_0=>kts_exm);(case cm2_1=>kts_exm)
  (case ea_1=>k_is);(case eb_1=>k_is);(case ec_1=>k_is);(case ed_1=>k_is);(case ee_1=>k_is);(case ea_0=>k_is)
  (case eb_0=>k_is);(case ec_0=>k_is);(case ed_0=>k_is);(case ee_0=>k_is);(case ek0_0=>kit_is);(case ek0_1=>kit_is)
  (case ek1_0=>kit_is);(case ek1_1=>kit_is);(case ek2_0=>kit_is);(case ek2_1=>kit_is);(case ek3_0=>kit_is);(case ek3_1=>kit_is)
