import PyProof.Rows.All
import Wide.All
import OpenK.AllK
import Wide.FinOn
import Lean
import PyProof.EqAt
import PyProof.EqKinds
import PyProof.TupleCall
import PyProof.ZipIter
import PyProof.Draws
import PyProof.TupleIter
import PyProof.ListMulRoad
import PyProof.FactsAll.tuple
import PyProof.ReprRoads
import PyProof.Rows.RegFStrParts
import PyProof.Rows.Range3
import KE.KIntText
import PyProof.AutoListH
import PyProof.Rows.MinMaxN
import PyProof.SetScanFacts
import PyProof.SetKind
import PyProof.DictKinds
import PyProof.WalkLemmas
import PyProof.CollectWalk
import PyProof.FactsAll.set
import PyProof.Walks
import PyProof.WalksS
import PyProof.SetRoads
import PyProof.Rows.SetFrom
import PyProof.Rows.SortWalk
import PyProof.EnumMake
import PyProof.EnumFor
import PyProof.DictItemsLoops
import PyProof.DictWalks
import KE.KDictList
import PyProof.Rows.SumAny
import KE.KRevIter
import KE.KDictOf
import PyProof.AttrMissHeap
import PyProof.NsDelKeeps
import PyProof.RulesAs
import KE.KTryMore
import PyProof.ExcArgsOwn
import KE.KUnpack
import PyProof.ExcClass2
import OpenK.KMake
import OpenK.KGet
import PyProof.InstStore
import PyProof.InstStoreFacts
import OpenK.KCls
import OpenK.KMore
import PyProof.FString4
import PyProof.StrLawsRepr
import KE.KEqDict
import KE.KItemsList
import PyProof.FactsAll.NoneType_1
import PyProof.Rows.SortStr
import KE.KLam
import KE.KMinKey
import KE.KNestM
import PySem.Challenge.RW_wardsmith_k61_levels_and_elders
open PySem.W (Frag nsIn keepIn fnOf codeIn mg_of findIn emptyDict mg_none_of instObj kia_one codeHdIn hasDictIn plainGet specialIn tabObj methodObj lookIn plainOver takerIn makesIn isFn mroIn)
open List (range length_map map_cons replicate mem_cons length_nil mem_cons_self mem_cons_of_mem size_toArray map_nil nil_append cons_append set_cons_zero set_cons_succ getElem?_map mem_map mem_singleton length_append mem_append getElem?_eq_getElem mem_range map_map mem_append_right length_range not_mem_nil filter_cons_of_pos mem_of_getElem? getElem?_set_ne append_nil foldl_cons Perm lookup_cons map_append filter_cons_of_neg getElem?_set_self Nodup mem_filter filterMap_cons length_singleton replicate_succ Pairwise all_eq_true mem_map_of_mem length_take getElem?_append_right length_replicate append_assoc take_of_length_le pairwise_cons mem_append_left flatten_cons find?_some filter_eq_nil_iff length_filter_le nodup_cons all_cons nodup_append isEmpty_iff range')
open Nat (le_refl ne_of_lt reduceAdd reduceSub zero_le lt_of_lt_of_le le_trans lt_irrefl reduceLeDiff ne_of_gt lt_trans zero_add le_of_lt le_succ)
open PySem.Heap (lt_size get?_push_of_some SameBut get?_push_size size_push)
open Classical (propDecidable not_not)
open Bool (false_eq_true and_eq_true)
open Array (length_toList getElem?_toList size_map)
open Option (map_eq_some_iff map_some)
open Int (toNat_natCast emod_nonneg)
set_option Elab.async false
set_option linter.all false
set_option maxRecDepth 100000
namespace L2
open PySem PySem.Spec PyProof.Rows
abbrev Ab:=Sum Int Str
def Dq:Ab->Value->Bool
 | .inl k,v=>Value.isInt k v
 | .inr x,v=>Value.isStrOf x v
def LQ(w:World):Ab->Int
 | .inl k=>hashInt k
 | .inr x=>hashStr w x
theorem Ac:∀ {k:Ab} {v:Value},Dq k v=true->(∃ i t,k=Sum.inl i/\v=Value.int i t)\/(∃ x t,k=Sum.inr x/\v=Value.str x t)
 | .inl i,v,h=>by
  obtain⟨t,e⟩:=Value.isInt_shape (k:=i) (v:=v) h
  exact .inl ⟨i,t,rfl,e⟩
 | .inr x,v,h=>by
  obtain⟨t,e⟩:=Value.isStrOf_shape (x:=x) (v:=v) h
  exact .inr ⟨x,t,rfl,e⟩
theorem UA(i:Int)(t:Tok):Dq (.inl i) (.int i t)=true:=by simp[Dq,Value.isInt]
theorem VA(x:Str)(t:Tok):Dq (.inr x) (.str x t)=true:=by simp[Dq,Value.isStrOf]
theorem MQ(a b:Int):decide ((Sum.inl a:Ab)=Sum.inl b)=(a==b):=by
 by_cases e:a=b
 .subst e;simp
 .have h:¬ (Sum.inl a:Ab)=Sum.inl b:=λq=>e (Sum.inl.inj q)
  rw[decide_eq_false h]
  exact(beq_eq_false_iff_ne.mpr e).symm
theorem PQ(a b:Str):decide ((Sum.inr a:Ab)=Sum.inr b)=decide (a=b):=by
 by_cases e:a=b
 .subst e;simp
 .have h:¬ (Sum.inr a:Ab)=Sum.inr b:=λq=>e (Sum.inr.inj q)
  rw[decide_eq_false h,decide_eq_false e]
theorem NQ(a:Int)(b:Str):decide ((Sum.inl a:Ab)=Sum.inr b)=false:=decide_eq_false (λq=>nomatch q)
theorem OQ(a:Str)(b:Int):decide ((Sum.inr a:Ab)=Sum.inl b)=false:=decide_eq_false (λq=>nomatch q)
def Tc(prog:Program)(w:World):PySem.KeyKind prog w Ab where
 is:=Dq
 hash:=LQ w
 inj:=λv a b ha hb=>by
  rcases Ac ha with⟨i,t,rfl,rfl⟩|⟨x,t,rfl,rfl⟩
  .rcases Ac hb with⟨j,u,rfl,e⟩|⟨y,u,rfl,e⟩
   .injection e with e1 _;rw[e1]
   .exact nomatch e
  .rcases Ac hb with⟨j,u,rfl,e⟩|⟨y,u,rfl,e⟩
   .exact nomatch e
   .injection e with e1 _;rw[e1]
 byValue:=λk v h=>by
  rcases Ac h with⟨i,t,rfl,rfl⟩|⟨x,t,rfl,rfl⟩<;>rfl
 pyHash:=λhv h=>by
  rcases Ac hv with⟨i,t,rfl,rfl⟩|⟨x,t,rfl,rfl⟩
  .exact wpAny_pyHash_int h
  .exact wpAny_pyHash_str h
 eqBool:=λhu hv h=>by
  rcases Ac hu with⟨i,t,rfl,rfl⟩|⟨x,t,rfl,rfl⟩
  .rcases Ac hv with⟨j,u,rfl,rfl⟩|⟨y,u,rfl,rfl⟩
   .rw[MQ]at h;exact wpAny_eqBool_int h
   .rw[NQ]at h;exact SeqAt.EqAt.int_str i t y u _ _ _ _ h
  .rcases Ac hv with⟨j,u,rfl,rfl⟩|⟨y,u,rfl,rfl⟩
   .rw[OQ]at h;exact SeqAt.EqAt.str_int x t j u _ _ _ _ h
   .rw[PQ]at h;exact wpAny_eqBool_str h
 «strs» :=λk x t v h=>by
  rcases Ac h with⟨i,u,rfl,e⟩|⟨y,u,rfl,e⟩
  .exact nomatch e
  .injection e with e1 _
   subst e1
   cases v<;>rfl
theorem Tu(prog:Program)(w:World)(i:Int)(t:Tok):(Tc prog w).is (.inl i) (.int i t)=true:=UA i t
theorem Uu(prog:Program)(w:World)(x:Str)(t:Tok):(Tc prog w).is (.inr x) (.str x t)=true:=VA x t
inductive V where
 |non|bl (b:Bool)|int (i:Int)|str (x:Str)|byt (b:Array UInt8)|flt (b:UInt64)|ref (a:Addr)|ty (n:String)
 deriving DecidableEq
def RelV:V->Value->Prop
 | .non,u=>u=Value.none
 | .bl b,u=>u=Value.bool b
 | .int i,u=>∃ t,u=Value.int i t
 | .str x,u=>∃ t,u=Value.str x t
 | .byt b,u=>∃ t,u=Value.bytes b t
 | .flt b,u=>∃ t,u=Value.float b t
 | .ref a,u=>u=Value.ref a
 | .ty n,u=>u=Value.type n
abbrev Vals:List V->List Value->Prop:=Paired RelV
theorem Vals.length{xs:List V}{us:List Value}(r:Vals xs us):xs.length=us.length:=Paired.length r
theorem Vals.get:∀ {xs:List V} {us:List Value} {i:Nat} {x:V},Vals xs us->xs[i]? =some x->∃ u,us[i]? =some u/\RelV x u
 |_,_,_,_,.nil,e=>by simp at e
 |_,_,0,_,.cons r _,e=>by simp at e;subst e;exact⟨_,rfl,r⟩
 |_,_,i+1,x,.cons _ t,e=>by
  obtain⟨u,h1,h2⟩:=Vals.get (i:=i) (x:=x) t (by simpa using e)
  exact⟨u,by simpa using h1,h2⟩
theorem Vals.set{x:V}{u:Value}(r:RelV x u):∀ {xs:List V} {us:List Value} (i:Nat),Vals xs us->Vals (xs.set i x) (us.set i u)
 |_,_,_,.nil=>.nil
 |_,_,0,.cons _ t=>.cons r t
 |_,_,i+1,.cons q t=>.cons q (Vals.set r i t)
theorem Vals.append:∀ {xs ys:List V} {us ws:List Value},Vals xs us->Vals ys ws->Vals (xs++ys) (us++ws)
 |_,_,_,_,.nil,s=>s
 |_,_,_,_,.cons r t,s=>.cons r (Vals.append t s)
theorem Vals.take:∀ {xs:List V} {us:List Value} (n:Nat),Vals xs us->Vals (xs.take n) (us.take n)
 |_,_,0,_=>.nil
 |_,_,_+1,.nil=>.nil
 |_,_,n+1,.cons r t=>.cons r (Vals.take n t)
theorem Vals.drop:∀ {xs:List V} {us:List Value} (n:Nat),Vals xs us->Vals (xs.drop n) (us.drop n)
 |_,_,0,r=>r
 |_,_,_+1,.nil=>.nil
 |_,_,n+1,.cons _ t=>Vals.drop n t
def RelO:Option V->Option Value->Prop
 |some v,some u=>RelV v u
 |none,none=>True
 |_,_=>False
def KV{κ:Type}:List (κ×V)->List (κ×Value)->Prop:=Paired λ(p:κ×V) (q:κ×Value)=>p.1=q.1/\RelV p.2 q.2
def kV:Ab->V
 | .inl i=>.int i
 | .inr x=>.str x
inductive HO where
  |lst (xs:List V)
  |tup (xs:List V)
  |dK (kvs:List (Ab×V))|dT (kvs:List (List Ab×V))
  |set (S:Int->Bool) (n:Nat)
  |ins (C dx:Addr) (fs:List (Str×V))
  |own (x:Addr)
  |xd (fs:List (Str×V))
  |met (f x:Addr)
  |rng (lo hi:Int)
  |frz (o:Obj) (u:HO)
  |tbl (ps:Array Value)
  |ext (φ:Heap->Prop)
 |tab (pos:Pos) (qual:Str)
abbrev Hp:=Addr->Option HO
def Ib(H:Hp)(a:Addr)(o:HO):Hp:=λb=>if b=a then some o else H b
theorem Ra{H:Hp}{a:Addr}{o:HO}:Ib H a o a=some o:=by unfold Ib;rw[if_pos rfl]
theorem Da{H:Hp}{a b:Addr}{o:HO}(h:b≠a):Ib H a o b=H b:=by unfold Ib;rw[if_neg h]
theorem Ka{H:Hp}{a b:Addr}{o:HO}(h:H a=some o)(h':H b=none):a≠b:=by
 intro e;subst e;rw[h]at h';cases h'
section
variable (P:Program)(w:World)
def ObjOk(H:Hp)(h:Heap)(a:Addr):HO->Prop
 | .lst xs=>xs.length<=sizeLine/\∃ (its:List Value) (n:Nat),Vals xs its/\h.get? a=some {cls:=.type "list",data:=.seq its.toArray n}
 | .tup xs=>xs.length<=sizeLine/\∃ its:List Value,Vals xs its/\IsTup h a its.toArray
 | .dK kvs=>kvs.length<=sizeLine/\(a==sysModules)=false/\∃ vs,KV kvs vs/\h.DictOf (Tc P w) a vs
 | .dT kvs=>kvs.length<=sizeLine/\(a==sysModules)=false/\∃ xs:List (List Ab×Addr×Value),
   Paired (λ(p:List Ab×V) (q:List Ab×Addr×Value)=>p.1=q.1/\H q.2.1=some (.tup (p.1.map kV))/\RelV p.2 q.2.2) kvs xs/\
   ∃ o es ep,h.get? a=some o/\o.ExactDict/\o.data=.dict es ep/\es.toList=xs.map (entryOfKey (tupleKind (Tc P w)))/\(xs.map (·.1)).Nodup
 | .set S n=>h.SetOf (intKind P w) a S n
 | .ins C dx fs=>H dx=some (.own a)/\fs.length<=1000/\dx≠a/\h.get? a=some (instObj C dx)/\
   ∃ mA,h.Ns1 dx mA/\(∀ f,RelO (fs.lookup f) (mA f))/\PySem.Within mA (fs.map (·.1))
 | .own _=>∃ o,h.get? a=some o
 | .xd fs=>∃ mA,h.Ns1 a mA/\∀ f,RelO (fs.lookup f) (mA f)
 | .rng lo hi=>∃ t u v,h.get? a=some {cls:=.type "range",data:=.fields #[.int lo t,.int hi u,.int 1 v]}
 | .frz o u=>h.get? a=some o/\ObjOk H h a u
 | .tbl ps=>h.get? a=some {cls:=.none,data:=.fields ps}
 | .met f x=>h.get? a=some (methodObj (.ref f) (.ref x))
 | .ext φ=>φ h/\(∃ o,h.get? a=some o)/\∀ h1 h2:Heap,φ h1->(∀ o,h1.get? a=some o->h2.get? a=some o)->φ h2
 | .tab pos qual=>∃ ps:Array Value,h.get? a=some {cls:=.none,data:=.fields ps}/\(ps= #[]\/∃ c':Addr,ps= #[rawInt pos.line,rawInt pos.col,.ref c']/\H c'=some (.own a)/\h.CodeRec (.ref c') qual)
def HOk(H:Hp)(h:Heap):Prop:=∀ a o,H a=some o->ObjOk P w H h a o
end
section
variable {P:Program}{w:World}{H H':Hp}{h h':Heap}{a:Addr}{o:HO}
theorem ObjOk.lt(x:ObjOk P w H h a o):a<h.objs.size:=by
 cases o with
 |lst xs=>obtain⟨_,_,_,_,e⟩:=x;exact lt_size e
 |tup xs=>obtain⟨_,_,_,p⟩:=x;exact p.lt
 |dK kvs=>obtain⟨_,_,_,_,o,_,_,e,_⟩:=x;exact lt_size e
 |dT kvs=>obtain⟨_,_,_,_,o,_,_,e,_⟩:=x;exact lt_size e
 |set S n=>obtain⟨o,_,_,_,e,_⟩:=x;exact lt_size e
 |ins C dx fs=>obtain⟨_,_,_,e,_⟩:=x;exact lt_size e
 |own y=>obtain⟨_,e⟩:=x;exact lt_size e
 |xd fs=>obtain⟨_,⟨_,_,_,e,_⟩,_⟩:=x;exact lt_size e
 |rng lo hi=>obtain⟨_,_,_,e⟩:=x;exact lt_size e
 |frz ob u=>obtain⟨e,_⟩:=x;exact lt_size e
 |tbl ps=>exact lt_size (show h.get? a=some _ from x)
 |met f y=>exact lt_size (show h.get? a=some _ from x)
 |ext φ=>obtain⟨_,⟨_,e⟩,_⟩:=x;exact lt_size e
 |tab pos qual=>obtain⟨_,e,_⟩:=x;exact lt_size e
theorem Paired.mapP{α β:Type}{F G:α->β->Prop}:∀ {l₁:List α} {l₂:List β},Paired F l₁ l₂->(∀ a b,F a b->G a b)->Paired G l₁ l₂
 |_,_,.nil,_=>.nil
 |_,_,.cons r t,f=>.cons (f _ _ r) (Paired.mapP t f)
theorem ObjOk.stay(x:ObjOk P w H h a o)(k:∀ b u,(b=a\/H b=some (.own a))->h.get? b=some u->h'.get? b=some u)(ho:∀ b,H b=some (.own a)->H' b=some (.own a))(ht:∀ b xs,H b=some (.tup xs)->H' b=some (.tup xs)):ObjOk P w H' h' a o:=by
 induction o with
 |lst xs=>obtain⟨z,its,n,r,e⟩:=x;exact⟨z,its,n,r,k _ _ (.inl rfl) e⟩
 |tup xs=>obtain⟨z,its,r,ob,e,c⟩:=x;exact⟨z,its,r,ob,k _ _ (.inl rfl) e,c⟩
 |dK kvs=>obtain⟨z,y,vs,r,ob,es,ep,e,c⟩:=x;exact⟨z,y,vs,r,ob,es,ep,k _ _ (.inl rfl) e,c⟩
 |dT kvs=>
  obtain⟨z,y,xs,r,ob,es,ep,e,c⟩:=x
  exact⟨z,y,xs,Paired.mapP r λp q z=>⟨z.1,ht _ _ z.2.1,z.2.2⟩,ob,es,ep,k _ _ (.inl rfl) e,c⟩
 |set S n=>obtain⟨ob,es,ep,t,e,c⟩:=x;exact⟨ob,es,ep,t,k _ _ (.inl rfl) e,c⟩
 |ins C dx fs=>
  obtain⟨d,z,ne,e,mA,⟨od,es,ep,e2,c⟩,r⟩:=x
  exact⟨ho _ d,z,ne,k _ _ (.inl rfl) e,mA,⟨od,es,ep,k _ _ (.inr d) e2,c⟩,r⟩
 |own y=>obtain⟨ob,e⟩:=x;exact⟨ob,k _ _ (.inl rfl) e⟩
 |xd fs=>obtain⟨mA,⟨od,es,ep,e,c⟩,r⟩:=x;exact⟨mA,⟨od,es,ep,k _ _ (.inl rfl) e,c⟩,r⟩
 |rng lo hi=>obtain⟨t,u,v,e⟩:=x;exact⟨t,u,v,k _ _ (.inl rfl) e⟩
 |frz ob u ih=>obtain⟨e,q⟩:=x;exact⟨k _ _ (.inl rfl) e,ih q⟩
 |tbl ps=>
  have e:h.get? a=some {cls:=.none,data:=.fields ps}:=x
  show h'.get? a=some {cls:=.none,data:=.fields ps}
  exact k a _ (.inl rfl) e
 |met f y=>
  have e:h.get? a=some (methodObj (.ref f) (.ref y)):=x
  show h'.get? a=some (methodObj (.ref f) (.ref y))
  exact k a _ (.inl rfl) e
 |ext φ=>obtain⟨p,⟨o,e⟩,st⟩:=x;exact⟨st _ _ p λo q=>k _ _ (.inl rfl) q,⟨o,k _ _ (.inl rfl) e⟩,st⟩
 |tab pos qual=>
  obtain⟨ps,e,r⟩:=x
  refine⟨ps,k _ _ (.inl rfl) e,r.imp id λz=>?_⟩
  obtain⟨c',e1,e2,c,oc,vs,tq,z1,z2,z3⟩:=z
  refine⟨c',e1,ho _ e2,c,oc,vs,tq,z1,k _ _ (.inr ?_) z2,z3⟩
  cases z1;exact e2
theorem HOk.lt(x:HOk P w H h)(e:H a=some o):a<h.objs.size:=(x a o e).lt
theorem HOk.fresh(x:HOk P w H h)(e:h.objs.size<=a):H a=none:=by
 cases q:H a with
 |none=>rfl
 |some u=>exact absurd (lt_of_lt_of_le (x.lt q) e) (lt_irrefl _)
theorem HOk.kept(x:HOk P w H h)(k:∀ b u,h.get? b=some u->h'.get? b=some u):HOk P w H h':=λa o e=>
 (x a o e).stay (λb u _ q=>k b u q) (λ_ q=>q) λ_ _ q=>q
theorem HOk.laid(x:HOk P w H h)(k:∀ b u,h.get? b=some u->h'.get? b=some u)(hp:h.objs.size<=a)(new:ObjOk P w (Ib H a o) h' a o):HOk P w (Ib H a o) h':=λb u e=>by
 have hn:=x.fresh hp
 by_cases hb:b=a
 .subst hb;rw[Ra]at e;cases e;exact new
 .rw[Da hb]at e
  exact(x b u e).stay (λc v _ q=>k c v q) (λc q=>by rw[Da (Ka q hn)];exact q) λc xs q=>by rw[Da (Ka q hn)];exact q
end
def Rd(H:Hp)(a:Addr)(u:HO):Prop:=H a=some u\/∃ o,H a=some (.frz o u)
theorem Rd.ok{P:Program}{w:World}{H:Hp}{h:Heap}{a:Addr}{u:HO}(r:Rd H a u)(x:HOk P w H h):ObjOk P w H h a u:=by
 rcases r with r|⟨o,r⟩
 .exact x a u r
 .obtain⟨_,q⟩:=x a _ r
  exact q
def VX:Option HO->Prop
 |some (.lst _)=>True
 |some (.dK _)=>True
 |some (.dT _)=>True
 |some (.set _ _)=>True
 |some (.ins _ _ _)=>True
 |some (.ext _)=>True
 |_=>False
section
variable {P:Program}{w:World}{H:Hp}{h h':Heap}{x e:Addr}{o':HO}
theorem HOk.write(ok:HOk P w H h)(mu:VX (H x))(he:e=x\/H e=some (.own x))(k:∀ b u,b≠e->h.get? b=some u->h'.get? b=some u)(heo:∃ u,h'.get? e=some u)(new:ObjOk P w (Ib H x o') h' x o'):HOk P w (Ib H x o') h':=λb u q=>by
 have nown:∀ c y,H c=some (.own y)->c≠x:=λc y r z=>by subst z;rw[r]at mu;exact mu
 have ntup:∀ c xs,H c=some (.tup xs)->c≠x:=λc xs r z=>by subst z;rw[r]at mu;exact mu
 by_cases hb:b=x
 .subst hb;rw[Ra]at q;cases q;exact new
 .rw[Da hb]at q
  by_cases hbe:b=e
  .have q':H b=some (.own x):=by
    rcases he with z|z
    .exact absurd (hbe.trans z) hb
    .rw[hbe];exact z
   rw[q]at q';cases q'
   obtain⟨v,hv⟩:=heo
   exact⟨v,by rw[hbe];exact hv⟩
  .refine(ok b u q).stay (λc v hc r=>k c v ?_ r) (λc r=>by rw[Da (nown c b r)];exact r) λc xs r=>by rw[Da (ntup c xs r)];exact r
   rcases hc with rfl|hc
   .exact hbe
   .rintro rfl
    rcases he with z|z
    .exact nown c b hc z
    .rw[hc]at z;cases z;exact hb rfl
end
structure Un(fs ex:List Addr)(H H':Hp)(h h':Heap):Prop where
 keep:∀ b o,h.get? b=some o->H b=none->b∉fs->b∉ex->h'.get? b=some o
 slot:∀ b o,h.get? b=some o->H b=none->b∈fs->b∉ex->∃ sl,h'.get? b=some {o with slots:=sl}
 free:∀ b o,h.get? b=some o->H b=none->b∉ex->H' b=none
 there:∀ b o,h.get? b=some o->b∉ex->∃ o',h'.get? b=some o'
 tups:∀ b xs,H b=some (.tup xs)->H' b=some (.tup xs)
 frzs:∀ b o u,H b=some (.frz o u)->H' b=some (.frz o u)
 tbls:∀ b ps,H b=some (.tbl ps)->∃ more,H' b=some (.tbl (ps++more))
section
variable {fs fs' ex ex':List Addr}{H H1 H2:Hp}{h h1 h2 h':Heap}{a x e:Addr}{o:HO}
theorem Un.any(u:Un fs ex H H1 h h1){b:Addr}{ob:Obj}(q:h.get? b=some ob)(n:H b=none)(hx:b∉ex):∃ sl,h1.get? b=some {ob with slots:=sl}:=by
 by_cases hb:b∈fs
 .exact u.slot b ob q n hb hx
 .exact⟨ob.slots,u.keep b ob q n hb hx⟩
theorem Un.kept(k:∀ b u,h.get? b=some u->h'.get? b=some u):Un fs ex H H h h':=
 ⟨λb ob q _ _ _=>k b ob q,λb ob q _ _ _=>⟨ob.slots,k b ob q⟩,λ_ _ _ n _=>n,λb ob q _=>⟨ob,k b ob q⟩,λ_ _ q=>q,λ_ _ _ q=>q,λ_ ps q=>⟨#[],by rw[q];simp⟩⟩
theorem Un.refl:Un fs ex H H h h:=Un.kept λ_ _ q=>q
theorem Un.laid(k:∀ b u,h.get? b=some u->h'.get? b=some u)(hp:h.objs.size<=a)(hn:H a=none):Un fs ex H (Ib H a o) h h' where
 keep:=λb u q _ _ _=>k b u q
 slot:=λb u q _ _ _=>⟨u.slots,k b u q⟩
 free:=λb u q n _=>by rw[Da (ne_of_lt (lt_of_lt_of_le (lt_size q) hp))];exact n
 there:=λb u q _=>⟨u,k b u q⟩
 tups:=λb xs q=>by rw[Da (Ka q hn)];exact q
 frzs:=λb u xs q=>by rw[Da (Ka q hn)];exact q
 tbls:=λb ps q=>⟨#[],by rw[Da (Ka q hn),q];simp⟩
theorem Un.write(mu:VX (H x))(he:e=x\/H e=some (.own x))(k:∀ b u,b≠e->h.get? b=some u->h'.get? b=some u)(heo:∃ u,h'.get? e=some u):Un fs ex H (Ib H x o) h h':=by
 have hx:∀ b,H b=none->b≠x:=λb n z=>by subst z;rw[n]at mu;exact mu
 have hb:∀ b,H b=none->b≠e:=λb n z=>by
  subst z
  rcases he with r|r
  .exact hx b n r
  .rw[n]at r;cases r
 have hm:∀ b u,H b=some u->¬ VX (some u)->b≠x:=λb u q nm z=>by subst z;rw[q]at mu;exact nm mu
 refine⟨λb u q n _ _=>k b u (hb b n) q,λb u q n _ _=>⟨u.slots,k b u (hb b n) q⟩,λb u q n _=>by rw[Da (hx b n)];exact n,λb u q _=>?_,
  λb xs q=>by rw[Da (hm b _ q λz=>z)];exact q,λb u xs q=>by rw[Da (hm b _ q λz=>z)];exact q,λb ps q=>⟨#[],by rw[Da (hm b _ q λz=>z),q];simp⟩⟩
 by_cases hbe:b=e
 .subst hbe;exact heo
 .exact⟨u,k b u hbe q⟩
end
def FY(h:Heap)(H:Hp):List Addr:=(range h.objs.size).filter λa=>(H a).isSome
def Bp(h:Heap)(H:Hp):Heap:=PySem.W.hideAll h (FY h H)
theorem MA(h:Heap)(H:Hp):(Bp h H).objs.size=h.objs.size:=PySem.W.hideAll_size _ _
theorem SD{h:Heap}{H:Hp}{b:Addr}{o:Obj}(e:h.get? b=some o)(n:H b=none):(Bp h H).get? b=some o:=
 PySem.W.hideAll_get _ e λhm=>by
  have q:(H b).isSome=true:=(mem_filter.mp hm).2
  rw[n]at q;simp at q
theorem PK{h:Heap}{H:Hp}{b:Addr}{o:Obj}(e:(Bp h H).get? b=some o):h.get? b=some o/\H b=none:=by
 have e':h.get? b=some o:=PySem.W.of_hideAll (FY h H) e
 refine⟨e',?_⟩
 cases q:H b with
 |none=>rfl
 |some x=>
  have hm:b∈FY h H:=mem_filter.mpr ⟨mem_range.mpr (lt_size e'),by simp[q]⟩
  have z:(Bp h H).get? b=none:=PySem.W.hideAll_none (FY h H) hm
  rw[z]at e;cases e
def OH(g h:Heap)(L:Addr):List (Addr×Obj):=(range h.objs.size).filterMap λa=>if a=L\/(g.get? a).isSome=true then none else(h.get? a).map λo=>(a,o)
def rest(g h:Heap)(L d:Addr):List (Addr×Obj):=(OH g h L).filter λp=>decide (p.1≠d)
structure Mod(K:Frag)(mg:Str->Option Value)(base:Heap):Prop where
 kin:K.In base
 glob:base.Ns mainGlobals mg
 blt:∃ mb,base.Ns builtinsNs mb/\∀ x:Str,x≠"__name__"->mb x=bootBuiltins x
 nolimit:base.NoLimit
structure Cx where
 prog:Program
 w:World
 K:Frag
 mg:Str->Option Value
 base:Heap
 A:Around
 N:List Str
 s₀:Shared
 H₀:Hp
 env:Env
 outer:List Env
 stack:List Env
 ex:List Addr
 fn:Str->Bool
 calm:Bool
 pn:List (Addr×Obj)
 xe:Value->Shared->Prop
def Uw(l:List Env):List Addr:=l.filterMap (·.frame)
abbrev Cx.fs(X:Cx):List Addr:=Uw X.outer
def Bw(sc:Scope)(x:Str):Prop:=sc.names.lookup x=some .local\/sc.names.lookup x=some .cell\/sc.names.lookup x=some .free
def Ew(sc:Scope)(x:Str):Prop:=sc.names.lookup x=some .local\/sc.names.lookup x=some .cell
def VY(env:Env)(h:Heap)(m:Str->Option Value)(x:Str)(u:Value):Prop:=
 (env.kindOf x=some .local/\m x=some u)\/((env.kindOf x=some .cell\/env.kindOf x=some .free)/\∃ c,env.cells.lookup x=some c/\h.IsCell c (some u))
structure Cx.Ok(X:Cx):Prop where
 mod:Mod X.K X.mg X.base
 kind:X.env.scope.kind=.function
 glob:X.env.globals=mainGlobals
 blt:X.env.builtins=builtinsNs
 above:X.s₀.heap.objs.size<=X.env.locals
 inj:∀ x y c,X.env.cells.lookup x=some c->X.env.cells.lookup y=some c->x=y
 has:∀ x,(X.env.kindOf x=some .cell\/X.env.kindOf x=some .free)->∃ c,X.env.cells.lookup x=some c
 cab:∀ x c,X.fn x=true->X.env.cells.lookup x=some c->X.s₀.heap.objs.size<=c
 hd:X.calm=true->X.A.handled=none
 frames:X.A.frames=some X.stack
 stk:X.stack=X.outer\/(X.stack=X.env::X.outer/\X.env.frame=some X.env.locals)
 exf:∀ b∈X.ex,b≠X.env.locals/\∀ x c,X.env.cells.lookup x=some c->c≠b
 bs:∀ b o,X.base.get? b=some o->X.s₀.heap.get? b=some o/\X.H₀ b=none
 bsz:X.base.objs.size<=X.s₀.heap.objs.size
 noex:∀ b o,X.base.get? b=some o->b∉X.ex
 exfs:∀ b∈X.ex,b∉X.fs
 funs:X.s₀.heap.FunFrames X.base X.outer
 frf:∀ b∈X.fs,X.H₀ b=none
structure Inv(X:Cx)(pins:List (Addr×Obj))(σ:List (Option V))(H:Hp)(s:Shared):Prop where
 ok:X.Ok
 os:s.os=X.s₀.os
 bare:AllBare s.gens
 base:Un X.fs X.ex X.H₀ H X.s₀.heap s.heap
 loc:∃ m,s.heap.Ns X.env.locals m/\∀ (i:Nat) (x:Str) (v:V),X.N[i]? =some x->σ[i]? =some (some v)->Bw X.env.scope x->∃ u,RelV v u/\VY X.env s.heap m x u
 cell:∀ x c,X.env.cells.lookup x=some c->∃ v,s.heap.IsCell c v
 free:H X.env.locals=none
 freeC:∀ x c,X.env.cells.lookup x=some c->H c=none
 pin:∀ p∈X.pn++pins,s.heap.get? p.1=some p.2/\H p.1=none/\p.1≠X.env.locals/\p.1∉X.fs/\∀ v,p.2.data≠ .cell v
 hok:HOk X.prog X.w H s.heap
 len:σ.length=X.N.length
section
variable {X:Cx}{pins:List (Addr×Obj)}{σ:List (Option V)}{H H':Hp}{s:Shared}{h':Heap}
theorem Cx.Ok.nofr(ok:X.Ok){b:Addr}{o:Obj}(e:X.base.get? b=some o):b∉X.fs:=λhb=>by
 have:=(ok.funs.mem hb).1
 rw[e]at this;cases this
theorem Inv.bs(I:Inv X pins σ H s):∀ b o,X.base.get? b=some o->s.heap.get? b=some o/\H b=none:=λb o e=>
 ⟨I.base.keep b o (I.ok.bs b o e).1 (I.ok.bs b o e).2 (I.ok.nofr e) (I.ok.noex b o e),I.base.free b o (I.ok.bs b o e).1 (I.ok.bs b o e).2 (I.ok.noex b o e)⟩
theorem Inv.bk(I:Inv X pins σ H s):∀ b o,X.base.get? b=some o->s.heap.get? b=some o:=λb o e=>(I.bs b o e).1
theorem Inv.mod(I:Inv X pins σ H s):Mod X.K X.mg X.base:=I.ok.mod
theorem Inv.kIn(I:Inv X pins σ H s):X.K.In s.heap:=I.ok.mod.kin.keeps I.bk
theorem Inv.nolimit(I:Inv X pins σ H s):s.heap.NoLimit:=I.ok.mod.nolimit.keeps I.bk
theorem Inv.lt(I:Inv X pins σ H s):X.env.locals<s.heap.objs.size:=let ⟨_,hn,_⟩:=I.loc;hn.lt
theorem Inv.sz(I:Inv X pins σ H s):X.s₀.heap.objs.size<=s.heap.objs.size:=le_trans I.ok.above (le_of_lt I.lt)
theorem Inv.nofs(I:Inv X pins σ H s){a:Addr}(h:s.heap.objs.size<=a):a∉X.fs:=λhb=>by
 obtain⟨_,o,ho,_⟩:=I.ok.funs.mem hb
 exact absurd (lt_of_lt_of_le (lt_size ho) (le_trans I.sz h)) (lt_irrefl _)
theorem Inv.cne(I:Inv X pins σ H s):∀ x c,X.env.cells.lookup x=some c->c≠X.env.locals:=λx c e z=>by
 obtain⟨v,o,ho,hd⟩:=I.cell x c e
 obtain⟨m,⟨o',es,ep,ho',hd',_⟩,_⟩:=I.loc
 rw[z,ho']at ho;cases ho;rw[hd']at hd;cases hd
theorem Inv.funs(I:Inv X pins σ H s):s.heap.FunFrames X.base X.outer:=by
 have all:∀ (l:List Env),(∀ b∈Uw l,b∈X.fs)->X.s₀.heap.FunFrames X.base l->s.heap.FunFrames X.base l:=by
  intro l
  induction l with
  |nil=>intro _ _;trivial
  |cons env r ih=>
   intro hs hl
   obtain⟨hk,⟨L,o,hf,hn,ho,hd⟩,hr⟩:=hl
   have hL:L∈X.fs:=hs L (by unfold Uw;rw[filterMap_cons,hf];exact mem_cons_self)
   obtain⟨sl,e⟩:=I.base.slot L o ho (I.ok.frf L hL) hL λz=>I.ok.exfs L z hL
   exact⟨hk,⟨L,_,hf,hn,e,hd⟩,ih (λb hb=>hs b (by unfold Uw;rw[filterMap_cons,hf];exact mem_cons_of_mem _ hb)) hr⟩
 exact all X.outer (λ_ hb=>hb) I.ok.funs
theorem Inv.stack(I:Inv X pins σ H s):s.heap.FunFrames X.base X.stack:=by
 rcases I.ok.stk with e|⟨e,hf⟩
 .rw[e];exact I.funs
 .rw[e]
  obtain⟨m,hn,_⟩:=I.loc
  refine .cons (by rw[I.ok.kind];decide) hf hn ?_ I.funs
  exact Heap.get?_none_of_le (le_trans I.ok.bsz I.ok.above)
theorem Inv.stkSub(I:Inv X pins σ H s):∀ b∈Uw X.stack,b∈X.env.locals::X.fs:=λb hb=>by
 rcases I.ok.stk with e|⟨e,hf⟩
 .rw[e]at hb;exact mem_cons_of_mem _ hb
 .rw[e]at hb
  unfold Uw at hb
  rw[filterMap_cons,hf]at hb
  exact hb
theorem Inv.stkFree(I:Inv X pins σ H s):∀ b∈Uw X.stack,H b=none:=λb hb=>by
 rcases mem_cons.mp (I.stkSub b hb) with e|hb
 .rw[e];exact I.free
 .obtain⟨_,o,ho,_⟩:=I.ok.funs.mem hb
  exact I.base.free b o ho (I.ok.frf b hb) λz=>I.ok.exfs b z hb
theorem Inv.step{g':Array GenState}{t':Nat}{d':Drawn}{ch:List Addr}(I:Inv X pins σ H s)(hch:∀ b∈ch,(b∈X.ex\/X.s₀.heap.objs.size<=b)/\b≠X.env.locals/\(∀ x c,X.env.cells.lookup x=some c->c≠b)/\∀ p∈X.pn++pins,p.1≠b)(keep:∀ b o,b≠X.env.locals->b∉X.fs->b∉ch->s.heap.get? b=some o->H b=none->h'.get? b=some o)(slot:∀ b o,b≠X.env.locals->b∈X.fs->b∉ch->s.heap.get? b=some o->H b=none->∃ sl,h'.get? b=some {o with slots:=sl})(free:∀ b o,b∉ch->s.heap.get? b=some o->H b=none->H' b=none)(there:∀ b o,b∉ch->s.heap.get? b=some o->∃ o',h'.get? b=some o')(tups:∀ b xs,H b=some (.tup xs)->H' b=some (.tup xs))(frzs:∀ b o u,H b=some (.frz o u)->H' b=some (.frz o u))(tbls:∀ b ps,H b=some (.tbl ps)->∃ more,H' b=some (.tbl (ps++more)))(ns:∀ m,s.heap.Ns X.env.locals m->h'.Ns X.env.locals m)(hok:HOk X.prog X.w H' h')(hg:AllBare g'):
  Inv X pins σ H' {s with heap:=h',gens:=g',drawn:=d',toks:=t'}:=by
 have neL:∀ b o,X.s₀.heap.get? b=some o->b≠X.env.locals:=λb o e=>ne_of_lt (lt_of_lt_of_le (lt_size e) I.ok.above)
 have neC:∀ b o,X.s₀.heap.get? b=some o->b∉X.ex->b∉ch:=λb o e hx hb=>by
  rcases(hch b hb).1 with z|z
  .exact hx z
  .exact absurd (lt_of_lt_of_le (lt_size e) z) (lt_irrefl _)
 have cellK:∀ x c,X.env.cells.lookup x=some c->∀ v,s.heap.IsCell c v->h'.IsCell c v:=λx c e v ⟨o,ho,hd⟩=>by
  have nch:c∉ch:=λz=>(hch c z).2.2.1 x c e rfl
  by_cases hc:c∈X.fs
  .obtain⟨sl,q⟩:=slot c o (I.cne x c e) hc nch ho (I.freeC x c e)
   exact⟨_,q,hd⟩
  .exact⟨o,keep c o (I.cne x c e) hc nch ho (I.freeC x c e),hd⟩
 refine⟨I.ok,I.os,hg,⟨λb o e n hb hx=>?_,λb o e n hb hx=>?_,λb o e n hx=>?_,λb o e hx=>?_,λb xs e=>tups b xs (I.base.tups b xs e),λb o xs e=>frzs b o xs (I.base.frzs b o xs e),λb ps e=>?_⟩,?_,λx c e=>?_,?_,λx c e=>?_,λp hp=>?_,hok,I.len⟩
 .exact keep b o (neL b o e) hb (neC b o e hx) (I.base.keep b o e n hb hx) (I.base.free b o e n hx)
 .obtain⟨sl,e1⟩:=I.base.slot b o e n hb hx
  obtain⟨sl',e2⟩:=slot b _ (neL b o e) hb (neC b o e hx) e1 (I.base.free b o e n hx)
  exact⟨sl',e2⟩
 .obtain⟨o',e1⟩:=I.base.there b o e hx
  exact free b o' (neC b o e hx) e1 (I.base.free b o e n hx)
 .obtain⟨o',e1⟩:=I.base.there b o e hx
  exact there b o' (neC b o e hx) e1
 .obtain⟨m1,e1⟩:=I.base.tbls b ps e
  obtain⟨m2,e2⟩:=tbls b _ e1
  exact⟨m1++m2,by rw[e2,Array.append_assoc]⟩
 .obtain⟨m,hn,hl⟩:=I.loc
  refine⟨m,ns m hn,λi x v e1 e2 e3=>?_⟩
  obtain⟨u,r,l⟩:=hl i x v e1 e2 e3
  refine⟨u,r,?_⟩
  rcases l with l|⟨k,c,e,z⟩
  .exact .inl l
  .exact .inr ⟨k,c,e,cellK x c e _ z⟩
 .obtain⟨v,z⟩:=I.cell x c e
  exact⟨v,cellK x c e v z⟩
 .obtain⟨m,⟨o,_,_,ho,_⟩,_⟩:=I.loc
  exact free _ o (λz=>(hch _ z).2.1 rfl) ho I.free
 .obtain⟨v,o,ho,hd⟩:=I.cell x c e
  exact free c o (λz=>(hch c z).2.2.1 x c e rfl) ho (I.freeC x c e)
 .obtain⟨e,n,ne,nf,d⟩:=I.pin p hp
  have nch:p.1∉ch:=λz=>(hch p.1 z).2.2.2 p hp rfl
  exact⟨keep p.1 p.2 ne nf nch e n,free p.1 p.2 nch e n,ne,nf,d⟩
theorem Inv.un{t':Nat}(I:Inv X pins σ H s)(u:Un X.fs [] H H' s.heap h')(hok:HOk X.prog X.w H' h'):Inv X pins σ H' {s with heap:=h',toks:=t'}:=by
 obtain⟨m,⟨o,es,ep,ho,r⟩,_⟩:=id I.loc
 obtain⟨sl,hL⟩:=u.any ho I.free (by simp)
 exact I.step (g':=s.gens) (d':=s.drawn) (ch:= []) (λ_ z=>nomatch z) (λb o _ hb _ e n=>u.keep b o e n hb (by simp)) (λb o _ hb _ e n=>u.slot b o e n hb (by simp)) (λb o _ e n=>u.free b o e n (by simp)) (λb o _ e=>u.there b o e (by simp)) u.tups u.frzs u.tbls (λm' hm=>by
  obtain⟨o',es',ep',ho',r'⟩:=hm
  rw[ho]at ho';cases ho'
  exact⟨_,es',ep',hL,r'⟩) hok I.bare
theorem Inv.call{g':Array GenState}{t':Nat}{d':Drawn}{ch:List Addr}(I:Inv X pins σ H s)(u:Un (Uw X.stack) ch H H' s.heap h')(hok:HOk X.prog X.w H' h')(hg:AllBare g')(hch:∀ b∈ch,(b∈X.ex\/X.s₀.heap.objs.size<=b)/\b≠X.env.locals/\(∀ x c,X.env.cells.lookup x=some c->c≠b)/\∀ p∈X.pn++pins,p.1≠b):
  Inv X pins σ H' {s with heap:=h',gens:=g',drawn:=d',toks:=t'}:=by
 obtain⟨m,⟨o,es,ep,ho,r⟩,_⟩:=id I.loc
 obtain⟨sl,hL⟩:=u.any ho I.free λz=>(hch _ z).2.1 rfl
 exact I.step (ch:=ch) hch (λb o hL hb hc e n=>u.keep b o e n (λz=>(mem_cons.mp (I.stkSub b z)).elim hL hb) hc) (λb o _ _ hc e n=>u.any e n hc) (λb o hc e n=>u.free b o e n hc) (λb o hc e=>u.there b o e hc) u.tups u.frzs u.tbls (λm' hm=>by
  obtain⟨o',es',ep',ho',r'⟩:=hm
  rw[ho]at ho';cases ho'
  exact⟨_,es',ep',hL,r'⟩) hok hg
theorem Inv.turned{t':Nat}{it:Addr}(I:Inv X pins σ H s)(k:∀ b o,b≠it->s.heap.get? b=some o->h'.get? b=some o)(hn:H it=none)(hL:it≠X.env.locals)(h1:it∈X.ex\/X.s₀.heap.objs.size<=it)(h2:∀ x c,X.env.cells.lookup x=some c->c≠it)(h3:∀ p∈X.pn++pins,p.1≠it):Inv X pins σ H {s with heap:=h',toks:=t'}:=by
 have nit:∀ b u,H b=some u->b≠it:=λb u e z=>by rw[z,hn]at e;cases e
 refine I.step (g':=s.gens) (d':=s.drawn) (ch:= [it]) (λb hb=>?_) (λb o _ _ hc e _=>k b o (λz=>hc (by simp[z])) e) (λb o _ _ hc e _=>⟨o.slots,k b o (λz=>hc (by simp[z])) e⟩) (λ_ _ _ _ n=>n)
  (λb o hc e=>⟨o,k b o (λz=>hc (by simp[z])) e⟩) (λ_ _ e=>e) (λ_ _ _ e=>e) (λb ps e=>⟨#[],by rw[e];simp⟩) (λm hm=>?_) (λb u e=>?_) I.bare
 .have e:b=it:=by simpa using hb
  subst e
  exact⟨h1,hL,h2,h3⟩
 .obtain⟨o,es,ep,ho,r⟩:=hm
  exact⟨o,es,ep,k _ o (Ne.symm hL) ho,r⟩
 .refine(I.hok b u e).stay (λc v hc q=>k c v ?_ q) (λ_ q=>q) λ_ _ q=>q
  rcases hc with z|z
  .rw[z];exact nit b u e
  .exact nit c _ z
theorem Inv.tok(I:Inv X pins σ H s)(t:Nat):Inv X pins σ H {s with toks:=t}:=I.un (h':=s.heap) (t':=t) Un.refl I.hok
theorem Inv.kept{t':Nat}(I:Inv X pins σ H s)(k:∀ b u,s.heap.get? b=some u->h'.get? b=some u):Inv X pins σ H {s with heap:=h',toks:=t'}:=I.un (Un.kept k) (I.hok.kept k)
theorem Inv.laid{a:Addr}{o:HO}{t':Nat}(I:Inv X pins σ H s)(k:∀ b u,s.heap.get? b=some u->h'.get? b=some u)(hp:s.heap.objs.size<=a)(new:ObjOk X.prog X.w (Ib H a o) h' a o):
  Inv X pins σ (Ib H a o) {s with heap:=h',toks:=t'}:=I.un (Un.laid k hp (I.hok.fresh hp)) (I.hok.laid k hp new)
theorem Inv.write{x e:Addr}{o:HO}{t':Nat}(I:Inv X pins σ H s)(mu:VX (H x))(he:e=x\/H e=some (.own x))(k:∀ b u,b≠e->s.heap.get? b=some u->h'.get? b=some u)(heo:∃ u,h'.get? e=some u)(new:ObjOk X.prog X.w (Ib H x o) h' x o):Inv X pins σ (Ib H x o) {s with heap:=h',toks:=t'}:=I.un (Un.write mu he k heo) (I.hok.write mu he k heo new)
theorem Inv.pins_of{pins':List (Addr×Obj)}(I:Inv X pins σ H s)(h:∀ p∈pins',s.heap.get? p.1=some p.2/\H p.1=none/\p.1≠X.env.locals/\p.1∉X.fs/\∀ v,p.2.data≠ .cell v):Inv X pins' σ H s:=
 ⟨I.ok,I.os,I.bare,I.base,I.loc,I.cell,I.free,I.freeC,λp hp=>(mem_append.mp hp).elim (λz=>I.pin p (mem_append_left _ z)) (h p),I.hok,I.len⟩
theorem Zu{N:List Str}(hN:N.Nodup){i j:Nat}{x:Str}(a:N[i]? =some x)(b:N[j]? =some x):i=j:=by
 obtain⟨h1,e1⟩:=List.getElem?_eq_some_iff.mp a
 obtain⟨h2,e2⟩:=List.getElem?_eq_some_iff.mp b
 exact(List.getElem_inj hN).mp (e1.trans e2.symm)
theorem UB{M:Model}{A:Around}{E:Value->Shared->Prop}{i:Nat}{x:Str}{v:V}{u:Value}{Q:Unit->Shared->Prop}(I:Inv X pins σ H s)(hN:X.N.Nodup)(hi:X.N[i]? =some x)(hx:Ew X.env.scope x)(r:RelV v u)(h:∀ s',Inv X pins (σ.set i (some v)) H s'->(∃ a,SameBut a s.heap s'.heap/\(a=X.env.locals\/X.env.cells.lookup x=some a))->Q () s')(hf:X.fn x=true\/X.env.scope.names.lookup x=some .local:=by first|exact .inl rfl|exact .inr rfl|assumption):wpAny M A (storeName X.env x u) Q E s:=by
 obtain⟨m,hn,hl⟩:=id I.loc
 have hcls:(X.env.scope.kind== .class||(X.env.scope.kind== .module&&X.env.locals != X.env.globals))=false:=by rw[I.ok.kind];rfl
 have hiσ:i<σ.length:=by rw[I.len];exact(List.getElem?_eq_some_iff.mp hi).1
 have cne:=I.cne
 have tracked:∀ {a:Addr} {h':Heap},(∃ o,s.heap.get? a=some o/\H a=none)->SameBut a s.heap h'->HOk X.prog X.w H h':=λ{a h'} ha hs b ob e=>by
  obtain⟨_,_,hfree⟩:=ha
  refine(I.hok b ob e).stay (λc w' hc q=>(hs.2 c ?_).trans q) (λ_ q=>q) λ_ _ q=>q
  rintro rfl
  rcases hc with rfl|hc
  .rw[hfree]at e;cases e
  .rw[hfree]at hc;cases hc
 rcases hx with hk|hk
 .refine wpAny_storeName_local hk hn (λh' hn' hs=>?_) hcls
  obtain⟨oL,_,_,hoL,_⟩:=id hn
  refine h _ ⟨I.ok,I.os,I.bare,⟨λb o e n hb hx=>?_,λb o e n hb hx=>?_,I.base.free,λb o e hx=>?_,I.base.tups,I.base.frzs,I.base.tbls⟩,⟨_,hn',λj y v' e1 e2 e3=>?_⟩,λy c e=>?_,I.free,I.freeC,λp hp=>?_,tracked ⟨oL,hoL,I.free⟩ hs,by simpa using I.len⟩ ⟨_,hs,.inl rfl⟩
  .exact(hs.2 b (ne_of_lt (lt_of_lt_of_le (lt_size e) I.ok.above))).trans (I.base.keep b o e n hb hx)
  .obtain⟨sl,e1⟩:=I.base.slot b o e n hb hx
   exact⟨sl,(hs.2 b (ne_of_lt (lt_of_lt_of_le (lt_size e) I.ok.above))).trans e1⟩
  .obtain⟨o',e1⟩:=I.base.there b o e hx
   exact⟨o',(hs.2 b (ne_of_lt (lt_of_lt_of_le (lt_size e) I.ok.above))).trans e1⟩
  .by_cases hj:j=i
   .subst hj
    rw[hi]at e1;cases e1
    rw[getElem?_set_self hiσ]at e2
    cases e2
    exact⟨u,r,.inl ⟨hk,by simp⟩⟩
   .rw[getElem?_set_ne (Ne.symm hj)]at e2
    obtain⟨u',r',q⟩:=hl j y v' e1 e2 e3
    refine⟨u',r',?_⟩
    rcases q with⟨k,e⟩|⟨k,c,e,z⟩
    .refine .inl ⟨k,?_⟩
     have:y≠x:=λe=>hj (Zu hN e1 (e▸hi))
     simp[this,e]
    .exact .inr ⟨k,c,e,z.sameBut hs (cne y c e)⟩
  .obtain⟨w',z⟩:=I.cell y c e
   exact⟨w',z.sameBut hs (cne y c e)⟩
  .obtain⟨e,n,ne,nf,d⟩:=I.pin p hp
   exact⟨(hs.2 p.1 ne).trans e,n,ne,nf,d⟩
 .have hfn:X.fn x=true:=by
   rcases hf with z|z
   .exact z
   .rw[z]at hk;cases hk
  obtain⟨c,hc⟩:=I.ok.has x (.inl hk)
  obtain⟨w',z⟩:=I.cell x c hc
  refine wpAny_storeName_cell I.ok.kind hk hc z (λh' hc' hs=>?_)
  obtain⟨oc,hoc,hocd⟩:=id z
  refine h {s with heap:=h'} ⟨I.ok,I.os,I.bare,⟨λb o e n hb hx=>?_,λb o e n hb hx=>?_,I.base.free,λb o e hx=>?_,I.base.tups,I.base.frzs,I.base.tbls⟩,⟨m,hn.sameBut hs (Ne.symm (cne x c hc)),λj y v' e1 e2 e3=>?_⟩,λy c' e=>?_,I.free,I.freeC,λp hp=>?_,tracked ⟨oc,hoc,I.freeC x c hc⟩ hs,by simpa using I.len⟩ ⟨c,hs,.inr hc⟩
  .exact(hs.2 b (ne_of_lt (lt_of_lt_of_le (lt_size e) (I.ok.cab x c hfn hc)))).trans (I.base.keep b o e n hb hx)
  .obtain⟨sl,e1⟩:=I.base.slot b o e n hb hx
   exact⟨sl,(hs.2 b (ne_of_lt (lt_of_lt_of_le (lt_size e) (I.ok.cab x c hfn hc)))).trans e1⟩
  .obtain⟨o',e1⟩:=I.base.there b o e hx
   exact⟨o',(hs.2 b (ne_of_lt (lt_of_lt_of_le (lt_size e) (I.ok.cab x c hfn hc)))).trans e1⟩
  .by_cases hj:j=i
   .subst hj
    rw[hi]at e1;cases e1
    rw[getElem?_set_self hiσ]at e2
    cases e2
    exact⟨u,r,.inr ⟨.inl hk,c,hc,hc'⟩⟩
   .rw[getElem?_set_ne (Ne.symm hj)]at e2
    obtain⟨u',r',q⟩:=hl j y v' e1 e2 e3
    refine⟨u',r',?_⟩
    rcases q with q|⟨k,c',e,z'⟩
    .exact .inl q
    .refine .inr ⟨k,c',e,z'.sameBut hs ?_⟩
     rintro rfl
     exact hj (Zu hN e1 (I.ok.inj _ _ _ e hc▸hi))
  .by_cases hcc:c'=c
   .subst hcc;exact⟨_,hc'⟩
   .obtain⟨w2,z2⟩:=I.cell y c' e
    exact⟨w2,z2.sameBut hs hcc⟩
  .obtain⟨e,n,ne,nf,d⟩:=I.pin p hp
   refine⟨(hs.2 p.1 ?_).trans e,n,ne,nf,d⟩
   intro q
   rw[q,hoc]at e
   have q':oc=p.2:=Option.some.inj e
   exact d w' (by rw[<-q'];exact hocd)
theorem To{M:Model}{A:Around}{E:Value->Shared->Prop}{i:Nat}{x:Str}{v:V}{u:Value}{Q:Unit->Shared->Prop}(I:Inv X pins σ H s)(hN:X.N.Nodup)(hi:X.N[i]? =some x)(hx:Ew X.env.scope x)(r:RelV v u)(h:∀ s',Inv X pins (σ.set i (some v)) H s'->Q () s')(hf:X.fn x=true\/X.env.scope.names.lookup x=some .local:=by first|exact .inl rfl|exact .inr rfl|assumption):wpAny M A (storeName X.env x u) Q E s:=
 UB I hN hi hx r (λs' I' _=>h s' I') hf
theorem Inv.call'{s':Shared}{ch:List Addr}(I:Inv X pins σ H s)(ho:s'.os=s.os)(u:Un (Uw X.stack) ch H H' s.heap s'.heap)(hok:HOk X.prog X.w H' s'.heap)(hg:AllBare s'.gens)(hch:∀ b∈ch,(b∈X.ex\/X.s₀.heap.objs.size<=b)/\b≠X.env.locals/\(∀ x c,X.env.cells.lookup x=some c->c≠b)/\∀ p∈X.pn++pins,p.1≠b):Inv X pins σ H' s':=by
 obtain⟨h',g',d',t',o'⟩:=s'
 have e:o'=s.os:=ho
 subst e
 exact I.call (g':=g') (t':=t') (d':=d') u hok hg hch
end
abbrev XK:=Value->Option Addr×Bool->Hp->Prop
abbrev St:=List (Option V)
abbrev VK:=V->Hp->Prop
abbrev TE:=St->Hp->VK->Prop
abbrev TT:=St->Hp->(Bool->Hp->Prop)->Prop
abbrev TA:=St->Hp->(List V->Hp->Prop)->Prop
structure Ends where
 nx:St->Hp->Prop
 rt:VK
 bk:St->Hp->Prop:=λ_ _=>False
 ct:St->Hp->Prop:=λ_ _=>False
abbrev TS:=Ends->St->Hp->Prop
def EP(X:Cx)(pins:List (Addr×Obj))(σ:St)(Q:VK)(u:Value)(s':Shared):Prop:=∃ v H',Inv X pins σ H' s'/\RelV v u/\Q v H'
def TP(X:Cx)(pins:List (Addr×Obj))(σ:St)(Q:Bool->Hp->Prop)(b:Bool)(s':Shared):Prop:=∃ H',Inv X pins σ H' s'/\Q b H'
def AP(X:Cx)(pins:List (Addr×Obj))(σ:St)(Q:List V->Hp->Prop)(us:List Value)(s':Shared):Prop:=∃ vs H',Inv X pins σ H' s'/\Vals vs us/\Q vs H'
def SP(X:Cx)(pins:List (Addr×Obj))(D:Ends)(f:Flow)(s':Shared):Prop:=
 match f with
 | .next=>∃ σ' H',Inv X pins σ' H' s'/\D.nx σ' H'
 | .brk=>∃ σ' H',Inv X pins σ' H' s'/\D.bk σ' H'
 | .cont=>∃ σ' H',Inv X pins σ' H' s'/\D.ct σ' H'
 | .ret u=>∃ v σ' H',Inv X pins σ' H' s'/\RelV v u/\D.rt v H'
def PE(X:Cx)(e:Expr)(t:TE):Prop:=
 ∀ (pins:List (Addr×Obj)) (s:Shared) (σ:St) (H:Hp) (Q:VK),Inv X pins σ H s->t σ H Q->wpAny (model X.prog X.w) X.A (eval e X.env) (EP X pins σ Q) X.xe s
def PT(X:Cx)(e:Expr)(t:TT):Prop:=
 ∀ (pins:List (Addr×Obj)) (s:Shared) (σ:St) (H:Hp) (Q:Bool->Hp->Prop),Inv X pins σ H s->t σ H Q->wpAny (model X.prog X.w) X.A (isTrue e X.env (eval e X.env)) (TP X pins σ Q) X.xe s
def PW(X:Cx)(e:Expr)(t:TT):Prop:=
 ∀ (whole:Sem Value) (pins:List (Addr×Obj)) (s:Shared) (σ:St) (H:Hp) (Q:Bool->Hp->Prop),Inv X pins σ H s->t σ H Q->wpAny (model X.prog X.w) X.A (isTrue e X.env whole) (TP X pins σ Q) X.xe s
theorem PW.pt{X:Cx}{e:Expr}{t:TT}(h:PW X e t):PT X e t:=h _
def PA(X:Cx)(es:List Expr)(t:TA):Prop:=
 ∀ (pos:Pos) (pins:List (Addr×Obj)) (s:Shared) (σ:St) (H:Hp) (Q:List V->Hp->Prop),Inv X pins σ H s->t σ H Q->wpAny (model X.prog X.w) X.A (spliced (backTo pos (starEach es X.env))) (AP X pins σ Q) X.xe s
def PS(X:Cx)(st:Stmt)(t:TS):Prop:=
 ∀ (pins:List (Addr×Obj)) (s:Shared) (σ:St) (H:Hp) (D:Ends),Inv X pins σ H s->t D σ H->wpAny (model X.prog X.w) X.A (exec st X.env) (SP X pins D) X.xe s
def PSs(X:Cx)(st:List Stmt)(t:TS):Prop:=
 ∀ (pins:List (Addr×Obj)) (s:Shared) (σ:St) (H:Hp) (D:Ends),Inv X pins σ H s->t D σ H->wpAny (model X.prog X.w) X.A (execs st X.env) (SP X pins D) X.xe s
theorem Yc{α:Type}{t:Sem α}{Q Q':α->Shared->Prop}{M:Model}{A:Around}{E:Value->Shared->Prop}{s:Shared}(h:wpAny M A t Q E s)(hQ:∀ a s,Q a s->Q' a s):wpAny M A t Q' E s:=wpAny_mono h hQ λ_ _ x=>x
section
variable {X:Cx}
def LX(i:Nat):TE:=λσ H Q=>∃ v,σ[i]? =some (some v)/\Q v H
def tC(v:V):TE:=λ_ H Q=>Q v H
theorem Fh{i:Nat}{x:Str}{pos:Pos}(hN:X.N[i]? =some x)(hv:Bw X.env.scope x)(hd:(x==("__debug__":Str))=false:=by decide)(hcd:(x==("__classdict__":Str))=false:=by decide):PE X (.Name x pos) (LX i):=by
 intro pins s σ H Q I h
 obtain⟨v,e,h⟩:=h
 obtain⟨m,hn,hl⟩:=I.loc
 obtain⟨u,r,l⟩:=hl i x v hN e hv
 have fin:EP X pins σ Q u s:=⟨v,H,I,r,h⟩
 rcases l with⟨hk,hm⟩|⟨hk,c,hc,hcell⟩
 .exact wpAny_Name (wpAny_loadName_local I.ok.kind hk hn hm fin) hd
 .rcases hk with hk|hk
  .exact wpAny_Name (wpAny_loadName_cell I.ok.kind hk hc hcell fin) hd
  .exact wpAny_Name (wpAny_loadName_free I.ok.kind hk hc hcell fin hcd) hd
theorem KF{i j pos}:PE X (.Constant (.int i) j pos) (tC (.int i)):=λ_ _ _ H _ I h=>wpAny_Constant_int ⟨.int i,H,I.tok _,⟨_,rfl⟩,h⟩
theorem ZV{b j pos}:PE X (.Constant (.bool b) j pos) (tC (.bl b)):=λ_ _ _ H _ I h=>Constant_bool ⟨.bl b,H,I,rfl,h⟩
theorem TR{j pos}:PE X (.Constant .none j pos) (tC .non):=λ_ _ _ H _ I h=>Constant_none ⟨.non,H,I,rfl,h⟩
theorem UR{x j pos}:PE X (.Constant (.str x) j pos) (tC (.str x)):=λ_ _ _ H _ I h=>Calls.Constant_str ⟨.str x,H,I.tok _,⟨_,rfl⟩,h⟩
def Gl(X:Cx)(x:Str):Prop:=X.env.kindOf x=some .globalImplicit
theorem Ry{E:Value->Shared->Prop}{pins:List (Addr×Obj)}{s:Shared}{σ:St}{H:Hp}{x:Str}{u:Value}{pos:Pos}{Q:Value->Shared->Prop}(I:Inv X pins σ H s)(hg:Gl X x)(hm:X.mg x=some u)(h:Q u s)(hd:(x==("__debug__":Str))=false:=by decide):wpAny (model X.prog X.w) X.A (eval (.Name x pos) X.env) Q E s:=
 Calls.Name_function_global I.ok.kind hg (Calls.loadGlobal_global (by rw[I.ok.glob];exact I.mod.glob.keeps I.bk) hm h) hd
theorem Vf{E:Value->Shared->Prop}{pins:List (Addr×Obj)}{s:Shared}{σ:St}{H:Hp}{x:Str}{u:Value}{pos:Pos}{Q:Value->Shared->Prop}(I:Inv X pins σ H s)(hg:Gl X x)(hm:X.mg x=none)(hv:bootBuiltins x=some u)(h:Q u s)(hn:x≠"__name__":=by decide)(hd:(x==("__debug__":Str))=false:=by decide):wpAny (model X.prog X.w) X.A (eval (.Name x pos) X.env) Q E s:=by
 obtain⟨mb,h1,h2⟩:=I.mod.blt
 exact Calls.Name_function_global I.ok.kind hg (Calls.loadGlobal_builtin (by rw[I.ok.glob];exact I.mod.glob.keeps I.bk) hm (by rw[I.ok.blt];exact h1.keeps I.bk) ((h2 x hn).trans hv) h) hd
theorem ZK{x:Str}{v:V}{u:Value}{pos:Pos}(hg:Gl X x)(hm:X.mg x=none)(hv:bootBuiltins x=some u)(r:RelV v u)(hn:x≠"__name__":=by decide)(hd:(x==("__debug__":Str))=false:=by decide):PE X (.Name x pos) (tC v):=
 λ_ _ _ H _ I h=>Vf I hg hm hv ⟨v,H,I,r,h⟩ hn hd
variable {a b:Expr}{ta tb:TE}{pos:Pos}
def PC(X:Cx)(op:CmpOp)(a b:Expr)(t:TE):Prop:=
 ∀ (pins:List (Addr×Obj)) (s:Shared) (σ:St) (H:Hp) (Q:VK),Inv X pins σ H s->t σ H Q->
  wpAny (model X.prog X.w) X.A (eval a X.env) (λv s₁=>wpAny (model X.prog X.w) X.A (eval b X.env) (λu s₂=>wpAny (model X.prog X.w) X.A (compareOp op v u) (EP X pins σ Q) X.xe s₂) X.xe s₁) X.xe s
theorem Yu(b:Expr){op:CmpOp}(h:op≠ .In)(h2:op≠ .NotIn):behindInMarks op b=false:=by
 have e1:(op==CmpOp.In)=false:=by cases op<;>first|rfl|exact absurd rfl h
 have e2:(op==CmpOp.NotIn)=false:=by cases op<;>first|rfl|exact absurd rfl h2
 cases b<;>simp[behindInMarks,e1,e2]
def Y0(ta:TE):TE:=λσ H Q=>ta σ H λx H1=>Q (.bl (decide (x=.non))) H1
def EX(ta:TE):TE:=λσ H Q=>ta σ H λx H1=>Q (.bl (!decide (x=.non))) H1
theorem RelV.none_iff{x:V}{v:Value}(r:RelV x v):(v==Value.none)=decide (x=.non):=by
 cases x with
 |non=>cases r;rfl
 |bl _=>cases r;rfl
 |int _=>obtain⟨t,rfl⟩:=r;rfl
 |str _=>obtain⟨t,rfl⟩:=r;rfl
 |byt _=>obtain⟨t,rfl⟩:=r;rfl
 |flt _=>obtain⟨t,rfl⟩:=r;rfl
 |ref _=>cases r;rfl
 |ty _=>cases r;rfl
theorem JF{j pos'}(ha:PE X a ta):PC X .Is a (.Constant .none j pos') (Y0 ta):=by
 intro pins s σ H Q I h
 refine Yc (ha pins s σ H _ I h) λv s1 ⟨x,H1,I1,r1,q1⟩=>?_
 exact Constant_none (is_none_gen ⟨.bl _,H1,I1,by rw[r1.none_iff];rfl,q1⟩)
theorem YK{j pos'}(ha:PE X a ta):PC X .IsNot a (.Constant .none j pos') (EX ta):=by
 intro pins s σ H Q I h
 refine Yc (ha pins s σ H _ I h) λv s1 ⟨x,H1,I1,r1,q1⟩=>?_
 exact Constant_none (isnot_none_gen ⟨.bl _,H1,I1,by rw[r1.none_iff];rfl,q1⟩)
def tB(t:TE):TT:=λσ H Q=>t σ H λx H1=>∃ c,x=.bl c/\Q c H1
theorem PR{op:CmpOp}{t:TE}(h:PC X op a b t)(h1:behindInMarks op b=false:=by first|exact Yu _ (by decide) (by decide)|rfl):PE X (.Compare a [op] [b] pos) t:=λpins s σ H Q I hw=>wpAny_Compare1 (h pins s σ H Q I hw) h1
theorem TF{op:CmpOp}{t:TE}(h:PC X op a b t)(h1:behindInMarks op b=false:=by first|exact Yu _ (by decide) (by decide)|rfl):PT X (.Compare a [op] [b] pos) (tB t):=by
 intro pins s σ H Q I hw
 refine wpAny_isTrue_Compare1 (Yc (h pins s σ H _ I hw) λv s1 h1=>Yc h1 λu s2 h2=>Yc h2 λc s3 ⟨x,H1,I1,r1,q1⟩=>?_) h1
 obtain⟨d,rfl,q⟩:=q1
 cases r1
 exact wpAny_truthy_bool ⟨H1,I1,q⟩
theorem FS{e:Expr}{t:TE}(h:PE X e t)(he:∀ whole,isTrue e X.env whole=(do let v <-whole;standAt e.pos;holding [v] (truthy v)):=by intro _;rfl):PT X e (tB t):=by
 intro pins s σ H Q I hw
 refine isTrue_plain (Yc (h pins s σ H _ I hw) λv s1 ⟨x,H1,I1,r1,q1⟩=>?_) (he _)
 obtain⟨d,rfl,q⟩:=q1
 cases r1
 exact wpAny_truthy_bool ⟨H1,I1,q⟩
variable {tA tB':TT}{rest:List Expr}
def P0(t u:TT):TT:=λσ H Q=>t σ H λc H1=>if c=true then u σ H1 Q else Q false H1
def E3(t u:TT):TT:=λσ H Q=>t σ H λc H1=>if c=true then Q true H1 else u σ H1 Q
def B1(t:TT):TT:=λσ H Q=>t σ H λc H1=>Q (!c) H1
theorem RL(ha:PT X a tA):PW X (.BoolOp .And [a] pos) tA:=by
 intro wh pins s σ H Q I h
 refine isTrue_and (Yc (ha pins s σ H Q I h) λc s1 e=>?_)
 cases c with
 |true=>exact isTrue_and_nil e
 |false=>exact e
theorem IS(ha:PT X a tA):PW X (.BoolOp .Or [a] pos) tA:=by
 intro wh pins s σ H Q I h
 refine isTrue_or (Yc (ha pins s σ H Q I h) λc s1 e=>?_)
 cases c with
 |false=>exact isTrue_or_nil e
 |true=>exact e
theorem HS(ha:PT X a tA)(hb:PW X (.BoolOp .And (b::rest) pos) tB'):PW X (.BoolOp .And (a::b::rest) pos) (P0 tA tB'):=by
 intro wh pins s σ H Q I h
 refine isTrue_and (Yc (ha pins s σ H _ I h) λc s1 ⟨H1,I1,q1⟩=>?_)
 cases c with
 |true=>exact hb wh pins s1 σ H1 Q I1 q1
 |false=>exact⟨H1,I1,q1⟩
theorem HW(ha:PT X a tA)(hb:PW X (.BoolOp .Or (b::rest) pos) tB'):PW X (.BoolOp .Or (a::b::rest) pos) (E3 tA tB'):=by
 intro wh pins s σ H Q I h
 refine isTrue_or (Yc (ha pins s σ H _ I h) λc s1 ⟨H1,I1,q1⟩=>?_)
 cases c with
 |true=>exact⟨H1,I1,q1⟩
 |false=>exact hb wh pins s1 σ H1 Q I1 q1
theorem ES(ha:PT X a tA):PT X (.UnaryOp .Not a pos) (B1 tA):=by
 intro pins s σ H Q I h
 exact isTrue_not (ha pins s σ H (λc H1=>Q (!c) H1) I h)
end
def SqL(K:Frag)(H:Hp)(a:Addr)(xs:List V):Prop:=
 Rd H a (.lst xs)\/
  ∃ (o:Obj) (its:Array Value) (n:Nat),K.lookup a=some o/\o.cls=.type "list"/\o.dict=none/\o.data=.seq its n/\its.size<=sizeLine/\Vals xs its.toList
def SqT(K:Frag)(H:Hp)(a:Addr)(xs:List V):Prop:=
 Rd H a (.tup xs)\/
  ∃ (o:Obj) (its:Array Value) (n:Nat),K.lookup a=some o/\o.cls=.type "tuple"/\o.data=.seq its n/\its.size<=sizeLine/\Vals xs its.toList
def DZ:Value->Option V
 | .none=>some .non
 | .bool b=>some (.bl b)
 | .int i _=>some (.int i)
 | .str x _=>some (.str x)
 | .bytes b _=>some (.byt b)
 | .float b _=>some (.flt b)
 | .ref a=>some (.ref a)
 | .type n=>some (.ty n)
 |_=>none
theorem RelV.abs{x:V}{u:Value}(r:RelV x u):DZ u=some x:=by
 cases x with
 |non=>cases r;rfl
 |bl _=>cases r;rfl
 |int _=>obtain⟨t,rfl⟩:=r;rfl
 |str _=>obtain⟨t,rfl⟩:=r;rfl
 |byt _=>obtain⟨t,rfl⟩:=r;rfl
 |flt _=>obtain⟨t,rfl⟩:=r;rfl
 |ref _=>cases r;rfl
 |ty _=>cases r;rfl
theorem RelV.inj{x y:V}{u:Value}(r:RelV x u)(q:RelV y u):x=y:=Option.some.inj (r.abs.symm.trans q.abs)
theorem Vals.inj:∀ {xs ys:List V} {us:List Value},Vals xs us->Vals ys us->xs=ys
 |_,_,_,.nil,.nil=>rfl
 |_,_,_,.cons r t,.cons r' t'=>by rw[r.inj r',Vals.inj t t']
section
variable {X:Cx}{pins:List (Addr×Obj)}{σ:St}{H:Hp}{s:Shared}{a:Addr}{xs ys:List V}
theorem SqL.of{K:Frag}(h:H a=some (.lst xs)):SqL K H a xs:=.inl (.inl h)
theorem SqT.of{K:Frag}(h:H a=some (.tup xs)):SqT K H a xs:=.inl (.inl h)
theorem Inv.list(I:Inv X pins σ H s)(h:SqL X.K H a xs):∃ its:List Value,Vals xs its/\PlainL s.heap a its.toArray/\xs.length<=sizeLine:=by
 rcases h with h|⟨o,its,n,hk,hc,hd,hs,hz,r⟩
 .obtain⟨z,its,n,r,e⟩:=h.ok I.hok
  exact⟨its,r,⟨_,n,e,rfl,rfl,rfl⟩,z⟩
 .refine⟨its.toList,r,⟨o,n,I.kIn a o hk,hc,hd,by simpa using hs⟩,?_⟩
  have e:=r.length
  simp only[length_toList]at e
  omega
theorem Inv.tuple(I:Inv X pins σ H s)(h:SqT X.K H a xs):∃ its:List Value,Vals xs its/\IsTup s.heap a its.toArray/\xs.length<=sizeLine:=by
 rcases h with h|⟨o,its,n,hk,hc,hs,hz,r⟩
 .obtain⟨z,its,r,p⟩:=h.ok I.hok
  exact⟨its,r,p,z⟩
 .refine⟨its.toList,r,⟨o,I.kIn a o hk,hc,n,by simpa using hs⟩,?_⟩
  have e:=r.length
  simp only[length_toList]at e
  omega
theorem Inv.list_inj(I:Inv X pins σ H s)(h:SqL X.K H a xs)(h':SqL X.K H a ys):xs=ys:=by
 obtain⟨its,r,⟨o,n,e,_,_,d⟩,_⟩:=I.list h
 obtain⟨its',r',⟨o',n',e',_,_,d'⟩,_⟩:=I.list h'
 rw[e]at e';cases e'
 rw[d]at d'
 injection d' with d1 _
 have:its=its':=by simpa using congrArg Array.toList d1
 subst this
 exact r.inj r'
theorem Inv.tuple_inj(I:Inv X pins σ H s)(h:SqT X.K H a xs)(h':SqT X.K H a ys):xs=ys:=by
 obtain⟨its,r,⟨o,e,_,n,d⟩,_⟩:=I.tuple h
 obtain⟨its',r',⟨o',e',_,n',d'⟩,_⟩:=I.tuple h'
 rw[e]at e';cases e'
 rw[d]at d'
 injection d' with d1 _
 have:its=its':=by simpa using congrArg Array.toList d1
 subst this
 exact r.inj r'
end
abbrev Cx.wish(X:Cx)(E:Value->Shared->Prop):Cx:= {X with xe:=E}
abbrev Cx.nox(X:Cx):Cx:=X.wish λ_ _=>False
theorem Cx.Ok.wish{X:Cx}(ok:X.Ok)(E:Value->Shared->Prop):(X.wish E).Ok:=
 ⟨ok.mod,ok.kind,ok.glob,ok.blt,ok.above,ok.inj,ok.has,ok.cab,ok.hd,ok.frames,ok.stk,ok.exf,ok.bs,ok.bsz,ok.noex,ok.exfs,ok.funs,ok.frf⟩
theorem Cx.Ok.unwish{X:Cx}{E:Value->Shared->Prop}(ok:(X.wish E).Ok):X.Ok:=
 ⟨ok.mod,ok.kind,ok.glob,ok.blt,ok.above,ok.inj,ok.has,ok.cab,ok.hd,ok.frames,ok.stk,ok.exf,ok.bs,ok.bsz,ok.noex,ok.exfs,ok.funs,ok.frf⟩
section
variable {X:Cx}{pins:List (Addr×Obj)}{σ:St}{H:Hp}{s:Shared}{E:Value->Shared->Prop}
theorem Inv.wish(I:Inv X pins σ H s)(E:Value->Shared->Prop):Inv (X.wish E) pins σ H s:=⟨I.ok.wish E,I.os,I.bare,I.base,I.loc,I.cell,I.free,I.freeC,I.pin,I.hok,I.len⟩
theorem Inv.unwish(I:Inv (X.wish E) pins σ H s):Inv X pins σ H s:=⟨I.ok.unwish,I.os,I.bare,I.base,I.loc,I.cell,I.free,I.freeC,I.pin,I.hok,I.len⟩
theorem SP.unwish{D:Ends}{f:Flow}{s':Shared}(h:SP (X.wish E) pins D f s'):SP X pins D f s':=by
 cases f with
 |next=>obtain⟨σ',H',I,q⟩:=h;exact⟨σ',H',I.unwish,q⟩
 |brk=>obtain⟨σ',H',I,q⟩:=h;exact⟨σ',H',I.unwish,q⟩
 |cont=>obtain⟨σ',H',I,q⟩:=h;exact⟨σ',H',I.unwish,q⟩
 |ret u=>obtain⟨v,σ',H',I,r,q⟩:=h;exact⟨v,σ',H',I.unwish,r,q⟩
theorem PSs.nox{st:List Stmt}{t:TS}(h:PSs X.nox st t):PSs X st t:=λpins s σ H D I hw=>
 wpAny_mono (h pins s σ H D (I.wish _) hw) (λ_ _ q=>q.unwish) λ_ _ z=>False.elim z
end
section
variable {X:Cx}{st:Stmt}{rest:List Stmt}{t u:TS}{e:Expr}{te:TE}{pos:Pos}
def DX:TS:=λD σ H=>D.nx σ H
def D1(t u:TS):TS:=λD σ H=>t {D with nx:=u D} σ H
theorem Zy:PSs X [] DX:=λ_ _ σ H _ I h=>wpAny_execs_nil ⟨σ,H,I,h⟩
theorem Iv(h1:PS X st t)(h2:PSs X rest u):PSs X (st::rest) (D1 t u):=by
 intro pins s σ H D I h
 refine wpAny_execs_cons (Yc (h1 pins s σ H {D with nx:=u D} I h) λf s1 q=>?_)
 cases f with
 |next=>
  obtain⟨σ',H',I',q⟩:=q
  exact h2 pins s1 σ' H' D I' q
 |ret v=>exact q
 |brk=>exact q
 |cont=>exact q
theorem OL(h1:PS X st t):PSs X [st] t:=by
 intro pins s σ H D I h
 refine wpAny_execs_cons (Yc (h1 pins s σ H D I h) λf s1 q=>?_)
 cases f with
 |next=>exact wpAny_execs_nil q
 |ret v=>exact q
 |brk=>exact q
 |cont=>exact q
theorem Inv.quiet{pins:List (Addr×Obj)}{σ:St}{H:Hp}{s:Shared}(I:Inv X pins σ H s):interactive X.env=false:=by simp[interactive,I.ok.kind]
def YW(te:TE):TS:=λD σ H=>te σ H λ_ H1=>D.nx σ H1
theorem Hs(he:PE X e te)(hs:swapsWith e none pos.line X.env=pure false:=by rfl):PS X (.Expr e pos) (YW te):=by
 intro pins s σ H D I h
 exact wpAny_Expr_any (Yc (he pins s σ H _ I h) λv s1 ⟨x,H1,I1,r1,q1⟩=>⟨σ,H1,I1,q1⟩) I.quiet hs
def C1(te:TE):TS:=λD σ H=>te σ H D.rt
theorem QF(he:PE X e te):PS X (.Return (some e) pos) (C1 te):=by
 intro pins s σ H D I h
 exact wpAny_Return_some (Yc (he pins s σ H _ I h) λv s1 ⟨x,H1,I1,r1,q1⟩=>⟨x,σ,H1,I1,r1,q1⟩)
def X0(c:TT)(t u:TS):TS:=λD σ H=>c σ H λb H1=>if b=true then t D σ H1 else u D σ H1
theorem FW{c:Expr}{a b:List Stmt}{tc:TT}(hc:PT X c tc)(ha:PSs X a t)(hb:PSs X b u):PS X (.If c a b pos) (X0 tc t u):=by
 intro pins s σ H D I h
 refine wpAny_If (Yc (hc pins s σ H _ I h) λd s1 ⟨H1,I1,q1⟩=>?_)
 cases d with
 |true=>exact ha pins s1 σ H1 D I1 q1
 |false=>exact hb pins s1 σ H1 D I1 q1
def KT:TS:=λ_ _ _=>False
theorem PF:PS X st KT:=λ_ _ _ _ _ _ h=>h.elim
end
abbrev TG:=V->St->Hp->(St->Hp->Prop)->Prop
abbrev LH:=List V->St->Hp->(St->Hp->Prop)->Prop
def PG(X:Cx)(target:Expr)(t:TG):Prop:=
 ∀ (pins:List (Addr×Obj)) (s:Shared) (σ:St) (H:Hp) (v:V) (u:Value) (Q:St->Hp->Prop),Inv X pins σ H s->RelV v u->t v σ H Q->
  wpAny (model X.prog X.w) X.A (assign target X.env u) (λ_ s'=>∃ σ' H',Inv X pins σ' H' s'/\Q σ' H') X.xe s
def PGs(X:Cx)(ts:List Expr)(t:LH):Prop:=
 ∀ (pins:List (Addr×Obj)) (s:Shared) (σ:St) (H:Hp) (vs:List V) (us:List Value) (Q:St->Hp->Prop),Inv X pins σ H s->Vals vs us->t vs σ H Q->
  wpAny (model X.prog X.w) X.A (assignInOrder ((assignEach ts X.env).map (·.2)) us) (λ_ s'=>∃ σ' H',Inv X pins σ' H' s'/\Q σ' H') X.xe s
abbrev QN:=V->V->V->Hp->(Hp->Prop)->Prop
def QU(X:Cx)(t:QN):Prop:=
 ∀ (pins:List (Addr×Obj)) (s:Shared) (σ:St) (H:Hp) (o i v:V) (ov iv u:Value) (Q:Hp->Prop),Inv X pins σ H s->RelV o ov->RelV i iv->RelV v u->t o i v H Q->
  wpAny (model X.prog X.w) X.A (setItem ov iv u) (λ_ s'=>∃ H',Inv X pins σ H' s'/\Q H') X.xe s
section
variable {X:Cx}{pos:Pos}
def Fu(i:Nat):TG:=λv σ H Q=>Q (σ.set i (some v)) H
theorem IL{i:Nat}{x:Str}(hN:X.N.Nodup)(hi:X.N[i]? =some x)(hx:Ew X.env.scope x)(hf:X.fn x=true\/X.env.scope.names.lookup x=some .local:=by first|exact .inl rfl|exact .inr rfl|assumption):PG X (.Name x pos) (Fu i):=by
 intro pins s σ H v u Q I r h
 exact wpAny_assign_Name (To I hN hi hx r (λs' I'=>⟨_,H,I',h⟩) hf)
def NZ:LH:=λvs σ H Q=>vs= []/\Q σ H
def MV(t:TG)(u:LH):LH:=λvs σ H Q=>∃ v r,vs=v::r/\t v σ H λσ' H'=>u r σ' H' Q
theorem JL:PGs X [] NZ:=by
 intro pins s σ H vs us Q I r h
 obtain⟨e,h⟩:=h
 subst e
 cases r
 exact assignInOrder_nil ⟨σ,H,I,h⟩
theorem OF{e:Expr}{es:List Expr}{t:TG}{u:LH}(h1:PG X e t)(h2:PGs X es u)(hs:(assignEach (e::es) X.env).map (·.2)=assign e X.env::(assignEach es X.env).map (·.2):=by rfl):PGs X (e::es) (MV t u):=by
 intro pins s σ H vs us Q I r h
 obtain⟨v,vr,e1,h⟩:=h
 subst e1
 cases r with
 |cons r rr=>
  rw[hs]
  refine assignInOrder_cons (Yc (h1 pins s σ H _ _ _ I r h) λ_ s1 ⟨σ1,H1,I1,q1⟩=>?_)
  exact h2 pins s1 σ1 H1 _ _ Q I1 rr q1
def PZ(K:Frag)(n:Nat)(t:LH):TG:=λv σ H Q=>∃ a xs,v=.ref a/\SqT K H a xs/\xs.length=n/\t xs σ H Q
theorem XR{es:List Expr}{k:Nat}{t:LH}{n:Nat}(hc:X.calm=true)(h:PGs X es t)(hn:(assignEach es X.env).length=n:=by rfl)(hst:(assignEach es X.env).findIdx? (·.1)=none:=by rfl):PG X (.Tuple es k pos) (PZ X.K n t):=by
 intro pins s σ H v u Q I r hw
 obtain⟨a,xs,e1,hq,hl,hw⟩:=hw
 subst e1
 cases r
 obtain⟨its,rv,ht,hz⟩:=I.tuple hq
 refine assign_Tuple_tuple (I.ok.hd hc) ht (by simp[hn,<-hl,rv.length]) hst λh' hx=>?_
 have I1:Inv X pins σ H {s with heap:=h'}:=I.kept (t':=s.toks) λb o e=>hx b o (ne_of_lt (lt_size e)) e
 exact h pins _ σ H xs _ Q I1 (by simpa using rv) hw
def OZ(to ti:TE)(t:QN):TG:=λv σ H Q=>to σ H λo H1=>ti σ H1 λi H2=>t o i v H2 λH3=>Q σ H3
theorem WR{o i:Expr}{to ti:TE}{t:QN}(ho:PE X o to)(hi:PE X i ti)(hs:QU X t)(ha:∀ v,assign (.Subscript o i pos) X.env v=(do
   let ov <-holding [v] (eval o X.env)
   let iv <-holding [v,ov] (eval i X.env)
   standAt pos
   holding [v,ov,iv] (setItem ov iv v)
   release [v,ov,iv] []):=by intro _;rfl):PG X (.Subscript o i pos) (OZ to ti t):=by
 intro pins s σ H v u Q I r h
 rw[ha]
 refine wpAny_bind (wpAny_holding (Yc (ho pins s σ H _ I h) λov s1 ⟨x,H1,I1,r1,q1⟩=>?_))
 refine wpAny_bind (wpAny_holding (Yc (hi pins s1 σ H1 _ I1 q1) λiv s2 ⟨y,H2,I2,r2,q2⟩=>?_))
 refine wpAny_bind (wpAny_standAt (wpAny_bind (wpAny_holding (Yc (hs pins s2 σ H2 x y v ov iv u _ I2 r1 r2 r q2) λ_ s3 ⟨H3,I3,q3⟩=>?_))))
 exact wpAny_release ⟨σ,H3,I3,q3⟩
def GT(te:TE)(g:TG):TS:=λD σ H=>te σ H λx H1=>g x σ H1 D.nx
theorem AS{tg e:Expr}{te:TE}{g:TG}(he:PE X e te)(hg:PG X tg g)(hs:swapsWithSole [tg] e pos.line X.env=pure false:=by rfl)(hw:swappedStores [tg] e X.env=pure none:=by rfl)(h1:(assignEach [tg] X.env).map (·.2)= [assign tg X.env]:=by rfl):PS X (.Assign [tg] e pos) (GT te g):=by
 intro pins s σ H D I h
 refine wpAny_Assign_stores (Yc (he pins s σ H _ I h) λv s1 ⟨x,H1,I1,r1,q1⟩=>?_) hs hw
 rw[h1]
 exact Yc (hg pins s1 σ H1 x v _ I1 r1 q1) λ_ s2 q=>q
theorem Js{i:Nat}{x:Str}{e:Expr}{te:TE}{pos':Pos}(hN:X.N.Nodup)(hi:X.N[i]? =some x)(hx:Ew X.env.scope x)(he:PE X e te)(hs:swapsWith e (some (.Name x pos')) pos.line X.env=pure false:=by rfl)(hf:X.fn x=true\/X.env.scope.names.lookup x=some .local:=by first|exact .inl rfl|exact .inr rfl|assumption):
  PS X (.Assign [.Name x pos'] e pos) (GT te (Fu i)):=by
 intro pins s σ H D I h
 refine wpAny_Assign_Name (Yc (he pins s σ H _ I h) λv s1 ⟨y,H1,I1,r1,q1⟩=>?_) hs
 exact To I1 hN hi hx r1 (λs2 I2=>⟨_,H1,I2,q1⟩) hf
end
section
variable {X:Cx}{pos:Pos}
def MT(c:TT)(tb:TS):TS:=λD σ H=>∃ W:Nat->St->Hp->Prop,(∃ m,W m σ H)/\∀ m σ H,W m σ H->
 c σ H λb H1=>if b=true then ∃ N:St->Hp->Prop,(∀ σ' H',N σ' H'->∃ m',m'<m/\W m' σ' H')/\tb {D with nx:=N,ct:=N,bk:=D.nx} σ H1 else D.nx σ H1
theorem SF{c:Expr}{body:List Stmt}{tc:TT}{tb:TS}(hp:PassesOwn (model X.prog X.w) X.A X.env X.xe)(hc:PT X c tc)(hb:PSs X body tb):PS X (.While c body [] pos) (MT tc tb):=by
 intro pins s σ H D I h
 obtain⟨W,⟨m0,w0⟩,turn⟩:=h
 refine wpAny_While (codeAny_whileLoop (λn s'=>∃ σ' H',Inv X pins σ' H' s'/\W n σ' H') ?_ m0 ⟨σ,H,I,w0⟩)
 rintro n s1 ⟨σ1,H1,I1,w1⟩
 refine wpAny_passesOwn hp (Yc (hc pins s1 σ1 H1 _ I1 (turn n σ1 H1 w1)) λb s2 ⟨H2,I2,q2⟩=>?_)
 cases b with
 |true=>
  obtain⟨N,hN,q2⟩:=q2
  rw[if_pos rfl]
  refine wpAny_passesOwn hp (Yc (hb pins s2 σ1 H2 _ I2 q2) λf s3 q3=>?_)
  cases f with
  |next=>
   obtain⟨σ3,H3,I3,n3⟩:=q3
   obtain⟨m',hm,w3⟩:=hN σ3 H3 n3
   exact⟨m',hm,σ3,H3,I3,w3⟩
  |cont=>
   obtain⟨σ3,H3,I3,n3⟩:=q3
   obtain⟨m',hm,w3⟩:=hN σ3 H3 n3
   exact⟨m',hm,σ3,H3,I3,w3⟩
  |brk=>exact q3
  |ret v=>exact q3
 |false=>
  rw[if_neg Bool.false_ne_true]
  exact wpAny_execs_nil ⟨σ1,H2,I2,q2⟩
end
structure It where
 go:Nat->Hp->Prop
 yld:Nat->Hp->V->Hp->Prop
 stop:Nat->Hp->Prop
def Vj(X:Cx)(pins:List (Addr×Obj))(H:Hp)(b:Addr):Prop:=
 H b=none/\b≠X.env.locals/\b∉X.fs/\(b∈X.ex\/X.s₀.heap.objs.size<=b)/\(∀ x c,X.env.cells.lookup x=some c->c≠b)/\∀ p∈X.pn++pins,p.1≠b
theorem Inv.fpOk{X:Cx}{pins:List (Addr×Obj)}{σ:St}{H H':Hp}{s:Shared}{b:Addr}(I:Inv X pins σ H s)(hb:s.heap.objs.size<=b)(hn:H' b=none):Vj X pins H' b:=by
 refine⟨hn,ne_of_gt (lt_of_lt_of_le I.lt hb),I.nofs hb,.inr (le_trans I.sz hb),λx c e z=>?_,λp hp z=>?_⟩
 .obtain⟨v,q⟩:=I.cell x c e
  exact absurd (lt_of_lt_of_le q.lt (by rw[z];exact hb)) (lt_irrefl _)
 .exact absurd (lt_of_lt_of_le (lt_size (I.pin p hp).1) (by rw[z];exact hb)) (lt_irrefl _)
structure Turn(P:Program)(w:World)(K:Frag)(tg:Expr)(J:It)(fp:List Addr)(it:Addr)(tn:Nat->Heap->Prop):Prop where
 mem:it∈fp
 obj:∀ i h,tn i h->∀ b∈fp,∃ o,h.get? b=some o/\∀ v,o.data≠ .cell v
 keep:∀ i h h',tn i h->(∀ b∈fp,∀ o,h.get? b=some o->h'.get? b=some o)->tn i h'
 item:∀ (X:Cx),X.prog=P->X.w=w->X.K=K->X.calm=true->∀ (i:Nat) (pins:List (Addr×Obj)) (s:Shared) (σ:St) (H:Hp) (E:Value->Shared->Prop),Inv X pins σ H s->(∀ b∈fp,Vj X pins H b)->tn i s.heap->J.go i H->
  wpAny (model P w) X.A (pyNext (.ref it)) (λr s1=>∃ u,r=some u/\
   wpAny (model P w) X.A (letOwnedTupleGo tg (.ref it) u) (λ_ s2=>∃ x H',Inv X pins σ H' s2/\RelV x u/\J.yld i H x H'/\tn (i+1) s2.heap/\∀ b∈fp,H' b=none) E s1) E s
 done:∀ (X:Cx),X.prog=P->X.w=w->X.K=K->X.calm=true->∀ (i:Nat) (pins:List (Addr×Obj)) (s:Shared) (σ:St) (H:Hp) (E:Value->Shared->Prop),Inv X pins σ H s->(∀ b∈fp,Vj X pins H b)->tn i s.heap->J.stop i H->
  wpAny (model P w) X.A (pyNext (.ref it)) (λr s1=>r=none/\Inv X pins σ H s1) E s
 self:∀ (A:Around) (i:Nat) (s:Shared) (Q:Value->Shared->Prop) (E:Value->Shared->Prop),tn i s.heap->Q (.ref it) s->wpAny (model P w) A (pyIter (.ref it)) Q E s
abbrev TI:=St->Hp->(It->Hp->Prop)->Prop
def N1(X:Cx)(pins:List (Addr×Obj))(σ:St)(tg:Expr)(R:It->Hp->Prop)(itv:Value)(s2:Shared):Prop:=
 ∃ (it:Addr) (fp:List Addr) (tn:Nat->Heap->Prop) (J:It) (H':Hp),itv=.ref it/\Inv X pins σ H' s2/\Turn X.prog X.w X.K tg J fp it tn/\tn 0 s2.heap/\(∀ b∈fp,Vj X pins H' b)/\R J H'
def PI(X:Cx)(tg iter:Expr)(wi:TI):Prop:=
 ∀ (pins:List (Addr×Obj)) (s:Shared) (σ:St) (H:Hp) (R:It->Hp->Prop),Inv X pins σ H s->wi σ H R->
  wpAny (model X.prog X.w) X.A (eval iter X.env) (λv s1=>wpAny (model X.prog X.w) X.A (pyIter v) (N1 X pins σ tg R) X.xe s1) X.xe s
theorem Ly{M : Model}{A : Around}{E : Value -> Shared -> Prop}{s : Shared}{tg : Expr}{it : Addr}{u : Value}{o : Obj}{n : String}{vs : Array Value}{Q : Unit -> Shared -> Prop}(ho : s.heap.get? it = some o)(hc : o.cls = .type n)(hd : o.data = .fields vs)(hn : ["enumerate", "zip", "dict_itemiterator", "dict_reverseitemiterator", "odict_iterator", "itertools.zip_longest", "itertools.pairwise"].contains n = false)(hQ : Q () s) : wpAny M A (letOwnedTupleGo tg (.ref it) u) Q E s := by
  unfold letOwnedTupleGo
  cases tg <;> first
    | exact wpAny_pure hQ
    | (cases u <;> first
        | exact wpAny_pure hQ
        | (refine wpAny_bind (wpAny_load ho ?_)
           rw[hc, hd]
           show wpAny M A (if(["enumerate", "zip", "dict_itemiterator", "dict_reverseitemiterator", "odict_iterator", "itertools.zip_longest", "itertools.pairwise"].contains n && vs[0]? == some (rawInt _)) = true then _ else _) Q E s
           rw[if_neg (by intro h; rw[hn, Bool.false_and]at h; cases h)]
           exact wpAny_pure hQ))
def SY(K:Frag)(a:Addr):It:=
 ⟨λi H=>∃ xs x,SqL K H a xs/\xs[i]? =some x,λi H x H'=>H'=H/\∀ xs,SqL K H a xs->xs[i]? =some x,λi H=>∃ xs,SqL K H a xs/\xs.length<=i⟩
def TY(K:Frag)(a:Addr):It:=
 ⟨λi H=>∃ xs x,SqT K H a xs/\xs[i]? =some x,λi H x H'=>H'=H/\∀ xs,SqT K H a xs->xs[i]? =some x,λi H=>∃ xs,SqT K H a xs/\xs.length<=i⟩
def Itr(lo:Int)(n:Nat):It:=⟨λi _=>i<n,λi H x H'=>H'=H/\x=.int (lo+i),λi _=>n<=i⟩
theorem WB{P:Program}{w:World}{K:Frag}{tg:Expr}(a it:Addr):Turn P w K tg (SY K a) [it] it (λi h=>h.IsListIter it a i) where
 mem:=by simp
 obj:=λi h st b hb=>by
  have e:b=it:=by simpa using hb
  subst e
  obtain⟨o,e,c,d⟩:=st
  exact⟨o,e,λv z=>by rw[d]at z;cases z⟩
 keep:=λi h h' st k=>st.at λo e=>k it (by simp) o e
 item:=by
  intro X hP hw hK hc i pins s σ H E I hf st hg
  subst hP hw hK
  obtain⟨xs,x,hq,hx⟩:=hg
  obtain⟨its,rv,p,hz⟩:=I.list hq
  obtain⟨u,hu,ru⟩:=rv.get hx
  obtain⟨f0,f1,f2,f3,f4,f5⟩:=hf it (by simp)
  refine wpAny_pyNext_list_item st p.isList (x:=u) (by simpa using hu) λh' st' sb=>?_
  have I1:Inv X pins σ H {s with heap:=h'}:=I.turned (t':=s.toks) (λb o hb e=>(sb.2 b hb).trans e) f0 f1 f3 f4 f5
  obtain⟨o,e,c,d⟩:=id st'
  exact⟨u,rfl,Ly (s:= {s with heap:=h'}) e c d (by decide) ⟨x,H,I1,ru,⟨rfl,λys hy=>by rw[I.list_inj hy hq];exact hx⟩,st',λb hb=>(hf b hb).1⟩⟩
 done:=by
  intro X hP hw hK hc i pins s σ H E I hf st hg
  subst hP hw hK
  obtain⟨xs,hq,hx⟩:=hg
  obtain⟨its,rv,p,hz⟩:=I.list hq
  obtain⟨f0,f1,f2,f3,f4,f5⟩:=hf it (by simp)
  have hl:=rv.length
  exact wpAny_pyNext_list_end (I.ok.hd hc) st p.isList (by simp;omega) λh' eb=>⟨rfl,I.turned (t':=s.toks) (λb o hb e=>eb b o hb e) f0 f1 f3 f4 f5⟩
 self:=λ_ _ _ _ _ st h=>wpAny_pyIter_listiter st h
theorem Tx{P:Program}{w:World}{K:Frag}{tg:Expr}(a it:Addr):Turn P w K tg (TY K a) [it] it (λi h=>h.IsTupleIter it a i) where
 mem:=by simp
 obj:=λi h st b hb=>by
  have e:b=it:=by simpa using hb
  subst e
  obtain⟨o,e,c,d⟩:=st
  exact⟨o,e,λv z=>by rw[d]at z;cases z⟩
 keep:=λi h h' st k=>st.at λo e=>k it (by simp) o e
 item:=by
  intro X hP hw hK hc i pins s σ H E I hf st hg
  subst hP hw hK
  obtain⟨xs,x,hq,hx⟩:=hg
  obtain⟨its,rv,p,hz⟩:=I.tuple hq
  obtain⟨u,hu,ru⟩:=rv.get hx
  obtain⟨f0,f1,f2,f3,f4,f5⟩:=hf it (by simp)
  refine wpAny_pyNext_tuple_item st (show s.heap.IsTuple a its.toArray from p) (x:=u) (by simpa using hu) λh' st' sb=>?_
  have I1:Inv X pins σ H {s with heap:=h'}:=I.turned (t':=s.toks) (λb o hb e=>(sb.2 b hb).trans e) f0 f1 f3 f4 f5
  obtain⟨o,e,c,d⟩:=id st'
  exact⟨u,rfl,Ly (s:= {s with heap:=h'}) e c d (by decide) ⟨x,H,I1,ru,⟨rfl,λys hy=>by rw[I.tuple_inj hy hq];exact hx⟩,st',λb hb=>(hf b hb).1⟩⟩
 done:=by
  intro X hP hw hK hc i pins s σ H E I hf st hg
  subst hP hw hK
  obtain⟨xs,hq,hx⟩:=hg
  obtain⟨its,rv,p,hz⟩:=I.tuple hq
  obtain⟨f0,f1,f2,f3,f4,f5⟩:=hf it (by simp)
  have hl:=rv.length
  exact wpAny_pyNext_tuple_end (I.ok.hd hc) st (show s.heap.IsTuple a its.toArray from p) (by simp;omega) λh' eb=>⟨rfl,I.turned (t':=s.toks) (λb o hb e=>eb b o hb e) f0 f1 f3 f4 f5⟩
 self:=λ_ _ _ _ _ st h=>wpAny_pyIter_tupleiter st h
theorem Sx{P:Program}{w:World}{K:Frag}{tg:Expr}(it:Addr)(lo:Int)(n:Nat):Turn P w K tg (Itr lo n) [it] it (λi h=>IsRangeIter h it (lo+(i:Nat)*1) ((n:Int)-(i:Nat)) 1) where
 mem:=by simp
 obj:=λi h st b hb=>by
  have e:b=it:=by simpa using hb
  subst e
  exact⟨_,st,λv z=>by
   have z':Data.fields _=Data.cell v:=z
   cases z'⟩
 keep:=λi h h' st k=>k it (by simp) _ st
 item:=by
  intro X hP hw hK hc i pins s σ H E I hf st hg
  subst hP hw hK
  obtain⟨f0,f1,f2,f3,f4,f5⟩:=hf it (by simp)
  have W:=Walks.range (prog:=X.prog) (w:=X.w) (I.ok.hd hc) it lo 1 n
  refine W.item i s _ _ hg st λv h' tk hv st' kk=>?_
  obtain⟨t,rfl⟩:=hv
  have I1:Inv X pins σ H {s with heap:=h',toks:=tk}:=I.turned (λb o hb e=>kk b o (by simpa using hb) e) f0 f1 f3 f4 f5
  refine⟨_,rfl,Ly (s:= {s with heap:=h',toks:=tk}) (n:="range_iterator") st' rfl rfl (by decide) ⟨.int (lo+i),H,I1,⟨t,?_⟩,⟨rfl,rfl⟩,st',λb hb=>(hf b hb).1⟩⟩
  rw[Int.mul_one]
 done:=by
  intro X hP hw hK hc i pins s σ H E I hf st hg
  subst hP hw hK
  obtain⟨f0,f1,f2,f3,f4,f5⟩:=hf it (by simp)
  exact wpAny_pyNext_range_end (I.ok.hd hc) st (by have:n<=i:=hg;omega) λh' eb=>⟨rfl,I.turned (t':=s.toks) (λb o hb e=>eb b o hb e) f0 f1 f3 f4 f5⟩
 self:=λ_ _ _ _ _ st h=>wpAny_pyIter_rangeiter st h
section
variable {X:Cx}{tg:Expr}
theorem Kv{pins:List (Addr×Obj)}{σ:St}{H:Hp}{s:Shared}{R:It->Hp->Prop}{E:Value->Shared->Prop}{lo hi:Int}{t u v:Tok}{tk:Nat}(I:Inv X pins σ H s)(h1: -(2^62)<=lo)(h2:lo<2^62)(h3: -(2^62)<=hi)(h4:hi<2^62)(q:R (Itr lo (hi-lo).toNat) H):wpAny (model X.prog X.w) X.A (pyIter (.ref s.heap.objs.size)) (N1 X pins σ tg R) E {s with heap:=s.heap.push {cls:=.type "range",data:=.fields #[.int lo t,.int hi u,.int 1 v]},toks:=tk}:=by
 refine wpAny_pyIter_range (IsRange.new ..) (small_one h1 h2 h3 h4) ?_
 have I1:Inv X pins σ H {s with heap:=s.heap.push {cls:=.type "range",data:=.fields #[.int lo t,.int hi u,.int 1 v]},toks:=tk}:=I.kept λb o e=>get?_push_of_some _ e
 refine⟨(s.heap.push {cls:=.type "range",data:=.fields #[.int lo t,.int hi u,.int 1 v]}).objs.size,[(s.heap.push {cls:=.type "range",data:=.fields #[.int lo t,.int hi u,.int 1 v]}).objs.size],_,_,H,rfl,
  I1.kept (t':=tk) λb o e=>get?_push_of_some _ e,Sx _ lo (hi-lo).toNat,?_,λb hb=>?_,q⟩
 .have e1:lo+((0:Nat):Int)*1=lo:=by simp
  have e2:(((hi-lo).toNat:Nat):Int)-((0:Nat):Int)=Builtin.Range.rangeSize lo hi 1:=by rw[rangeSize_one];split<;>omega
  show IsRangeIter _ _ (lo+((0:Nat):Int)*1) ((((hi-lo).toNat:Nat):Int)-((0:Nat):Int)) 1
  rw[e1,e2]
  exact get?_push_size _ rfl
 .have e:b=(s.heap.push {cls:=.type "range",data:=.fields #[.int lo t,.int hi u,.int 1 v]}).objs.size:=by simpa using hb
  subst e
  exact I1.fpOk (le_refl _) (I1.hok.fresh (le_refl _))
def PV(ta:TA):TI:=λσ H R=>ta σ H λvs H1=>∃ j:Int,vs= [.int j]/\ -(2^62)<=j/\j<2^62/\R (Itr 0 j.toNat) H1
def QV(ta:TA):TI:=λσ H R=>ta σ H λvs H1=>∃ i j:Int,vs= [.int i,.int j]/\(-(2^62)<=i/\i<2^62/\ -(2^62)<=j/\j<2^62)/\R (Itr i (j-i).toNat) H1
theorem MB{a:Expr}{ta:TA}{p pos:Pos}(hg:Gl X "range")(hm:X.mg "range"=none)(ha:PA X [a] ta)(hs:starEach [a] X.env= [(false,eval a X.env)]:=by rfl):PI X tg (.Call (.Name "range" p) [a] [] pos) (PV ta):=by
 intro pins s σ H R I h
 refine Call_ (Vf I hg hm boot_range (PyProof.Rows.callWith_type1 (Yc (ha pos pins s σ H _ I h) λus s1 ⟨vs,H1,I1,r1,q1⟩=>?_) hs rfl))
 obtain⟨j,e,q1,q2,q⟩:=q1
 subst e
 cases r1 with
 |cons r rr=>
  cases rr
  obtain⟨t,rfl⟩:=r
  exact call_range_1 (Kv I1 (by omega) (by omega) q1 q2 (by simpa using q))
theorem NB{a b:Expr}{ta:TA}{p pos:Pos}(hg:Gl X "range")(hm:X.mg "range"=none)(ha:PA X [a,b] ta)(hs:starEach [a,b] X.env= [(false,eval a X.env),(false,eval b X.env)]:=by rfl)(hs2:starEach [b] X.env= [(false,eval b X.env)]:=by rfl):
  PI X tg (.Call (.Name "range" p) [a,b] [] pos) (QV ta):=by
 intro pins s σ H R I h
 refine Call_ (Vf I hg hm boot_range (PyProof.Rows.callWith_type1 (Yc (ha pos pins s σ H _ I h) λus s1 ⟨vs,H1,I1,r1,q1⟩=>?_) (by rw[hs,hs2]) (by rw[hs2];rfl)))
 obtain⟨i,j,e,⟨q1,q2,q3,q4⟩,q⟩:=q1
 subst e
 cases r1 with
 |cons r rr=>
  cases rr with
  |cons r' rr=>
   cases rr
   obtain⟨t,rfl⟩:=r
   obtain⟨t',rfl⟩:=r'
   exact call_range_2 (Kv I1 q1 q2 q3 q4 q)
def W0(wi:TI)(g:TG)(tb:TS):TS:=λD σ H=>wi σ H λJ H1=>∃ W:Nat->Nat->St->Hp->Prop,(∃ m,W 0 m σ H1)/\∀ i m σ H,W i m σ H->
 (J.stop i H/\D.nx σ H)\/(J.go i H/\∃ N:St->Hp->Prop,(∀ σ' H',N σ' H'->∃ m',m'<m/\W (i+1) m' σ' H')/\∀ x H',J.yld i H x H'->g x σ H' λσ2 H2=>tb {D with nx:=N,ct:=N,bk:=D.nx} σ2 H2)
def Lo(fp:List Addr)(h:Heap):List (Addr×Obj):=fp.filterMap λb=>(h.get? b).map λo=>(b,o)
theorem Zh{fp:List Addr}{h:Heap}{b:Addr}{o:Obj}(hb:b∈fp)(e:h.get? b=some o):(b,o)∈Lo fp h:=List.mem_filterMap.mpr ⟨b,hb,by rw[e];rfl⟩
theorem GB{fp:List Addr}{h:Heap}{p:Addr×Obj}(hp:p∈Lo fp h):p.1∈fp/\h.get? p.1=some p.2:=by
 obtain⟨b,hb,e⟩:=List.mem_filterMap.mp hp
 cases q:h.get? b with
 |none=>rw[q]at e;cases e
 |some o=>
  rw[q]at e
  have e':(b,o)=p:=Option.some.inj e
  subst e'
  exact⟨hb,q⟩
theorem Inv.pinned{pins:List (Addr×Obj)}{σ:St}{H:Hp}{s:Shared}{fp:List Addr}(I:Inv X pins σ H s)(hf:∀ b∈fp,Vj X pins H b)(ho:∀ b∈fp,∃ o,s.heap.get? b=some o/\∀ v,o.data≠ .cell v):Inv X (pins++Lo fp s.heap) σ H s:=
 I.pins_of λp hp=>(mem_append.mp hp).elim (λz=>I.pin p (mem_append_right _ z)) λz=>by
  obtain⟨hb,e⟩:=GB z
  obtain⟨f0,f1,f2,_⟩:=hf p.1 hb
  obtain⟨o,e',d⟩:=ho p.1 hb
  rw[e]at e';cases e'
  exact⟨e,f0,f1,f2,d⟩
theorem Inv.unpinned{pins pl:List (Addr×Obj)}{σ:St}{H:Hp}{s:Shared}(I:Inv X (pins++pl) σ H s):Inv X pins σ H s:=I.pins_of λp hp=>I.pin p (mem_append_right _ (mem_append_left _ hp))
theorem CS{iter:Expr}{body:List Stmt}{wi:TI}{g:TG}{tb:TS}{pos:Pos}(hp:PassesOwn (model X.prog X.w) X.A X.env X.xe)(hc:X.calm=true)(hi:PI X tg iter wi)(hg:PG X tg g)(hb:PSs X body tb)(hs:∀ x,foldedSetIterable iter X.env x=pure x:=by intro _;rfl):PS X (.For tg iter body [] pos) (W0 wi g tb):=by
 intro pins s σ H D I h
 refine wpAny_For (Yc (hi pins s σ H _ I h) λv s1 h1=>Yc h1 λitv s2 h2=>?_) hs
 obtain⟨it,fp,tn,J,H2,e,I2,T,st2,f2,W,⟨m0,w0⟩,turn⟩:=h2
 subst e
 have stat:∀ {H':Hp},(∀ b∈fp,H' b=none)->∀ b∈fp,Vj X pins H' b:=λhn b hb=>⟨hn b hb,(f2 b hb).2⟩
 refine codeAny_forLoop_any (λn s'=>∃ i σ' H',Inv X pins σ' H' s'/\tn i s'.heap/\(∀ b∈fp,H' b=none)/\W i n σ' H') ?_ m0 ⟨0,σ,H2,I2,st2,λb hb=>(f2 b hb).1,w0⟩
 rintro n s3 ⟨i,σ3,H3,I3,st3,fr3,w3⟩
 rcases turn i n σ3 H3 w3 with⟨stop,qn⟩|⟨go,N,hN,step⟩
 .refine wpAny_passesOwn hp (Yc (T.done X rfl rfl rfl hc i pins s3 σ3 H3 X.xe I3 (stat fr3) st3 stop) λr s4 ⟨hr,I4⟩=>?_)
  subst hr
  exact wpAny_execs_nil ⟨σ3,H3,I4,qn⟩
 .refine wpAny_passesOwn hp (Yc (T.item X rfl rfl rfl hc i pins s3 σ3 H3 X.xe I3 (stat fr3) st3 go) λr s4 ⟨u,hr,h4⟩=>?_)
  subst hr
  refine wpAny_passesOwn hp (Yc h4 λ_ s5 ⟨x,H5,I5,r5,y5,st5,fr5⟩=>?_)
  have I5':=I5.pinned (stat fr5) (T.obj _ _ st5)
  refine wpAny_passesOwn hp (Yc (hg _ s5 σ3 H5 x u _ I5' r5 (step x H5 y5)) λ_ s6 ⟨σ6,H6,I6,q6⟩=>?_)
  refine wpAny_passesOwn hp (Yc (hb _ s6 σ6 H6 _ I6 q6) λf s7 q7=>?_)
  have again:∀ {σ7:St} {H7:Hp},Inv X (pins++Lo fp s5.heap) σ7 H7 s7->N σ7 H7->∃ m,m<n/\∃ i σ' H',Inv X pins σ' H' s7/\tn i s7.heap/\(∀ b∈fp,H' b=none)/\W i m σ' H':=λ{σ7 H7} I7 n7=>by
   obtain⟨m',hm,w7⟩:=hN σ7 H7 n7
   refine⟨m',hm,i+1,σ7,H7,I7.unpinned,T.keep _ _ _ st5 λb hb o e=>(I7.pin (b,o) (mem_append_right _ (mem_append_right _ (Zh hb e)))).1,λb hb=>?_,w7⟩
   obtain⟨o,e,d⟩:=T.obj _ _ st5 b hb
   exact(I7.pin (b,o) (mem_append_right _ (mem_append_right _ (Zh hb e)))).2.1
  cases f with
  |next=>obtain⟨σ7,H7,I7,n7⟩:=q7;exact again I7 n7
  |cont=>obtain⟨σ7,H7,I7,n7⟩:=q7;exact again I7 n7
  |brk=>obtain⟨σ7,H7,I7,q7⟩:=q7;exact⟨σ7,H7,I7.unpinned,q7⟩
  |ret v=>obtain⟨x7,σ7,H7,I7,r7,q7⟩:=q7;exact⟨x7,σ7,H7,I7.unpinned,r7,q7⟩
end
abbrev R2:=V->V->Hp->VK->Prop
def OpR(X:Cx)(f:Value->Value->Sem Value)(r:R2):Prop:=
 ∀ (pins:List (Addr×Obj)) (s:Shared) (σ:St) (H:Hp) (x y:V) (v u:Value) (Q:VK),Inv X pins σ H s->RelV x v->RelV y u->r x y H Q->
  wpAny (model X.prog X.w) X.A (f v u) (EP X pins σ Q) X.xe s
def BZ(X:Cx)(f:Value->Sem Value)(r:V->Hp->VK->Prop):Prop:=
 ∀ (pins:List (Addr×Obj)) (s:Shared) (σ:St) (H:Hp) (x:V) (v:Value) (Q:VK),Inv X pins σ H s->RelV x v->r x H Q->
  wpAny (model X.prog X.w) X.A (f v) (EP X pins σ Q) X.xe s
def Xl(X:Cx)(f:Value)(r:List V->Hp->VK->Prop):Prop:=
 ∀ (pins:List (Addr×Obj)) (s:Shared) (σ:St) (H:Hp) (xs:List V) (us:List Value) (Q:VK),Inv X pins σ H s->Vals xs us->r xs H Q->
  wpAny (model X.prog X.w) X.A (call f us) (EP X pins σ Q) X.xe s
def FX(r:R2)(ta tb:TE):TE:=λσ H Q=>ta σ H λx H1=>tb σ H1 λy H2=>r x y H2 Q
def G3(r:V->Hp->VK->Prop)(ta:TE):TE:=λσ H Q=>ta σ H λx H1=>r x H1 Q
def rI(C:Int->Int->Prop)(g:Int->Int->V):R2:=λx y H Q=>∃ i j,x=.int i/\y=.int j/\C i j/\Q (g i j) H
def IU(g:Int->Int->V):R2:=λx y H Q=>∃ i j,x=.int i/\y=.int j/\Q (g i j) H
def rU(g:Int->V):V->Hp->VK->Prop:=λx H Q=>∃ i,x=.int i/\Q (g i) H
section
variable {X:Cx}{a b c:Expr}{ta tb tc:TE}{pos:Pos}
theorem WH(ha:PE X a ta)(hb:PE X b tb){pins:List (Addr×Obj)}{s:Shared}{σ:St}{H:Hp}{R:V->V->Hp->Prop}(I:Inv X pins σ H s)(h:ta σ H λx H1=>tb σ H1 λy H2=>R x y H2){Q:Value->Shared->Prop}{f:Value->Value->Sem Value}(hf:∀ v u s2 x y H2,Inv X pins σ H2 s2->RelV x v->RelV y u->R x y H2->wpAny (model X.prog X.w) X.A (f v u) Q X.xe s2):
  wpAny (model X.prog X.w) X.A (eval a X.env) (λv s₁=>wpAny (model X.prog X.w) X.A (eval b X.env) (λu s₂=>wpAny (model X.prog X.w) X.A (f v u) Q X.xe s₂) X.xe s₁) X.xe s:=by
 refine Yc (ha pins s σ H _ I h) λv s1 ⟨x,H1,I1,r1,q1⟩=>?_
 refine Yc (hb pins s1 σ H1 _ I1 q1) λu s2 ⟨y,H2,I2,r2,q2⟩=>?_
 exact hf v u s2 x y H2 I2 r1 r2 q2
theorem GN{op:Operator}{r:R2}(ho:OpR X (binaryOp op) r)(ha:PE X a ta)(hb:PE X b tb):PE X (.BinOp a op b pos) (FX r ta tb):=by
 intro pins s σ H Q I h
 exact wpAny_BinOp (WH ha hb I h λv u s2 x y H2 I2 rx ry q=>ho pins s2 σ H2 x y v u Q I2 rx ry q)
theorem BW{op:UnaryOp}{r:V->Hp->VK->Prop}(ho:BZ X (unaryOp op) r)(ha:PE X a ta):PE X (.UnaryOp op a pos) (G3 r ta):=by
 intro pins s σ H Q I h
 exact UnaryOp_ (Yc (ha pins s σ H _ I h) λv s1 ⟨x,H1,I1,r1,q1⟩=>ho pins s1 σ H1 x v Q I1 r1 q1)
theorem BY{f:Value->Value->Sem Value}{C:Int->Int->Prop}{g:Int->Int->Int}(rule:∀ (i j:Int) (t u:Tok) (s:Shared) (Q:Value->Shared->Prop) (E:Value->Shared->Prop),C i j->Q (.int (g i j) s.toks) {s with toks:=s.toks+1}->wpAny (model X.prog X.w) X.A (f (.int i t) (.int j u)) Q E s):
  OpR X f (rI C λi j=>.int (g i j)):=by
 intro pins s σ H x y v u Q I rx ry h
 obtain⟨i,j,rfl,rfl,hc,q⟩:=h
 obtain⟨t,rfl⟩:=rx
 obtain⟨t',rfl⟩:=ry
 exact rule i j t t' s _ _ hc ⟨.int (g i j),H,I.tok _,⟨_,rfl⟩,q⟩
theorem VV{f:Value->Value->Sem Value}{g:Int->Int->Int}(rule:∀ (i j:Int) (t u:Tok) (s:Shared) (Q:Value->Shared->Prop) (E:Value->Shared->Prop),Q (.int (g i j) s.toks) {s with toks:=s.toks+1}->wpAny (model X.prog X.w) X.A (f (.int i t) (.int j u)) Q E s):
  OpR X f (IU λi j=>.int (g i j)):=by
 intro pins s σ H x y v u Q I rx ry h
 obtain⟨i,j,rfl,rfl,q⟩:=h
 obtain⟨t,rfl⟩:=rx
 obtain⟨t',rfl⟩:=ry
 exact rule i j t t' s _ _ ⟨.int (g i j),H,I.tok _,⟨_,rfl⟩,q⟩
theorem UV{f:Value->Value->Sem Value}{g:Int->Int->Bool}(rule:∀ (i j:Int) (t u:Tok) (s:Shared) (Q:Value->Shared->Prop) (E:Value->Shared->Prop),Q (.bool (g i j)) s->wpAny (model X.prog X.w) X.A (f (.int i t) (.int j u)) Q E s):
  OpR X f (IU λi j=>.bl (g i j)):=by
 intro pins s σ H x y v u Q I rx ry h
 obtain⟨i,j,rfl,rfl,q⟩:=h
 obtain⟨t,rfl⟩:=rx
 obtain⟨t',rfl⟩:=ry
 exact rule i j t t' s _ _ ⟨.bl (g i j),H,I,rfl,q⟩
def JY(i j:Int):Prop:=0<j/\j<1073741824
def KY(i j:Int):Prop:=0<=j/\j<=1000000/\i.natAbs<2^64
def CMul(i j:Int):Prop:=(-(2^64)<i/\i<2^64)\/(-(2^64)<j/\j<2^64)
theorem CMul.ok{i j:Int}(h:CMul i j):IntMulOk i j:=by
 rcases h with⟨h1,h2⟩|⟨h1,h2⟩
 .exact .of_left (intBits_le_64 h1 h2)
 .exact .of_right (intBits_le_64 h1 h2)
theorem ER:OpR X (binaryOp .Add) (IU λi j=>.int (i+j)):=VV λ_ _ _ _ _ _ _ q=>add_int q
theorem MR:OpR X (binaryOp .Sub) (IU λi j=>.int (i-j)):=VV λ_ _ _ _ _ _ _ q=>sub_int q
theorem IR:OpR X (binaryOp .Mult) (rI CMul λi j=>.int (i*j)):=BY λ_ _ _ _ _ _ _ hc q=>mul_int q hc.ok
theorem SK:OpR X (binaryOp .FloorDiv) (rI JY λi j=>.int (i / j)):=BY λi j _ _ _ _ _ hc q=>by
 have h1:(0:Int)<j:=hc.1
 have h2:j<1073741824:=hc.2
 exact floordiv_int (by omega) (by rw[Int.fdiv_eq_ediv_of_nonneg i (by omega)];exact q) (.inl (PyProof.noPylong_small (by omega)))
theorem HR:OpR X (binaryOp .Mod) (rI (λ_ j=>0<j) λi j=>.int (i%j)):=BY λi j _ _ _ _ _ hc q=>by
 have h1:(0:Int)<j:=hc
 exact mod_int' (by omega) (by rw[Int.fmod_eq_emod_of_nonneg i (by omega)];exact q)
theorem KR:OpR X (binaryOp .Pow) (rI KY λi j=>.int (i^j.toNat)):=BY λ_ _ _ _ _ _ _ hc q=>pow_int_small hc.1 hc.2.1 hc.2.2 q
theorem K3{f:Value->Sem Value}{g:Int->Int}(rule:∀ (i:Int) (t:Tok) (s:Shared) (Q:Value->Shared->Prop) (E:Value->Shared->Prop),Q (.int (g i) s.toks) {s with toks:=s.toks+1}->wpAny (model X.prog X.w) X.A (f (.int i t)) Q E s):
  BZ X f (rU λi=>.int (g i)):=by
 intro pins s σ H x v Q I rx h
 obtain⟨i,rfl,q⟩:=h
 obtain⟨t,rfl⟩:=rx
 exact rule i t s _ _ ⟨.int (g i),H,I.tok _,⟨_,rfl⟩,q⟩
theorem WT:BZ X (unaryOp .USub) (rU λi=>.int (-i)):=K3 λ_ _ _ _ _ q=>neg_int q
end
def J0:V->V->Bool
 | .non,.non=>true| .non,.int _=>true| .int _,.non=>true| .non,.bl _=>true| .bl _,.non=>true| .non,.str _=>true| .str _,.non=>true
 | .int _,.int _=>true| .bl _,.bl _=>true| .str _,.str _=>true| .byt _,.byt _=>true
 | .int _,.str _=>true| .str _,.int _=>true| .bl _,.str _=>true| .str _,.bl _=>true
 |_,_=>false
def O2:R2:=λx y H Q=>J0 x y=true/\Q (.bl (decide (x=y))) H
theorem HI{i j:Int}:decide (V.int i=V.int j)=(i==j):=by
 rw[Bool.eq_iff_iff]
 simp
theorem WO{i j:Bool}:decide (V.bl i=V.bl j)=(i==j):=by
 rw[Bool.eq_iff_iff]
 simp
theorem II{i j:Str}:decide (V.str i=V.str j)=(i==j):=by
 rw[Bool.eq_iff_iff]
 simp
theorem GI{i j:Array UInt8}:decide (V.byt i=V.byt j)=(i.toList==j.toList):=by
 rw[Bool.eq_iff_iff]
 cases i
 cases j
 simp
section
variable {X:Cx}{a b c:Expr}{ta tb tc:TE}{pos:Pos}
theorem Td{pins:List (Addr×Obj)}{σ:St}{H:Hp}{s:Shared}{Q:VK}{k k':Bool}(I:Inv X pins σ H s)(q:Q (.bl k) H)(e:k=k'):EP X pins σ Q (.bool k') s:=by
 subst e
 exact⟨.bl k,H,I,rfl,q⟩
theorem WV:OpR X (compareOp .Eq) O2:=by
 intro pins s σ H x y v u Q I rx ry h
 obtain⟨hs,q⟩:=h
 cases x with
 |non=>
  cases rx
  cases y with
  |non=>cases ry;exact PySem.EqNone.eq_none_none (Td I q (by simp))
  |bl j=>cases ry;exact PySem.EqNone.eq_none_bool (Td I q (by simp))
  |int j=>obtain⟨t',rfl⟩:=ry;exact PySem.EqNone.eq_none_int (Td I q (by simp))
  |str j=>obtain⟨t',rfl⟩:=ry;exact PySem.EqNone.eq_none_str (Td I q (by simp))
  |_=>exact absurd (show false=true from hs) Bool.false_ne_true
 |bl i=>
  cases rx
  cases y with
  |non=>cases ry;exact PySem.EqNone.eq_bool_none (Td I q (by simp))
  |bl j=>cases ry;exact eq_bool (Td I q WO)
  |str j=>obtain⟨t',rfl⟩:=ry;exact PySem.EqMixed.eq_bool_str (Td I q (by simp))
  |_=>exact absurd (show false=true from hs) Bool.false_ne_true
 |int i=>
  obtain⟨t,rfl⟩:=rx
  cases y with
  |non=>cases ry;exact PySem.EqNone.eq_int_none (Td I q (by simp))
  |int j=>obtain⟨t',rfl⟩:=ry;exact eq_int (Td I q HI)
  |str j=>obtain⟨t',rfl⟩:=ry;exact PySem.EqMixed.eq_int_str (Td I q (by simp))
  |_=>exact absurd (show false=true from hs) Bool.false_ne_true
 |str i=>
  obtain⟨t,rfl⟩:=rx
  cases y with
  |non=>cases ry;exact PySem.EqNone.eq_str_none (Td I q (by simp))
  |bl j=>cases ry;exact PySem.EqMixed.eq_str_bool (Td I q (by simp))
  |int j=>obtain⟨t',rfl⟩:=ry;exact PySem.EqMixed.eq_str_int (Td I q (by simp))
  |str j=>obtain⟨t',rfl⟩:=ry;exact eq_str (Td I q II)
  |_=>exact absurd (show false=true from hs) Bool.false_ne_true
 |byt i=>
  obtain⟨t,rfl⟩:=rx
  cases y with
  |byt j=>obtain⟨t',rfl⟩:=ry;exact PySem.W.eq_bytes (Td I q GI)
  |_=>exact absurd (show false=true from hs) Bool.false_ne_true
 |_=>cases y<;>exact absurd (show false=true from hs) Bool.false_ne_true
theorem YV:OpR X (compareOp .Lt) (IU λi j=>.bl (decide (i<j))):=UV λ_ _ _ _ _ _ _ q=>lt_int q
theorem XV:OpR X (compareOp .Gt) (IU λi j=>.bl (decide (j<i))):=UV λ_ _ _ _ _ _ _ q=>gt_int q
theorem LB:OpR X (compareOp .In) (λx y H Q=>∃ i j,x=.str i/\y=.str j/\Q (.bl (!(Builtin.Str.occurrences j i 0 j.length 1).isEmpty)) H):=by
 intro pins s σ H x y v u Q I rx ry h
 obtain⟨i,j,rfl,rfl,q⟩:=h
 obtain⟨t,rfl⟩:=rx
 obtain⟨t',rfl⟩:=ry
 exact in_str (Td I q rfl)
theorem OpR.or{f:Value->Value->Sem Value}{r r':R2}(h:OpR X f r)(h':OpR X f r'):OpR X f (λx y H Q=>r x y H Q\/r' x y H Q):=by
 intro pins s σ H x y v u Q I rx ry q
 rcases q with q|q
 .exact h pins s σ H x y v u Q I rx ry q
 .exact h' pins s σ H x y v u Q I rx ry q
theorem FF(b:Expr){op:CmpOp}(h:op≠ .In:=by decide)(h2:op≠ .NotIn:=by decide):behindInMarks op b=false:=by
 have e1:(op==CmpOp.In)=false:=by cases op<;>first|rfl|exact absurd rfl h
 have e2:(op==CmpOp.NotIn)=false:=by cases op<;>first|rfl|exact absurd rfl h2
 cases b<;>simp[behindInMarks,e1,e2]
theorem Xy{op:CmpOp}{r:R2}(ho:OpR X (compareOp op) r)(ha:PE X a ta)(hb:PE X b tb)(hm:behindInMarks op b=false):PE X (.Compare a [op] [b] pos) (FX r ta tb):=by
 intro pins s σ H Q I h
 exact wpAny_Compare1 (WH ha hb I h λv u s2 x y H2 I2 rx ry q=>ho pins s2 σ H2 x y v u Q I2 rx ry q) hm
def JX(t:TE):TT:=λσ H Q=>t σ H λx H'=>∃ k,x=.bl k/\Q k H'
theorem Bn{op:CmpOp}{r:R2}(ho:OpR X (compareOp op) r)(ha:PE X a ta)(hb:PE X b tb)(hm:behindInMarks op b=false):PT X (.Compare a [op] [b] pos) (JX (FX r ta tb)):=by
 intro pins s σ H Q I h
 refine wpAny_isTrue_Compare1 (Yc (ha pins s σ H _ I h) λv s1 ⟨x,H1,I1,r1,q1⟩=>Yc (hb pins s1 σ H1 _ I1 q1) λu s2 ⟨y,H2,I2,r2,q2⟩=>
  Yc (ho pins s2 σ H2 x y v u _ I2 r1 r2 q2) λc s3 ⟨z,H3,I3,r3,k,e,q3⟩=>?_) hm
 subst e
 cases r3
 exact wpAny_truthy_bool ⟨H3,I3,q3⟩
theorem Vr:(sizeLine:Nat)<2^63:=by rw[sizeLine_eq];decide
theorem Lx:OpR X (binaryOp .Add) (λx y H Q=>∃ i j,x=.str i/\y=.str j/\i.length+j.length<=sizeLine/\Q (.str (i++j)) H):=by
 intro pins s σ H x y v u Q I rx ry h
 obtain⟨i,j,rfl,rfl,hz,q⟩:=h
 obtain⟨t,rfl⟩:=rx
 obtain⟨t',rfl⟩:=ry
 exact add_str (λt' tk=>⟨.str (i++j),H,I.tok _,⟨_,rfl⟩,q⟩) hz
theorem VG{x:V}{us:List Value}(r:Vals [x] us):∃ u,us= [u]/\RelV x u:=by
 cases r with
 |cons r1 r2=>cases r2;exact⟨_,rfl,r1⟩
def UY(K:Frag)(x:V)(H:Hp)(n:Nat):Prop:=
 match x with
 | .str y=>y.length<=sizeLine/\n=y.length
 | .byt y=>y.size<=sizeLine/\n=y.size
 | .ref p=>(∃ xs,SqL K H p xs/\n=xs.length)\/∃ xs,SqT K H p xs/\n=xs.length
 |_=>False
theorem QC:Xl X (.builtin "len") (λxs H Q=>∃ x n,xs= [x]/\UY X.K x H n/\Q (.int n) H):=by
 intro pins s σ H xs us Q I r h
 obtain⟨x,n,rfl,e,q⟩:=h
 obtain⟨u,rfl,rx⟩:=VG r
 have hl:=Vr
 have hs:sizeLine=16777216:=sizeLine_eq
 cases x with
 |str y=>
  obtain⟨t,rfl⟩:=rx
  obtain⟨hy,e'⟩:y.length<=sizeLine/\n=y.length:=e
  subst e'
  exact len_str (by omega) ⟨.int _,H,I.tok _,⟨_,rfl⟩,q⟩
 |byt y=>
  obtain⟨t,rfl⟩:=rx
  obtain⟨hy,e'⟩:y.size<=sizeLine/\n=y.size:=e
  subst e'
  exact PySem.W.len_bytes (by omega) ⟨.int _,H,I.tok _,⟨_,rfl⟩,q⟩
 |ref p=>
  cases rx
  have e':(∃ xs,SqL X.K H p xs/\n=xs.length)\/∃ xs,SqT X.K H p xs/\n=xs.length:=e
  rcases e' with⟨xs,hx,e'⟩|⟨xs,hx,e'⟩
  .subst e'
   obtain⟨its,r',pl,hz⟩:=I.list hx
   have hlen:=r'.length
   exact Calls.call_len_list pl.isList (by simp only[size_toArray];omega) ⟨.int xs.length,H,I.tok _,⟨_,by simp only[size_toArray];rw[hlen]⟩,q⟩
  .subst e'
   obtain⟨its,r',pl,hz⟩:=I.tuple hx
   have hlen:=r'.length
   exact len_tuple pl (by simp only[size_toArray];omega) ⟨.int xs.length,H,I.tok _,⟨_,by simp only[size_toArray];rw[hlen]⟩,q⟩
 |_=>exact(show False from e).elim
end
structure ObjM(h:Heap)(x dx C:Addr)(mA:Str->Option Value):Prop where
 obj:h.get? x=some (instObj C dx)
 ns:h.Ns1 dx mA
 ne:dx≠x
theorem BB{h:Heap}{dx:Addr}{mA:Str->Option Value}(n:h.Ns1 dx mA):∃ od,h.get? dx=some od/\∀ name,lookIn name od=some (mA name):=by
 obtain⟨o,es,ep,ho,hd,hk,_,hm⟩:=n
 refine⟨o,ho,λname=>?_⟩
 have e:=hm name
 unfold nsFind findBy at e
 rw[<-Array.find?_toList]at e
 unfold lookIn
 rw[hd]
 dsimp only
 split
 .rename_i y q
  rw[q]at e
  exact congrArg some e
 .rename_i q
  rw[q]at e
  have a:es.toList.any (·.refKey)=false:=by
   rw[List.any_eq_false]
   intro y hy
   obtain⟨z,t,hkey⟩:=hk y (Array.mem_toList_iff.mp hy)
   simp[DictEntry.refKey,hkey]
  have a':¬ es.toList.any (·.refKey)=true:=by rw[a];exact Bool.false_ne_true
  rw[if_neg a']
  exact congrArg some e
theorem ObjM.look{h:Heap}{x dx C:Addr}{mA:Str->Option Value}(I:ObjM h x dx C mA):∃ od,PySem.W.InstAt h x (instObj C dx) C (some od)/\∀ name,lookIn name od=some (mA name):=
 let ⟨od,ho,hl⟩:=BB I.ns
 ⟨od,⟨I.obj,rfl,rfl,ho⟩,hl⟩
section
variable {prog:Program}{w:World}{A:Around}{E:Value->Shared->Prop}{s:Shared}{K:Frag}{x dx C f:Addr}{mA:Str->Option Value}{name:Str}{v:Value}
theorem RJ{expr:Bool}{Q:Value->Shared->Prop}(X:K.In s.heap)(I:ObjM s.heap x dx C mA)(hg:plainGet K C name=true)(hh:hasDictIn K C=true)(ha:findIn K (.ref C) name=some none)(hv:mA name=some v)(hv':PySem.W.handedIn v=true)(h:Q v {s with toks:=s.toks+1}):
  wpAny (model prog w) A (getAttr (.ref x) name expr) Q E s:=by
 obtain⟨od,J,hl⟩:=I.look
 exact PySem.W.get_value X J (PySem.W.plainGet_of hg).1 (PySem.W.findObj_own hh ha rfl (by rw[hl,hv])) hv' h
theorem AM{ns:List Str}{Q:Unit->Shared->Prop}(X:K.In s.heap)(I:ObjM s.heap x dx C mA)(hs:findIn K (.ref C) "__setattr__"=some (some (.builtin "object.__setattr__")))(hp:plainOver K C=true)(ht:takerIn K C name=some none)(hh:hasDictIn K C=true)(hw:PySem.Within mA ns)(hsz:ns.length<=sizeLine)(h:∀ h',ObjM h' x dx C (λy=>if y=name then some v else mA y)->SameBut dx s.heap h'->Q () {s with heap:=h',toks:=s.toks+2}):
  wpAny (model prog w) A (setAttr (.ref x) name v) Q E s:=by
 obtain⟨od,J,hl⟩:=I.look
 refine PySem.W.set_plain X J hs (PySem.W.osa_open (s:= {s with toks:=s.toks+1}) (r:=none) X J hp ht λb=>?_)
 obtain⟨cd,hc,hd'⟩:=PySem.W.any_some hh
 have hx:s.heap.get? x=some ⟨.ref C,some dx,.plain,#[]⟩:=I.obj
 refine wpAny_bind (wpAny_pure (wpAny_bind (wpAny_bind (wpAny_loadPart hx (wpAny_bind (PySem.W.Looks.here (s:= {s with toks:=s.toks+1}) (PySem.W.looks_clsIn X hc) ?_))))))
 rw[hd']
 refine wpAny_pure (a:=some dx) (wpAny_bind (wpAny_pure (wpAny_bind ?_)))
 refine wpAny_nsSet1 (s:= {s with toks:=s.toks+1}) I.ns λh' hn2 hs2=>?_
 obtain⟨oD,esD,epD,hoD,hdD,hcD⟩:=hn2.count (PySem.Within.cons name v hw)
 refine wpAny_bind (wpAny_lookBehind hoD (by rw[hdD];exact pastItsLine_dict (le_trans hcD (by rw[List.length_cons];omega))) ?_)
 exact wpAny_pure (h _ ⟨(hs2.2 _ (Ne.symm I.ne)).trans I.obj,hn2,I.ne⟩ hs2)
theorem SE{R:Result->Shared->Prop}{vs:List Value}{kw:List (Str×Value)}(X:K.In s.heap)(hm:makesIn K C=true)(hi:findIn K (.ref C) "__init__"=some (some (.ref f)))(hf:PySem.W.typeIn K (.ref f)=some (.type "function"))(h:codeAny (model prog w) (A.under (.builtin "type.__call__" ⟨.ref C::vs,kw⟩)) (.call (.ref f) ⟨.ref (s.heap.objs.size+1)::vs,kw⟩) (PySem.W.InitBack (s.heap.objs.size+1) R)
   {s with heap:=(s.heap.push emptyDict).push (instObj C s.heap.objs.size)}):
  codeAny (model prog w) A (.call (.ref C) ⟨vs,kw⟩) R s:=by
 obtain⟨hh,g,d,t,os⟩:=s
 exact PySem.W.make_core (PySem.W.makes_of X hm) (PySem.W.looks_findIn X hi) (λself=>PySem.W.bind_fn X self hf) (.inl rfl) h
end
def Ki(f:Str)(v:V):List (Str×V)->List (Str×V)
 | []=> [(f,v)]
 |(g,x)::r=>if g=f then(g,v)::r else(g,x)::Ki f v r
theorem Gm(f g:Str)(v:V):∀ fs:List (Str×V),(Ki f v fs).lookup g=if g=f then some v else fs.lookup g
 | []=>by
  show List.lookup g [(f,v)]=_
  by_cases h:g=f
  .have hb:(g==f)=true:=beq_iff_eq.mpr h
   simp only[List.lookup,hb,if_pos h]
  .have hb:(g==f)=false:=beq_eq_false_iff_ne.mpr h
   simp only[List.lookup,hb,if_neg h]
 |(k,x)::r=>by
  have ih:=Gm f g v r
  rw[show Ki f v ((k,x)::r)=(if k=f then(k,v)::r else(k,x)::Ki f v r) from rfl]
  by_cases hk:k=f
  .rw[if_pos hk]
   by_cases h:g=k
   .have hb:(g==k)=true:=beq_iff_eq.mpr h
    simp only[List.lookup,hb,if_pos (h.trans hk)]
   .have hb:(g==k)=false:=beq_eq_false_iff_ne.mpr h
    simp only[List.lookup,hb,if_neg (λe:g=f=>h (e.trans hk.symm))]
  .rw[if_neg hk]
   by_cases h:g=k
   .have hb:(g==k)=true:=beq_iff_eq.mpr h
    simp only[List.lookup,hb,if_neg (λe:g=f=>hk (h.symm.trans e))]
   .have hb:(g==k)=false:=beq_eq_false_iff_ne.mpr h
    simp only[List.lookup,hb]
    exact ih
theorem Rl(f:Str)(v:V):∀ fs:List (Str×V),f∈(Ki f v fs).map (·.1)/\∀ g,g∈fs.map (·.1)->g∈(Ki f v fs).map (·.1)
 | []=>⟨by simp[Ki],λg h=>by simp at h⟩
 |(k,x)::r=>by
  obtain⟨i1,i2⟩:=Rl f v r
  rw[show Ki f v ((k,x)::r)=(if k=f then(k,v)::r else(k,x)::Ki f v r) from rfl]
  by_cases hk:k=f
  .rw[if_pos hk]
   subst hk
   exact⟨by simp,λg h=>by simpa using h⟩
  .rw[if_neg hk]
   refine⟨?_,λg h=>?_⟩
   .rw[map_cons]
    exact mem_cons_of_mem _ i1
   .rw[map_cons]at h ⊢
    rcases mem_cons.mp h with e|e
    .exact mem_cons.mpr (.inl e)
    .exact mem_cons_of_mem _ (i2 g e)
theorem Fm(f:Str)(v:V):∀ fs:List (Str×V),(Ki f v fs).length<=fs.length+1
 | []=>by simp[Ki]
 |(k,x)::r=>by
  have ih:=Fm f v r
  rw[show Ki f v ((k,x)::r)=(if k=f then(k,v)::r else(k,x)::Ki f v r) from rfl]
  by_cases hk:k=f
  .rw[if_pos hk,List.length_cons,List.length_cons];omega
  .rw[if_neg hk,List.length_cons,List.length_cons];omega
theorem RelO.some_of{v:V}{o:Option Value}(r:RelO (some v) o):∃ u,o=some u/\RelV v u:=by
 cases o with
 |none=>exact(show False from r).elim
 |some u=>exact⟨u,rfl,r⟩
theorem LA{v:V}{u:Value}(r:RelV v u):PySem.W.handedIn u=true:=by
 cases v with
 |non=>cases (show u=Value.none from r);rfl
 |bl b=>cases (show u=Value.bool b from r);rfl
 |int i=>obtain⟨t,e⟩:=(show ∃ t,u=Value.int i t from r);cases e;rfl
 |str x=>obtain⟨t,e⟩:=(show ∃ t,u=Value.str x t from r);cases e;rfl
 |byt b=>obtain⟨t,e⟩:=(show ∃ t,u=Value.bytes b t from r);cases e;rfl
 |flt b=>obtain⟨t,e⟩:=(show ∃ t,u=Value.float b t from r);cases e;rfl
 |ref a=>cases (show u=Value.ref a from r);rfl
 |ty n=>cases (show u=Value.type n from r);rfl
section
variable {P:Program}{w:World}{H H':Hp}{h h':Heap}{a C dx:Addr}{fs fs':List (Str×V)}
theorem Qy(hok:HOk P w H h)(e:H a=some (.ins C dx fs)):∃ mA,ObjM h a dx C mA/\(∀ f,RelO (fs.lookup f) (mA f))/\PySem.Within mA (fs.map (·.1))/\fs.length<=1000/\H dx=some (.own a):=by
 obtain⟨d,z,ne,ob,mA,n,r,q⟩:=(show ObjOk P w H h a (.ins C dx fs) from hok a _ e)
 exact⟨mA,⟨ob,n,ne⟩,r,q,z,d⟩
end
structure Cls(K:Frag)(C:Addr):Prop where
 pg:plainGet K C Str.empty=true
 hd:hasDictIn K C=true
 po:plainOver K C=true
 sa:findIn K (.ref C) "__setattr__"=some (some (.builtin "object.__setattr__"))
theorem Cls.get{K:Frag}{C:Addr}(c:Cls K C)(f:Str):plainGet K C f=true:=c.pg
def NoAttr(K:Frag)(C:Addr)(f:Str):Prop:=findIn K (.ref C) f=some none
theorem NoAttr.taker{K:Frag}{C:Addr}{f:Str}(n:NoAttr K C f):takerIn K C f=some none:=by
 unfold takerIn
 rw[show findIn K (.ref C) f=some none from n]
 rfl
structure Con(K:Frag)(C:Addr)(f:Str)(v:V)(u:Value):Prop where
 at_:findIn K (.ref C) f=some (some u)
 rel:RelV v u
 get:specialIn K u "__get__"=some none
 cp:PySem.W.copiedNames.contains f=false
structure Meth(K:Frag)(C:Addr)(m:Str)(f:Addr):Prop where
 at_:findIn K (.ref C) m=some (some (.ref f))
 fn:isFn K (.ref f)=true
 kp:keepIn K (.ref f)=true
section
variable {X:Cx}{pins:List (Addr×Obj)}{σ:St}{H:Hp}{s:Shared}{a C dx:Addr}{fs:List (Str×V)}{f:Str}{v:V}{A:Around}{E:Value->Shared->Prop}
theorem Ww{b:Bool}{Q:Value->Shared->Prop}(I:Inv X pins σ H s)(e:H a=some (.ins C dx fs))(c:Cls X.K C)(n:NoAttr X.K C f)(l:fs.lookup f=some v)(h:∀ u s',Inv X pins σ H s'->RelV v u->Q u s'):wpAny (model X.prog X.w) A (getAttr (.ref a) f b) Q E s:=by
 obtain⟨mA,O,r,_,_,_⟩:=Qy I.hok e
 obtain⟨u,hu,ru⟩:=RelO.some_of (v:=v) (o:=mA f) (by rw[<-l];exact r f)
 exact RJ I.kIn O (c.get f) c.hd n hu (LA ru) (h u _ (I.tok _) ru)
theorem Qx{y:V}{u:Value}{Q:Unit->Shared->Prop}(I:Inv X pins σ H s)(e:H a=some (.ins C dx fs))(c:Cls X.K C)(n:NoAttr X.K C f)(hl:fs.length<1000)(ry:RelV y u)(h:∀ s',Inv X pins σ (Ib H a (.ins C dx (Ki f y fs))) s'->Q () s'):wpAny (model X.prog X.w) A (setAttr (.ref a) f u) Q E s:=by
 obtain⟨mA,O,r,wi,_,ho⟩:=Qy I.hok e
 have hz:(fs.map (·.1)).length<=sizeLine:=by rw[length_map,sizeLine_eq];omega
 refine AM I.kIn O c.sa c.po n.taker c.hd wi hz λh' O' sb=>h _ ?_
 have hd:∃ o,h'.get? dx=some o:=let ⟨o,_,_,e',_⟩:=O'.ns;⟨o,e'⟩
 refine I.write (x:=a) (e:=dx) (by rw[e];exact True.intro) (.inr ho) (λb q hb z=>(sb.2 b hb).trans z) hd ?_
 refine⟨by rw[Da O.ne];exact ho,?_,O.ne,O'.obj,_,O'.ns,λg=>?_,λg hg=>?_⟩
 .have:=Fm f y fs;omega
 .show RelO ((Ki f y fs).lookup g) (if g=f then some u else mA g)
  rw[Gm]
  by_cases q:g=f
  .rw[if_pos q,if_pos q];exact ry
  .rw[if_neg q,if_neg q];exact r g
 .by_cases q:g=f
  .rw[q];exact(Rl f y fs).1
  .refine(Rl f y fs).2 g (wi g λz=>hg ?_)
   show(if g=f then some u else mA g)=none
   rw[if_neg q];exact z
theorem Inv.made(I:Inv X pins σ H s):Inv X pins σ (Ib (Ib H s.heap.objs.size (.own (s.heap.objs.size+1))) (s.heap.objs.size+1) (.ins C s.heap.objs.size []))
  {s with heap:=(s.heap.push emptyDict).push (instObj C s.heap.objs.size)}:=by
 have e1:(s.heap.push emptyDict).get? s.heap.objs.size=some emptyDict:=get?_push_size s.heap rfl
 have e2:((s.heap.push emptyDict).push (instObj C s.heap.objs.size)).get? (s.heap.objs.size+1)=some (instObj C s.heap.objs.size):=by
  have:=get?_push_size (s.heap.push emptyDict) (o:=instObj C s.heap.objs.size) rfl
  rwa [size_push]at this
 have e3:(s.heap.push emptyDict).Ns s.heap.objs.size (λ_=>none):=⟨emptyDict,#[],_,e1,rfl,(λe he=>absurd he (by simp)),λ_=>rfl⟩
 have I1:=I.laid (a:=s.heap.objs.size) (o:=.own (s.heap.objs.size+1)) (h':=s.heap.push emptyDict) (t':=s.toks) (λb u q=>get?_push_of_some _ q) (le_refl _) ⟨_,e1⟩
 refine I1.laid (a:=s.heap.objs.size+1) (o:=.ins C s.heap.objs.size []) (t':=s.toks) (λb u q=>get?_push_of_some _ q) (Nat.le_of_eq (size_push _ _)) ?_
 have ne:s.heap.objs.size≠s.heap.objs.size+1:=ne_of_lt (Nat.lt_succ_self _)
 refine⟨by rw[Da ne,Ra],zero_le _,ne,e2,λ_=>none,(Heap.Ns1.of_empty e3).at λo q=>get?_push_of_some _ q,λ_=>True.intro,λy hy=>absurd rfl hy⟩
theorem TH{prog:Program}{w:World}{env:Env}{e:Expr}{f:Str}{pos:Pos}{s:Shared}{Q:Value->Shared->Prop}(hb:attributeBase e f env (eval e env)=eval e env)(h:wpAny (model prog w) A (eval e env) (λo s₁=>wpAny (model prog w) A (getAttr o f true) Q E s₁) E s):wpAny (model prog w) A (eval (.Attribute e f pos) env) Q E s:=
 Attribute_any_ h (by rw[arm_eval_Attribute,hb])
end
def V0(K:Frag)(ta:TE)(f:Str):TE:=λσ H Q=>ta σ H λx H1=>∃ a C dx fs v,x=.ref a/\H1 a=some (.ins C dx fs)/\Cls K C/\NoAttr K C f/\fs.lookup f=some v/\Q v H1
def I0(K:Frag)(ta tv:TE)(f:Str):TS:=λD σ H=>tv σ H λy H1=>ta σ H1 λx H2=>∃ a C dx fs,x=.ref a/\H2 a=some (.ins C dx fs)/\Cls K C/\NoAttr K C f/\fs.length<1000/\
 D.nx σ (Ib H2 a (.ins C dx (Ki f y fs)))
section
variable {X:Cx}{o e value:Expr}{f:Str}{pos pos' tpos:Pos}{ta tv:TE}
theorem QR(he:PE X e ta)(hb:attributeBase e f X.env (eval e X.env)=eval e X.env):PE X (.Attribute e f pos) (V0 X.K ta f):=by
 intro pins s σ H Q I h
 refine TH hb (Yc (he pins s σ H _ I h) λu s1 ⟨x,H1,I1,rx,a,C,dx,fs,v,ex,ea,c,n,l,q⟩=>?_)
 subst ex
 obtain rfl:u=Value.ref a:=rx
 exact Ww I1 ea c n l λu' s2 I2 ru=>⟨v,H1,I2,ru,q⟩
theorem BS(ha:PE X o ta)(hv:PE X value tv)(hs:swapsWith value (some (.Attribute o f pos')) pos.line X.env=pure false):PS X (.Assign [.Attribute o f pos'] value pos) (I0 X.K ta tv f):=by
 intro pins s σ H D I h
 refine plainObj_wpAny_Assign_Attribute (Yc (hv pins s σ H _ I h) λu s1 ⟨y,H1,I1,ry,q⟩=>Yc (ha pins s1 σ H1 _ I1 q) λov s2 ⟨x,H2,I2,rx,a,C,dx,fs,ex,ea,c,n,l,q2⟩=>?_) hs
 subst ex
 obtain rfl:ov=Value.ref a:=rx
 exact Qx I2 ea c n l ry λs3 I3=>⟨σ,_,I3,q2⟩
end
section
variable {X:Cx}{pins:List (Addr×Obj)}{σ:St}{H:Hp}{s:Shared}{A:Around}{E:Value->Shared->Prop}{Q:Value->Shared->Prop}{c:Value}{b:Bool}
inductive TyOf(K:Frag)(H:Hp):V->Value->Prop where
 |non:TyOf K H .non (.type "NoneType")
 |bl (x:Bool):TyOf K H (.bl x) (.type "bool")
 |int (i:Int):TyOf K H (.int i) (.type "int")
 |str (x:Str):TyOf K H (.str x) (.type "str")
 |flt (x:UInt64):TyOf K H (.flt x) (.type "float")
 |lst {a:Addr} {xs:List V} (e:H a=some (.lst xs)):TyOf K H (.ref a) (.type "list")
 |frz {a:Addr} {o:Obj} {xs:List V} (e:H a=some (.frz o (.lst xs))):TyOf K H (.ref a) (.type "list")
 |tup {a:Addr} {xs:List V} (e:H a=some (.tup xs)):TyOf K H (.ref a) (.type "tuple")
 |dK {a:Addr} {kvs:List (Ab×V)} (e:H a=some (.dK kvs)):TyOf K H (.ref a) (.type "dict")
 |dT {a:Addr} {kvs:List (List Ab×V)} (e:H a=some (.dT kvs)):TyOf K H (.ref a) (.type "dict")
 |ins {a C dx:Addr} {fs:List (Str×V)} (e:H a=some (.ins C dx fs)) (cl:Cls K C) (ha:findIn K (.ref C) "__class__"=some (some (.builtin "object.__class__")))
   (hn:specialIn K (.builtin "object.__class__") "__get__"=some (some (.builtin "getset_descriptor.__get__"))) (htk:PySem.W.takesIn K (.builtin "object.__class__")=some true)
   (hm:mroIn K C (.type "object")=some true):TyOf K H (.ref a) (.ref C)
end
structure Room(k:Nat)(A:Around):Prop where
 hd:A.handled=none
 dp:A.depth+3*k+5<recursionLimit
 un:A.units+16*k+200<cLine
 gd:A.guards=some []
theorem Room.mono{j k:Nat}{A:Around}(r:Room k A)(h:j<=k):Room j A:=⟨r.hd,by have:=r.dp;omega,by have:=r.un;omega,r.gd⟩
theorem Room.deeper{k:Nat}{A:Around}(r:Room (k+1) A)(env:Env):Room k (A.deeper env):=
 ⟨r.hd,by have:=r.dp;show A.depth+1+3*k+5<_;omega,by have:=r.un;show A.units+3+16*k+200<_;omega,r.gd⟩
theorem Bx{A:Around}{C:Addr}{us:List Value}{kw:List (Str×Value)}:(A.under (.builtin "type.__call__" ⟨.ref C::us,kw⟩)).depth=A.depth+1:=by
 first|rfl|simp[Around.under,Code.weight,Code.isCreation,Code.isGuard,Code.isCaller,Code.frames,Code.isFrame,guardIds]
theorem Fx{A:Around}{C:Addr}{us:List Value}{kw:List (Str×Value)}:(A.under (.builtin "type.__call__" ⟨.ref C::us,kw⟩)).units=A.units+1:=by
 first|rfl|simp[Around.under,Code.cUnits,Code.frames,Code.isFrame]
theorem Room.make{k:Nat}{A:Around}(r:Room (k+1) A)(C:Addr)(us:List Value)(kw:List (Str×Value)):Room k (A.under (.builtin "type.__call__" ⟨.ref C::us,kw⟩)):=
 ⟨r.hd,by have:=r.dp;rw[Bx];omega,by have:=r.un;rw[Fx];omega,by first|exact r.gd|(simpa [Around.under,Code.guards,pushGuards] using r.gd)⟩
theorem Room.depth{k:Nat}{A:Around}(r:Room k A):A.depth<recursionLimit:=by have:=r.dp;omega
theorem Room.units{k:Nat}{A:Around}(r:Room k A):A.units+64<cLine:=by have:=r.un;omega
def tNil:TA:=λ_ H Q=>Q [] H
def WW(ta:TE)(tr:TA):TA:=λσ H Q=>ta σ H λx H1=>tr σ H1 λxs H2=>Q (x::xs) H2
section
variable {X:Cx}{e:Expr}{es:List Expr}{te:TE}{t:TA}{pos:Pos}
theorem Ck:PA X [] tNil:=λ_ _ _ _ H Q I h=>Calls.spliced_nil ⟨[],H,I,.nil,h⟩
theorem Vg(ha:PE X e te)(hr:PA X es t)(hs:starEach (e::es) X.env=(false,eval e X.env)::starEach es X.env:=by rfl):PA X (e::es) (WW te t):=by
 intro pos pins s σ H Q I h
 rw[hs]
 show wpAny _ _ (spliced ((false,eval e X.env)::backTo pos (starEach es X.env))) _ _ s
 refine Calls.spliced_cons (Yc (ha pins s σ H _ I h) λu s1 ⟨x,H1,I1,r1,q1⟩=>?_)
 exact Yc (hr pos pins s1 σ H1 _ I1 q1) λus s2 ⟨xs,H2,I2,r2,q2⟩=>⟨x::xs,H2,I2,.cons r1 r2,q2⟩
def E1(t:TA):TE:=λσ H Q=>t σ H λxs H1=>xs.length<=sizeLine/\∀ p,H1 p=none->Q (.ref p) (Ib H1 p (.tup xs))
def Z0(t:TA):TE:=λσ H Q=>t σ H λxs H1=>xs.length<=sizeLine/\∀ p,H1 p=none->Q (.ref p) (Ib H1 p (.lst xs))
theorem VR{x1}(h:PA X es t):PE X (.Tuple es x1 pos) (E1 t):=by
 intro pins s σ H Q I hq
 refine wpAny_Tuple_spliced (Yc (h pos pins s σ H _ I hq) λus s1 ⟨xs,H1,I1,r,z,q⟩=>⟨by rw[<-r.length];exact z,?_⟩)
 have hf:H1 s1.heap.objs.size=none:=I1.hok.fresh (le_refl _)
 refine⟨.ref s1.heap.objs.size,Ib H1 s1.heap.objs.size (.tup xs),I1.laid (t':=s1.toks) (λb u e=>get?_push_of_some _ e) (le_refl _) ?_,rfl,q _ hf⟩
 exact⟨z,us,r,⟨_,get?_push_size _ rfl,rfl,_,rfl⟩⟩
theorem SR(h:PA X es t):PE X (.List es pos) (Z0 t):=by
 intro pins s σ H Q I hq
 refine wpAny_List_spliced (Yc (h pos pins s σ H _ I hq) λus s1 ⟨xs,H1,I1,r,z,q⟩=>⟨by rw[<-r.length];exact z,?_⟩)
 have hf:H1 s1.heap.objs.size=none:=I1.hok.fresh (le_refl _)
 refine⟨.ref s1.heap.objs.size,Ib H1 s1.heap.objs.size (.lst xs),I1.laid (t':=s1.toks) (λb u e=>get?_push_of_some _ e) (le_refl _) ?_,rfl,q _ hf⟩
 exact⟨z,us,0,r,get?_push_size _ rfl⟩
end
abbrev Sp:=List V->Hp->VK->XK->Prop
abbrev Dw:=List Env->Hp->Shared->XK->Value->Shared->Prop
structure Env0(P:Program)(w:World)(K:Frag)(mg:Str->Option Value)(base:Heap)(A:Around)(outer:List Env)(s:Shared)(H:Hp):Prop where
 frames:A.frames=some outer
 mod:Mod K mg base
 bs:∀ b o,base.get? b=some o->s.heap.get? b=some o/\H b=none
 bsz:base.objs.size<=s.heap.objs.size
 funs:s.heap.FunFrames base outer
 frf:∀ b∈Uw outer,H b=none
 hok:HOk P w H s.heap
 bare:AllBare s.gens
def CE(outer:List Env)(P:Program)(w:World)(H:Hp)(s:Shared)(Q:VK)(u:Value)(s':Shared):Prop:=
 ∃ v H',s'.os=s.os/\AllBare s'.gens/\Un (Uw outer) [] H H' s.heap s'.heap/\HOk P w H' s'.heap/\RelV v u/\Q v H'
def CR(CX:Dw)(outer:List Env)(P:Program)(w:World)(H:Hp)(s:Shared)(Q:VK)(E:XK)(r:Result)(s':Shared):Prop:=
 match r with
 | .ok (.ret u)=>CE outer P w H s Q u s'
 | .ok _=>False
 | .error e=>CX outer H s E e s'
structure FnOk(P:Program)(w:World)(K:Frag)(mg:Str->Option Value)(base:Heap)(CX:Dw)(k:Nat)(f:Addr)(fd:FuncData)(ps:List Str)(sp:Sp):Prop where
 len:∀ vs H Q E,sp vs H Q E->vs.length=ps.length
 run:∀ (A:Around) (outer:List Env) (s:Shared) (H:Hp) (args:Args) (us:List Value) (vs:List V) (Q:VK) (E:XK),Room k A->Env0 P w K mg base A outer s H->BindsTo s fd args (ps.zip us)->Vals vs us->sp vs H Q E->
  codeAny (model P w) A (.call (.ref f) args) (CR CX outer P w H s Q E) s
theorem FnOk.mono{P:Program}{w:World}{K:Frag}{mg:Str->Option Value}{base:Heap}{CX:Dw}{j k:Nat}{f:Addr}{fd:FuncData}{ps:List Str}{sp:Sp}(F:FnOk P w K mg base CX j f fd ps sp)(h:j<=k):
  FnOk P w K mg base CX k f fd ps sp:=⟨F.len,λA outer s H args us vs Q E hr=>F.run A outer s H args us vs Q E (hr.mono h)⟩
theorem FnOk.imp{P:Program}{w:World}{K:Frag}{mg:Str->Option Value}{base:Heap}{CX:Dw}{k:Nat}{f:Addr}{fd:FuncData}{ps:List Str}{sp sp':Sp}(F:FnOk P w K mg base CX k f fd ps sp)(h:∀ vs H Q E,sp' vs H Q E->sp vs H Q E):FnOk P w K mg base CX k f fd ps sp':=
 ⟨λvs H Q E q=>F.len vs H Q E (h _ _ _ _ q),λA outer s H args us vs Q E hr he hb hv hs=>F.run A outer s H args us vs Q E hr he hb hv (h _ _ _ _ hs)⟩
theorem Env0.make{P:Program}{w:World}{K:Frag}{mg:Str->Option Value}{base:Heap}{A:Around}{outer:List Env}{s:Shared}{H:Hp}(e:Env0 P w K mg base A outer s H)(C:Addr)(us:List Value)(kw:List (Str×Value)):
  Env0 P w K mg base (A.under (.builtin "type.__call__" ⟨.ref C::us,kw⟩)) outer s H:=⟨by first|exact e.frames|(simpa [Around.under,Code.envs,Code.isFrame,pushEnvs] using e.frames),e.mod,e.bs,e.bsz,e.funs,e.frf,e.hok,e.bare⟩
section
variable {X:Cx}{pins:List (Addr×Obj)}{σ:St}{H:Hp}{s s':Shared}
theorem Inv.env0(I:Inv X pins σ H s):Env0 X.prog X.w X.K X.mg X.base X.A X.stack s H:=
 ⟨I.ok.frames,I.ok.mod,I.bs,le_trans I.ok.bsz I.sz,I.stack,I.stkFree,I.hok,I.bare⟩
theorem Inv.after{Q:VK}{u:Value}(I:Inv X pins σ H s)(h:CE X.stack X.prog X.w H s Q u s'):EP X pins σ Q u s':=by
 obtain⟨v,H',os,bare,un,hok,r,q⟩:=h
 obtain⟨hh,g,d,t,os'⟩:=s'
 obtain rfl:os'=s.os:=os
 exact⟨v,H',I.call (h':=hh) (g':=g) (d':=d) (t':=t) (ch:= []) un hok bare (λb z=>absurd z (by simp)),r,q⟩
end
def VW(sp:Sp)(dvs:List V)(E:XK)(t:TA):TE:=λσ H Q=>t σ H λvs H1=>sp (vs++dvs) H1 Q E
def AX(C:Addr)(sp:Sp)(dvs:List V)(E:XK)(t:TA):TE:=λσ H Q=>t σ H λvs H1=>∀ x dx,H1 x=none->H1 dx=none->dx≠x->
 sp (.ref x::(vs++dvs)) (Ib (Ib H1 dx (.own x)) x (.ins C dx [])) (λv H2=>v=.non/\Q (.ref x) H2) E
def Binds(K:Frag)(fd:FuncData)(ps:List Str)(ds:List Value):Prop:=
 ∀ (s:Shared) (us:List Value),K.In s.heap->(us++ds).length=ps.length->BindsTo s fd ⟨us,[]⟩ (ps.zip (us++ds))
theorem Binds.all{K:Frag}{fd:FuncData}{ps:List Str}(h:∀ us:List Value,us.length=ps.length->bindArgs fd ⟨us,[]⟩=pure (ps.zip us)):Binds K fd ps []:=λs us _ hl=>by
 rw[append_nil]at hl ⊢
 exact .of_eq (h us hl)
def Cn(CX:Dw)(X:Cx)(E:XK):Prop:=∀ (pins:List (Addr×Obj)) (σ:St) (H:Hp) (s:Shared) (e:Value) (s':Shared),Inv X pins σ H s->CX X.stack H s E e s'->X.xe e s'
section
variable {X:Cx}{CX:Dw}{k:Nat}{f C:Addr}{fd:FuncData}{ps:List Str}{sp:Sp}{dvs:List V}{ds:List Value}{E:XK}{x m:Str}{p pos apos:Pos}{e o:Expr}{es:List Expr}{ta:TE}{t:TA}
theorem OS{pins:List (Addr×Obj)}{σ:St}{H:Hp}{s:Shared}{Q:VK}{us:List Value}{vs:List V}(F:FnOk X.prog X.w X.K X.mg X.base CX k f fd ps sp)(hr:Room k X.A)(hb:Binds X.K fd ps ds)(hd:Vals dvs ds)(hx:Cn CX X E)(I:Inv X pins σ H s)(r:Vals vs us)(h:sp (vs++dvs) H Q E):wpAny (model X.prog X.w) X.A (call (.ref f) us) (EP X pins σ Q) X.xe s:=by
 have r2:Vals (vs++dvs) (us++ds):=r.append hd
 have hl:(us++ds).length=ps.length:=by rw[<-r2.length];exact F.len _ _ _ _ h
 refine wpAny_call (codeAny_mono (F.run X.A X.stack s H ⟨us,[]⟩ (us++ds) (vs++dvs) Q E hr I.env0 (hb s us I.kIn hl) r2 h) λr s' hq=>?_)
 cases r with
 |error e=>exact hx pins σ H s e s' I hq
 |ok fl=>
  cases fl with
  |ret u=>exact I.after hq
  |next=>exact False.elim hq
  |brk=>exact False.elim hq
  |cont=>exact False.elim hq
theorem AL(F:FnOk X.prog X.w X.K X.mg X.base CX k f fd ps sp)(hr:Room k X.A)(hg:Gl X x)(hm:X.mg x=some (.ref f))(hk:keepIn X.K (.ref f)=true)(hb:Binds X.K fd ps ds)(hd:Vals dvs ds)(hx:Cn CX X E)(ha:PA X (e::es) t)(hdb:(x==("__debug__":Str))=false:=by decide)(he:starEach (e::es) X.env=(false,eval e X.env)::starEach es X.env:=by rfl)(hpl:(backTo pos (starEach es X.env)).any (·.1)=false:=by rfl):
  PE X (.Call (.Name x p) (e::es) [] pos) (VW sp dvs E t):=by
 intro pins s σ H Q I h
 refine wpAny_Call_Name_kw (Ry I hg hm ?_ hdb)
 refine PySem.W.callWith_K (h₀:=X.base) I.ok.mod.kin hk (Yc (ha pos pins s σ H _ I h) λus s1 ⟨vs,H1,I1,r,q⟩=>⟨I1.kIn,?_⟩) he hpl
 exact OS F hr hb hd hx I1 r q
structure Mk(K:Frag)(C f:Addr):Prop where
 makes:makesIn K C=true
 init:findIn K (.ref C) "__init__"=some (some (.ref f))
 fn:isFn K (.ref f)=true
 kp:keepIn K (.ref C)=true
theorem WF{pins:List (Addr×Obj)}{σ:St}{H:Hp}{s:Shared}{Q:VK}{us:List Value}{vs:List V}(M:Mk X.K C f)(F:FnOk X.prog X.w X.K X.mg X.base CX k f fd ps sp)(hr:Room (k+1) X.A)(hb:Binds X.K fd ps ds)(hd:Vals dvs ds)(hx:Cn CX X E)(I:Inv X pins σ H s)(r:Vals vs us)(h:∀ x dx,H x=none->H dx=none->dx≠x->sp (.ref x::(vs++dvs)) (Ib (Ib H dx (.own x)) x (.ins C dx [])) (λv H2=>v=.non/\Q (.ref x) H2) E):
  wpAny (model X.prog X.w) X.A (call (.ref C) us) (EP X pins σ Q) X.xe s:=by
 have hq:=h (s.heap.objs.size+1) s.heap.objs.size (I.hok.fresh (le_succ _)) (I.hok.fresh (le_refl _)) (ne_of_lt (Nat.lt_succ_self _))
 have I2:=Inv.made (C:=C) I
 have r2:Vals (V.ref (s.heap.objs.size+1)::(vs++dvs)) (Value.ref (s.heap.objs.size+1)::(us++ds)):=.cons rfl (r.append hd)
 have hl:(Value.ref (s.heap.objs.size+1)::us++ds).length=ps.length:=by
  have e:=r2.length
  rw[F.len _ _ _ _ hq]at e
  exact e.symm
 refine wpAny_call (SE (f:=f) I.kIn M.makes M.init (beq_iff_eq.mp M.fn) (codeAny_mono (F.run _ X.stack _ _ ⟨Value.ref (s.heap.objs.size+1)::us,[]⟩ (Value.ref (s.heap.objs.size+1)::(us++ds)) _ _ E (hr.make C us [])
  (I2.env0.make C us []) (hb _ (Value.ref (s.heap.objs.size+1)::us) I2.kIn hl) r2 hq) λr s' hq'=>?_))
 cases r with
 |error e=>exact hx pins σ _ _ e s' I2 hq'
 |ok fl=>
  cases fl with
  |ret u=>
   obtain⟨v,H',I3,rv,ev,q3⟩:=I2.after hq'
   subst ev
   exact⟨rv,⟨V.ref (s.heap.objs.size+1),H',I3,rfl,q3⟩⟩
  |next=>exact False.elim hq'
  |brk=>exact False.elim hq'
  |cont=>exact False.elim hq'
theorem FL(M:Mk X.K C f)(F:FnOk X.prog X.w X.K X.mg X.base CX k f fd ps sp)(hr:Room (k+1) X.A)(hg:Gl X x)(hm:X.mg x=some (.ref C))(hb:Binds X.K fd ps ds)(hd:Vals dvs ds)(hx:Cn CX X E)(ha:PA X (e::es) t)(hdb:(x==("__debug__":Str))=false:=by decide)(he:starEach (e::es) X.env=(false,eval e X.env)::starEach es X.env:=by rfl)(hpl:(backTo pos (starEach es X.env)).any (·.1)=false:=by rfl):
  PE X (.Call (.Name x p) (e::es) [] pos) (AX C sp dvs E t):=by
 intro pins s σ H Q I h
 refine wpAny_Call_Name_kw (Ry I hg hm ?_ hdb)
 refine PySem.W.callWith_K (h₀:=X.base) I.ok.mod.kin M.kp (Yc (ha pos pins s σ H _ I h) λus s1 ⟨vs,H1,I1,r,q⟩=>⟨I1.kIn,?_⟩) he hpl
 exact WF M F hr hb hd hx I1 r q
end
section
variable {X:Cx}{CX:Dw}{k:Nat}{f C:Addr}{fd:FuncData}{ps ks:List Str}{sp:Sp}{E:XK}{x m:Str}{p pos apos kpos:Pos}{e o:Expr}{es:List Expr}{kws:List Keyword}{te ta:TE}{t tk:TA}{nm:Option Str}
structure KBinds(K:Frag)(fd:FuncData)(ps ks:List Str)(g:List Value->List Value->List Value)(gV:List V->List V->List V):Prop where
 to:∀ (s:Shared) (us ws:List Value),K.In s.heap->(g us ws).length=ps.length->BindsTo s fd ⟨us,ks.zip ws⟩ (ps.zip (g us ws))
 rel:∀ {vs:List V} {us:List Value} {zs:List V} {ws:List Value},Vals vs us->Vals zs ws->Vals (gV vs zs) (g us ws)
variable {g:List Value->List Value->List Value}{gV:List V->List V->List V}
end
structure FnScope(N P:List Str)(sc:Scope):Prop where
 kind:sc.kind=.function
 co:sc.isCoroutine=false
 gen:sc.isGenerator=false
 nd:N.Nodup
 pre:N.take P.length=P
 par:∀ x∈P,sc.names.lookup x=some .local\/sc.names.lookup x=some .cell
 nofree:∀ y∈sc.names,y.2≠ .free
theorem Up{kindOf:Str->Option NameKind}{x:Str}:∀ {binds:List (Str×Value)} {m:Str->Option Value},(∀ v,(x,v)∉binds)->bindL kindOf binds m x=m x
 | [],_,_=>rfl
 |(n,v)::r,m,h=>by
  unfold bindL
  rw[Up λw hw=>h w (mem_cons_of_mem _ hw)]
  split
  .have:x≠n:=by rintro rfl;exact h v mem_cons_self
   simp[this]
  .rfl
theorem Qp{kindOf:Str->Option NameKind}{x:Str}:∀ {binds:List (Str×Value)} {m:Str->Option Value},(∀ v,(x,v)∉binds)->bindC kindOf binds m x=m x
 | [],_,_=>rfl
 |(n,v)::r,m,h=>by
  unfold bindC
  rw[Qp λw hw=>h w (mem_cons_of_mem _ hw)]
  split
  .rfl
  .have:x≠n:=by rintro rfl;exact h v mem_cons_self
   simp[this]
theorem Rp{kindOf:Str->Option NameKind}{x:Str}{v:Value}:∀ {P:List Str} {vs:List Value} {i:Nat} {m:Str->Option Value},P.Nodup->P[i]? =some x->vs[i]? =some v->kindOf x=some .local->
  bindL kindOf (P.zip vs) m x=some v
 | [],_,_,_,_,h,_,_=>by simp at h
 |_::_,[],_,_,_,_,h,_=>by simp at h
 |p::P,w::vs,0,m,nd,h1,h2,hk=>by
  simp at h1 h2;subst h1;subst h2
  show bindL kindOf ((p,w)::P.zip vs) m p=_
  unfold bindL
  rw[Up λv hv=>(nodup_cons.mp nd).1 (List.of_mem_zip hv).1,if_pos hk]
  simp
 |p::P,w::vs,i+1,m,nd,h1,h2,hk=>by
  show bindL kindOf ((p,w)::P.zip vs) m x=_
  unfold bindL
  exact Rp (i:=i) (nodup_cons.mp nd).2 (by simpa using h1) (by simpa using h2) hk
theorem Pp{kindOf:Str->Option NameKind}{x:Str}{v:Value}:∀ {P:List Str} {vs:List Value} {i:Nat} {m:Str->Option Value},P.Nodup->P[i]? =some x->vs[i]? =some v->kindOf x≠some .local->
  bindC kindOf (P.zip vs) m x=some v
 | [],_,_,_,_,h,_,_=>by simp at h
 |_::_,[],_,_,_,_,h,_=>by simp at h
 |p::P,w::vs,0,m,nd,h1,h2,hk=>by
  simp at h1 h2;subst h1;subst h2
  show bindC kindOf ((p,w)::P.zip vs) m p=_
  unfold bindC
  rw[Qp λv hv=>(nodup_cons.mp nd).1 (List.of_mem_zip hv).1,if_neg hk]
  simp
 |p::P,w::vs,i+1,m,nd,h1,h2,hk=>by
  show bindC kindOf ((p,w)::P.zip vs) m x=_
  unfold bindC
  exact Pp (i:=i) (nodup_cons.mp nd).2 (by simpa using h1) (by simpa using h2) hk
def start(N:List Str)(vs:List V):St:=vs.map some++replicate (N.length-vs.length) none
def Km(CX:Dw)(P:Program)(w:World)(K:Frag)(mg:Str->Option Value)(base:Heap)(N:List Str)(qual:Str)(scope:Scope)(f:Addr)(cd:Value)(A:Around)(outer:List Env)(s:Shared)(H:Hp)(E:XK):Cx where
 prog:=P
 w:=w
 K:=K
 mg:=mg
 base:=base
 A:=A.deeper (envOfC qual scope s.heap.objs.size f cd)
 N:=N
 s₀:=s
 H₀:=H
 env:=envOfC qual scope s.heap.objs.size f cd
 outer:=outer
 stack:=envOfC qual scope s.heap.objs.size f cd::outer
 ex:= []
 calm:=true
 fn:=λ_=>true
 pn:= []
 xe:=λe s'=>wpAny (model P w) (A.deeper (envOfC qual scope s.heap.objs.size f cd)) (leaving (envOfC qual scope s.heap.objs.size f cd) e) (λ_ s''=>CX outer H s E e s'') (λe' s''=>CX outer H s E e' s'') s'
theorem Rt{sc:Scope}{n:Nat}{x:Str}(h:sc.names.lookup x=some .cell):∃ c,(cellsFrom n sc.names []).lookup x=some c:=by
 have q:=PySem.W.cellsFrom_some sc.names n [] (.inl h)
 exact Option.isSome_iff_exists.mp q
theorem OA{CX:Dw}{P:Program}{w:World}{K:Frag}{mg:Str->Option Value}{base:Heap}{N ps:List Str}{qual:Str}{scope:Scope}{f:Addr}{cd:Value}{A:Around}{outer:List Env}{s s1:Shared}{H:Hp}{E:XK}{us:List Value}{vs:List V}(S:FnScope N ps scope)(hd:A.handled=none)(e0:Env0 P w K mg base A outer s H)(hl:vs.length=ps.length)(r:Vals vs us)(x:InCallC s s.heap.objs.size (bindL (envOfC qual scope s.heap.objs.size f cd).kindOf (ps.zip us) λ_=>none) (cellsFrom (s.heap.objs.size+1) scope.names []) (bindC (envOfC qual scope s.heap.objs.size f cd).kindOf (ps.zip us) λ_=>none) s1):
  Inv (Km CX P w K mg base N qual scope f cd A outer s H E) [] (start N vs) H s1:=by
 have hpl:ps.length<=N.length:=by have:=congrArg List.length S.pre;rw[length_take]at this;omega
 obtain⟨h1,tk,rfl,hk⟩:=x.done
 have noA:∀ b:Addr,b∉(Km CX P w K mg base N qual scope f cd A outer s H E).ex:=λb z=>absurd (show b∈([]:List Addr) from z) (by simp)
 refine⟨⟨e0.mod,S.kind,rfl,rfl,le_refl _,λy z c h1 h2=>?_,λy hy=>?_,λy c _ h=>?_,λ_=>hd,Around.frames_deeper e0.frames,.inr ⟨rfl,rfl⟩,λb z=>absurd z (noA b),e0.bs,e0.bsz,λb _ _=>noA b,λb z=>absurd z (noA b),e0.funs,e0.frf⟩,
  rfl,e0.bare,Un.kept hk,⟨_,x.toInCall.ns,λi y v h1 h2 h3=>?_⟩,λy c h=>⟨_,x.cell y c h⟩,e0.hok.fresh (le_refl _),λy c h=>?_,λp hp=>absurd (show p∈([]:List (Addr×Obj)) from hp) (by simp),e0.hok.kept hk,?_⟩
 .exact name_of_addr x.apart (PySem.mem_of_lookup h1) (PySem.mem_of_lookup h2)
 .have hy:scope.names.lookup y=some .cell\/scope.names.lookup y=some .free:=hy
  rcases hy with hy|hy
  .exact Rt hy
  .exact absurd rfl (S.nofree _ (PySem.mem_of_lookup hy))
 .exact le_of_lt (x.above y c (PySem.mem_of_lookup h))
 .have hi:i<vs.length:=by
   unfold start at h2
   by_cases hi:i<vs.length
   .exact hi
   .rw[getElem?_append_right (by simpa using hi)]at h2
    rw[List.getElem?_replicate]at h2
    split at h2<;>cases h2
  have ha:vs[i]? =some v:=by
   unfold start at h2
   rw[List.getElem?_append_left (by simpa using hi),getElem?_map]at h2
   cases e:vs[i]? with
   |none=>rw[e]at h2;cases h2
   |some a=>rw[e]at h2;cases h2;rfl
  obtain⟨u,hu,rv⟩:=r.get ha
  have hp:ps[i]? =some y:=by
   rw[<-S.pre,List.getElem?_take_of_lt (by omega)];exact h1
  have ndP:ps.Nodup:=by rw[<-S.pre];exact S.nd.sublist (List.take_sublist _ _)
  refine⟨u,rv,?_⟩
  rcases S.par y (mem_of_getElem? hp) with k|k
  .exact .inl ⟨k,Rp ndP hp hu k⟩
  .obtain⟨c,e⟩:=Rt (n:=s.heap.objs.size+1) k
   refine .inr ⟨.inl k,c,e,?_⟩
   have q:=x.cell y c e
   rw[Pp ndP hp hu (by show scope.names.lookup y≠_;rw[k];decide)]at q
   exact q
 .exact e0.hok.fresh (le_of_lt (x.above y c (PySem.mem_of_lookup h)))
 .unfold start
  show _=N.length
  rw[length_append,length_map,length_replicate]
  omega
theorem AN{CX:Dw}{P:Program}{w:World}{K:Frag}{mg:Str->Option Value}{base:Heap}{k:Nat}{f:Addr}{name qual:Str}{params:Arguments}{body:List Stmt}{scope:Scope}{dV kV doc pm cdv ct oc:Value}{an od:Option Addr}{osl:Array (Option Value)}{N ps:List Str}{sp:Sp}(lk:K.lookup f=some ⟨oc,od,.func (fnOf name qual params body scope dV kV doc pm an cdv ct),osl⟩)(hcd:codeIn K cdv qual=true)(S:FnScope N ps scope)(len:∀ vs H Q E,sp vs H Q E->vs.length=ps.length)(hbody:∀ (A:Around) (outer:List Env) (s:Shared) (H:Hp) (vs:List V) (Q:VK) (E:XK),Room k (A.deeper (envOfC qual scope s.heap.objs.size f cdv))->sp vs H Q E->
   ∃ t,PSs (Km CX P w K mg base N qual scope f cdv A outer s H E) body t/\t {nx:=λ_ H'=>Q .non H',rt:=Q} (start N vs) H):
  FnOk P w K mg base CX (k+1) f (fnOf name qual params body scope dV kV doc pm an cdv ct) ps sp:=by
 refine⟨len,λA outer s H args us vs Q E hr e0 hb r hsp=>?_⟩
 have hl:=len _ _ _ _ hsp
 have KX:K.In s.heap:=e0.mod.kin.keeps λb o e=>(e0.bs b o e).1
 have lim:s.heap.NoLimit:=e0.mod.nolimit.keeps λb o e=>(e0.bs b o e).1
 have hkind:∀ y∈ps.zip us,scope.names.lookup y.1=some .local\/(scope.names.lookup y.1=some .cell/\((cellsFrom (s.heap.objs.size+1) scope.names []).lookup y.1).isSome=true):=λ⟨n,v⟩ hy=>by
  rcases S.par n (List.of_mem_zip hy).1 with q|q
  .exact .inl q
  .exact .inr ⟨q,PySem.W.cellsFrom_some _ _ _ (.inl q)⟩
 refine codeAny_call_function hr.depth (KX _ _ lk) rfl S.co S.gen rfl (PySem.W.codeRec_of KX hcd) (hb _ _ _ _ ?_)
 refine wpAny_newFunctionEnv_cells S.kind hkind λenv he s1 x=>?_
 subst he
 refine⟨lim.keeps x.toInCall.keep,codeAny_func ?_⟩
 obtain⟨t,ht,hq⟩:=hbody A outer s H vs Q E (hr.deeper _) hsp
 have I:Inv (Km CX P w K mg base N qual scope f cdv A outer s H E) [] (start N vs) H s1:=OA S hr.hd e0 hl r x
 refine wpAny_mono (ht [] s1 (start N vs) H _ I hq) (λfl s' hs=>?_) λe s' hs=>hs
 have fin:∀ {σ':St} {H':Hp} {v:V} {u:Value},Inv (Km CX P w K mg base N qual scope f cdv A outer s H E) [] σ' H' s'->RelV v u->Q v H'->CE outer P w H s Q u s':=
  λ{σ' H' v u} J rv q=>⟨v,H',J.os,J.bare,J.base,J.hok,rv,q⟩
 cases fl with
 |ret u=>
  obtain⟨v,σ',H',J,rv,q⟩:=hs
  exact fin J rv q
 |next=>
  obtain⟨σ',H',J,q⟩:=hs
  exact fin (v:=V.non) (u:=Value.none) J rfl q
 |brk=>
  obtain⟨_,_,_,q⟩:=hs
  exact False.elim q
 |cont=>
  obtain⟨_,_,_,q⟩:=hs
  exact False.elim q
section
variable {X:Cx}{x:Str}{p pos:Pos}{e:Expr}{es:List Expr}{t:TA}{id T:String}{r:List V->Hp->VK->Prop}
def V1(r:List V->Hp->VK->Prop)(t:TA):TE:=λσ H Q=>t σ H λvs H1=>r vs H1 Q
theorem Gv(hc:Xl X (.builtin id) r)(hg:Gl X x)(hm:X.mg x=none)(hv:bootBuiltins x=some (.builtin id))(ha:PA X (e::es) t)(hn:x≠"__name__":=by decide)(hdb:(x==("__debug__":Str))=false:=by decide)(he:starEach (e::es) X.env=(false,eval e X.env)::starEach es X.env:=by rfl)(hpl:(backTo pos (starEach es X.env)).any (·.1)=false:=by rfl):PE X (.Call (.Name x p) (e::es) [] pos) (V1 r t):=by
 intro pins s σ H Q I h
 refine wpAny_Call_Name_kw (Vf I hg hm hv ?_ hn hdb)
 exact PyProof.Rows.callWith_builtin1 (Yc (ha pos pins s σ H _ I h) λus s1 ⟨vs,H1,I1,r1,q1⟩=>hc pins s1 σ H1 vs us Q I1 r1 q1) he hpl
theorem Oq(hc:Xl X (.type T) r)(hg:Gl X x)(hm:X.mg x=none)(hv:bootBuiltins x=some (.type T))(ha:PA X (e::es) t)(hn:x≠"__name__":=by decide)(hdb:(x==("__debug__":Str))=false:=by decide)(he:starEach (e::es) X.env=(false,eval e X.env)::starEach es X.env:=by rfl)(hpl:(backTo pos (starEach es X.env)).any (·.1)=false:=by rfl):PE X (.Call (.Name x p) (e::es) [] pos) (V1 r t):=by
 intro pins s σ H Q I h
 refine wpAny_Call_Name_kw (Vf I hg hm hv ?_ hn hdb)
 exact PyProof.Rows.callWith_type1 (Yc (ha pos pins s σ H _ I h) λus s1 ⟨vs,H1,I1,r1,q1⟩=>hc pins s1 σ H1 vs us Q I1 r1 q1) he hpl
end
end L2
namespace HT
open PySem PyProof.Rows
section
open PySem.SeqAt
open PySem.AutoSeq1 (wpAny_loadPart')
open PySem.MeetsSeq PySem.MeetsSeq2 PySem.MeetsSeq3
end
section
variable {prog:Program}{w:World}{A:Around}{E:Value->Shared->Prop}{s:Shared}
theorem cat_tup{t b:Addr}{vs ws:List Value}{Q:Value->Shared->Prop}(ht:IsTup s.heap t vs.toArray)(hb:IsTup s.heap b ws.toArray)(hv:vs≠ [])(h1:ws= []->Q (.ref t) s)(h2:ws≠ []->Q (.ref s.heap.objs.size) {s with heap:=s.heap.push {cls:=.type "tuple",data:=.seq (vs++ws).toArray}})(hsz:vs.length+ws.length<=sizeLine):wpAny (model prog w) A (binaryOp .Add (.ref t) (.ref b)) Q E s:=by
 obtain⟨⟨cls,dd,data,sl⟩,ho,hc,n,hd⟩:=id ht
 obtain⟨⟨cls2,dd2,data2,sl2⟩,ho2,hc2,n2,hd2⟩:=id hb
 simp only at hc hd hc2 hd2
 subst hc hd hc2 hd2
 have e:vs.toArray++ws.toArray=(vs++ws).toArray:=by simp
 by_cases hw:ws= []
 .exact concat_meets ⟨_,ho,rfl⟩ ⟨_,ho2,rfl⟩ noFill_tuple_add seq_tuple_add PySem.F.slot_tuple_add PySem.F.entry_tuple_add (PySem.F.args_tuple_add_2 _ _)
   (tuple_addW1 t b vs.toArray ws.toArray n n2 dd dd2 sl sl2 (by simpa using hv) (by simp[hw])) ⟨ho,ho2,h1 hw⟩
 .refine concat_meets ⟨_,ho,rfl⟩ ⟨_,ho2,rfl⟩ noFill_tuple_add seq_tuple_add PySem.F.slot_tuple_add PySem.F.entry_tuple_add (PySem.F.args_tuple_add_2 _ _)
   (tuple_addW2 t b vs.toArray ws.toArray n n2 dd dd2 sl sl2 (by simpa using hv) (by simpa using hw) (by rw[size_toArray,size_toArray];exact hsz)) ⟨ho,ho2,?_⟩
  rw[e]
  exact h2 hw
def sIx(n d:Nat):Option Int->Nat
 |none=>d
 |some v=>if v<0 then(v+(n:Int)).toNat else min v.toNat n
theorem sIx_nat(n d k:Nat):sIx n d (some (k:Int))=min k n:=by
 show(if(k:Int)<0 then((k:Int)+(n:Int)).toNat else min (k:Int).toNat n)=min k n
 rw[if_neg (by omega),toNat_natCast]
end
end HT
namespace L2
open PySem PySem.Spec PyProof.Rows
abbrev TO:=St->Hp->(Option Int->Hp->Prop)->Prop
def PO(X:Cx)(e:Option Expr)(t:TO):Prop:=
 ∀ (pins:List (Addr×Obj)) (s:Shared) (σ:St) (H:Hp) (Q:Option Int->Hp->Prop),Inv X pins σ H s->t σ H Q->
  wpAny (model X.prog X.w) X.A (evalPart e X.env) (λu s'=>∃ o H',Inv X pins σ H' s'/\IsPart u o/\Q o H') X.xe s
def FM:TO:=λ_ H Q=>Q none H
def GX(t:TE):TO:=λσ H Q=>t σ H λx H1=>∃ i,x=.int i/\Q (some i) H1
section
variable {X:Cx}{e:Expr}{te:TE}{lo hi:Option Expr}{tl th:TO}{pos p2:Pos}
theorem LL:PO X none FM:=by
 intro pins s σ H Q I h
 rw[evalPart_none]
 exact wpAny_pure ⟨none,H,I,.none,h⟩
theorem ML(h:PE X e te):PO X (some e) (GX te):=by
 intro pins s σ H Q I hw
 rw[evalPart_some]
 refine Yc (h pins s σ H _ I hw) λu s1 ⟨x,H1,I1,r1,q1⟩=>?_
 obtain⟨i,rfl,q⟩:=q1
 obtain⟨t,rfl⟩:=r1
 exact⟨some i,H1,I1,.int i t,q⟩
def O1(X:Cx)(r:V->Option Int->Option Int->Hp->VK->Prop):Prop:=
 ∀ (pins:List (Addr×Obj)) (s:Shared) (σ:St) (H:Hp) (x:V) (v vl vu:Value) (lo hi:Option Int) (sl:Addr) (Q:VK),Inv X pins σ H s->RelV x v->s.heap.IsSliceOf sl vl vu .none->IsPart vl lo->IsPart vu hi->r x lo hi H Q->
  ∃ T id,typeLookup (.type T) "__getitem__"=pure (some (.builtin id))/\s.TypeIs v T/\wpAny (model X.prog X.w) X.A (getItem v (.ref sl)) (EP X pins σ Q) X.xe s
def F3(r:V->Option Int->Option Int->Hp->VK->Prop)(te:TE)(tl th:TO):TE:=λσ H Q=>te σ H λx H1=>tl σ H1 λl H2=>th σ H2 λu H3=>r x l u H3 Q
theorem NF{r:V->Option Int->Option Int->Hp->VK->Prop}(hr:O1 X r)(he:PE X e te)(hl:PO X lo tl)(hu:PO X hi th):PE X (.Subscript e (.Slice lo hi none p2) pos) (F3 r te tl th):=by
 intro pins s σ H Q I h
 refine Subscript_ (Yc (he pins s σ H _ I h) λv s1 ⟨x,H1,I1,r1,q1⟩=>?_)
 refine wpAny_Slice (Yc (hl pins s1 σ H1 _ I1 q1) λvl s2 ⟨l,H2,I2,pl,q2⟩=>Yc (hu pins s2 σ H2 _ I2 q2) λvu s3 ⟨u,H3,I3,pu,q3⟩=>?_)
 rw[evalPart_none]
 refine wpAny_pure ?_
 have I4:Inv X pins σ H3 {s3 with heap:=s3.heap.push {cls:=.type "slice",data:=.fields #[vl,vu,.none]}}:=I3.kept (t':=s3.toks) λb ob q=>get?_push_of_some _ q
 obtain⟨T,id,hT,ht,hg⟩:=hr pins {s3 with heap:=s3.heap.push {cls:=.type "slice",data:=.fields #[vl,vu,.none]}} σ H3 x v vl vu l u s3.heap.objs.size Q I4 r1 (Heap.IsSliceOf.new ..) pl pu q3
 show wpAny (model X.prog X.w) X.A (subscriptTail e (.Slice lo hi none p2) v (.ref s3.heap.objs.size)) (EP X pins σ Q) X.xe {s3 with heap:=s3.heap.push {cls:=.type "slice",data:=.fields #[vl,vu,.none]}}
 exact tail_any (ops:= [.ref s3.heap.objs.size,v]) ht hT hg (by with_unfolding_all rfl)
def Yz(xs:List V)(lo hi:Option Int):List V:=(xs.drop (HT.sIx xs.length 0 lo)).take (HT.sIx xs.length xs.length hi-HT.sIx xs.length 0 lo)
theorem Wt(xs:List V)(lo hi:Option Int):(Yz xs lo hi).length<=xs.length:=by
 unfold Yz
 rw[length_take,List.length_drop]
 omega
def IW(K:Frag):R2:=λx y H Q=>∃ a b xs ys,x=.ref a/\y=.ref b/\SqT K H a xs/\SqT K H b ys/\xs≠ []/\xs.length+ys.length<=sizeLine/\
 (ys= []->Q (.ref a) H)/\(ys≠ []->∀ p,H p=none->Q (.ref p) (Ib H p (.tup (xs++ys))))
theorem Vals.nil_iff{xs:List V}{us:List Value}(r:Vals xs us):us= []↔xs= []:=by
 cases r with
 |nil=>simp
 |cons _ _=>simp
theorem RK:OpR X (binaryOp .Add) (IW X.K):=by
 intro pins s σ H x y v u Q I rx ry h
 obtain⟨a,b,xs,ys,rfl,rfl,ha,hb,hx,hz,q1,q2⟩:=h
 cases rx
 cases ry
 obtain⟨its,r1,p1,_⟩:=I.tuple ha
 obtain⟨its2,r2,p2,_⟩:=I.tuple hb
 refine HT.cat_tup p1 p2 (λz=>hx (r1.nil_iff.mp z)) (λz=>⟨.ref a,H,I,rfl,q1 (r2.nil_iff.mp z)⟩) (λz=>?_) (by rw[<-r1.length,<-r2.length];exact hz)
 refine⟨.ref s.heap.objs.size,_,I.laid (t':=s.toks) (o:=.tup (xs++ys)) (λb ob q=>get?_push_of_some _ q) (le_refl _) ?_,rfl,q2 (λw=>z (r2.nil_iff.mpr w)) _ (I.hok.fresh (le_refl _))⟩
 exact⟨by rw[length_append];exact hz,_,r1.append r2,IsTup.new _ _⟩
end
def ZJ(n:Nat)(i:Int):Option Nat:=if 0<=i then(if i<n then some i.toNat else none) else if -(n:Int)<=i then some (i+n).toNat else none
def Xo{α:Type}(xs:List α)(i:Int):Option α:=(ZJ xs.length i).bind λj=>xs[j]?
theorem AK{n:Nat}{i:Int}{j:Nat}(h:ZJ n i=some j):seqIndex? i n=some j/\j<n/\ -(n:Int)<=i/\i<n:=by
 unfold ZJ at h
 by_cases h0:0<=i
 .rw[if_pos h0]at h
  by_cases h1:i<n
  .rw[if_pos h1]at h
   have e:i.toNat=j:=Option.some.inj h
   exact⟨by rw[seqIndex_of h0 h1,e],by omega,by omega,h1⟩
  .rw[if_neg h1]at h;cases h
 .rw[if_neg h0]at h
  by_cases h1: -(n:Int)<=i
  .rw[if_pos h1]at h
   have e:(i+n).toNat=j:=Option.some.inj h
   exact⟨by rw[seqIndex_neg (by omega) h1,e],by omega,h1,by omega⟩
  .rw[if_neg h1]at h;cases h
theorem Ar{α:Type}{xs:List α}{i:Int}{v:α}(h:Xo xs i=some v):∃ j,seqIndex? i xs.length=some j/\xs[j]? =some v/\j<xs.length/\ -(xs.length:Int)<=i/\i<xs.length:=by
 unfold Xo at h
 cases e:ZJ xs.length i with
 |none=>rw[e]at h;cases h
 |some j=>
  rw[e]at h
  obtain⟨h1,h2,h3,h4⟩:=AK e
  exact⟨j,h1,h,h2,h3,h4⟩
theorem atI_last{α:Type}(xs:List α)(v:α):Xo (xs++ [v]) (-1)=some v:=by
 have hl:(xs++ [v]).length=xs.length+1:=by simp
 have e:ZJ (xs++ [v]).length (-1)=some xs.length:=by
  unfold ZJ
  rw[hl,if_neg (by decide),if_pos (by omega)]
  congr 1
  omega
 unfold Xo
 rw[e]
 show(xs++ [v])[xs.length]? =some v
 simp
def Ej(b:Expr):Prop:=∀ o i,subscripted b false o i=operate [o,i] (getItem o i)
def IxR(X:Cx)(r:R2):Prop:=
 ∀ (value slice:Expr) (pins:List (Addr×Obj)) (s:Shared) (σ:St) (H:Hp) (x y:V) (v u:Value) (Q:VK),Inv X pins σ H s->RelV x v->RelV y u->r x y H Q->
  subscripted slice false v u=operate [v,u] (getItem v u)->wpAny (model X.prog X.w) X.A (subscriptTail value slice v u) (EP X pins σ Q) X.xe s
def NU(X:Cx)(id:String)(r:V->List V->Hp->VK->Prop):Prop:=
 ∀ (pins:List (Addr×Obj)) (s:Shared) (σ:St) (H:Hp) (x:V) (xs:List V) (v:Value) (us:List Value) (Q:VK),Inv X pins σ H s->RelV x v->Vals xs us->r x xs H Q->
  wpAny (model X.prog X.w) X.A (call (.builtin id) (v::us)) (EP X pins σ Q) X.xe s
section
variable {X:Cx}{a b:Expr}{ta tb:TE}{pos:Pos}
theorem IxR.or{r r':R2}(h:IxR X r)(h':IxR X r'):IxR X (λx y H Q=>r x y H Q\/r' x y H Q):=by
 intro value slice pins s σ H x y v u Q I rx ry q hs
 rcases q with q|q
 .exact h value slice pins s σ H x y v u Q I rx ry q hs
 .exact h' value slice pins s σ H x y v u Q I rx ry q hs
theorem AW{r:R2}(hr:IxR X r)(ha:PE X a ta)(hb:PE X b tb)(hs:Ej b):PE X (.Subscript a b pos) (FX r ta tb):=by
 intro pins s σ H Q I h
 exact Subscript_ (WH ha hb I h λv u s2 x y H2 I2 rx ry q=>hr a b pins s2 σ H2 x y v u Q I2 rx ry q (hs _ _))
def KW(K:Frag):R2:=λx y H Q=>∃ p xs i v,x=.ref p/\y=.int i/\SqL K H p xs/\Xo xs i=some v/\Q v H
def MW(K:Frag):R2:=λx y H Q=>∃ p xs i v,x=.ref p/\y=.int i/\SqT K H p xs/\Xo xs i=some v/\Q v H
def LW:R2:=λx y H Q=>∃ z i c,x=.str z/\y=.int i/\z.length<=sizeLine/\Xo z.cps.toList i=some c/\Q (.str ⟨#[c]⟩) H
theorem BK:IxR X (KW X.K):=by
 intro value slice pins s σ H x y v u Q I rx ry h hs
 obtain⟨p,xs,i,z,rfl,rfl,hq,he,q⟩:=h
 cases rx
 obtain⟨t,rfl⟩:=ry
 obtain⟨its,r,pl,hz⟩:=I.list hq
 obtain⟨j,h1,h2,h3,h4,h5⟩:=Ar he
 obtain⟨w,ew,rw'⟩:=r.get h2
 have hl:=r.length
 have hn:=Vr
 have fin:EP X pins σ Q w s:=⟨z,H,I,rw',q⟩
 by_cases h0:0<=i
 .have hj:i.toNat=j:=by
   rw[seqIndex_of h0 h5]at h1
   exact Option.some.inj h1
  exact item_listR pl.isList h0 (by omega) (by rw[hj];simpa using ew) fin hs
 .have hj:(i+(its.toArray.size:Int)).toNat=j:=by
   rw[seqIndex_neg (by omega) h4]at h1
   rw[size_toArray,<-hl]
   exact Option.some.inj h1
  exact subscriptTail_builtinR (x:=w) pl.isList.typeIs slot_list_getitem.lookup
   (wpAny_getItem_list_neg (Q:=λr s'=>r=w/\EP X pins σ Q r s') pl.isList (by omega) (by rw[size_toArray]<;>omega) (by omega) (by rw[hj];simpa using ew) ⟨rfl,fin⟩) hs
theorem KQ:IxR X (MW X.K):=by
 intro value slice pins s σ H x y v u Q I rx ry h hs
 obtain⟨p,xs,i,z,rfl,rfl,hq,he,q⟩:=h
 cases rx
 obtain⟨t,rfl⟩:=ry
 obtain⟨its,r,pl,hz⟩:=I.tuple hq
 obtain⟨j,h1,h2,h3,h4,h5⟩:=Ar he
 obtain⟨w,ew,rw'⟩:=r.get h2
 have hl:=r.length
 have hn:=Vr
 have fin:EP X pins σ Q w s:=⟨z,H,I,rw',q⟩
 exact subscriptTail_builtinR (x:=w) pl.typeIs slot_tuple_getitem.lookup
  (getItem_tuple (j:=j) (Q:=λr s'=>r=w/\EP X pins σ Q r s') pl (by omega) (by omega) (by rw[size_toArray,<-hl];exact h1) (by simpa using ew) ⟨rfl,fin⟩) hs
theorem JQ:IxR X LW:=by
 intro value slice pins s σ H x y v u Q I rx ry h hs
 obtain⟨z,i,c,rfl,rfl,hz,he,q⟩:=h
 obtain⟨t,rfl⟩:=rx
 obtain⟨t',rfl⟩:=ry
 obtain⟨j,h1,h2,h3,h4,h5⟩:=Ar he
 have hl:z.cps.toList.length=z.length:=by simp[Str.length]
 rw[hl]at h1 h4 h5
 have hn:=Vr
 exact tail_any (typeIs_str s z t) slot_str_getitem.lookup (getItem_str (c:=c) (by
  have e1:decide (i< -(2^63:Int))=false:=decide_eq_false (by omega)
  have e2:decide (i>=2^63)=false:=decide_eq_false (by omega)
  rw[e1,e2,Bool.or_false]) (by rw[h1];simpa using h2) ⟨.str ⟨#[c]⟩,H,I.tok _,⟨_,rfl⟩,q⟩) hs
def Q2(K:Frag):R2:=λx y H Q=>KW K x y H Q\/MW K x y H Q\/LW x y H Q
theorem IQ:IxR X (Q2 X.K):=BK.or (KQ.or JQ)
theorem Ss(lo hi:Option Int)(n:Nat):(sliceBounds lo hi none n).1=((HT.sIx n 0 lo:Nat):Int)/\(sliceBounds lo hi none n).2.1=((HT.sIx n n hi:Nat):Int)/\(sliceBounds lo hi none n).2.2=1:=by
 refine⟨?_,?_,rfl⟩
 .cases lo with
  |none=>simp[sliceBounds,HT.sIx]
  |some i=>
   simp only[sliceBounds,HT.sIx,Option.getD_none,show(1:Int)>0 by decide,if_true]
   by_cases h:i<0
   .simp only[h,if_true]<;>omega
   .simp only[h,if_false]<;>omega
 .cases hi with
  |none=>simp[sliceBounds,HT.sIx]
  |some i=>
   simp only[sliceBounds,HT.sIx,Option.getD_none,show(1:Int)>0 by decide,if_true]
   by_cases h:i<0
   .simp only[h,if_true]<;>omega
   .simp only[h,if_false]<;>omega
theorem Mp(its:List Value)(lo hi:Option Int):slicePick its.toArray lo hi none=((its.drop (HT.sIx its.length 0 lo)).take (HT.sIx its.length its.length hi-HT.sIx its.length 0 lo)).toArray:=by
 obtain⟨h1,h2,h3⟩:=Ss lo hi its.toArray.size
 unfold slicePick
 rw[h1,h2,h3]
 simp only[sliceRange_one,pick_run,size_toArray]<;>rfl
def H0(K:Frag):V->Option Int->Option Int->Hp->VK->Prop:=λx lo hi H Q=>∃ a xs,x=.ref a/\SqL K H a xs/\∀ p,H p=none->Q (.ref p) (Ib H p (.lst (Yz xs lo hi)))
theorem DM:O1 X (H0 X.K):=by
 intro pins s σ H x v vl vu lo hi sl Q I rx hs pl pu h
 obtain⟨a,xs,rfl,hx,q⟩:=h
 cases rx
 obtain⟨its,r,ht,hz⟩:=I.list hx
 have hlen:=r.length
 refine⟨"list",_,slot_list_getitem.lookup,ht.isList.typeIs,?_⟩
 refine wpAny_getItem_list_slice ht.isList hs pl pu .none (by simp) ?_ (by rw[size_toArray]<;>omega)
 rw[Mp,<-hlen]
 refine⟨.ref s.heap.objs.size,_,I.laid (t':=s.toks) (o:=.lst (Yz xs lo hi)) (λb ob q=>get?_push_of_some _ q) (le_refl _) ?_,rfl,q _ (I.hok.fresh (le_refl _))⟩
 exact⟨le_trans (Wt xs lo hi) hz,_,0,(r.drop (HT.sIx xs.length 0 lo)).take (HT.sIx xs.length xs.length hi-HT.sIx xs.length 0 lo),get?_push_size _ rfl⟩
def Qj:V->Bool
 | .non=>true
 | .bl _=>true
 | .int _=>true
 | .str _=>true
 |_=>false
def Fy:V->V->Bool
 | .non,.non=>true
 | .bl a,.bl b=>a==b
 | .bl a,.int b=>(if a then 1 else 0)==b
 | .int a,.bl b=>a==(if b then 1 else 0)
 | .int a,.int b=>a==b
 | .str a,.str b=>a==b
 |_,_=>false
theorem VP{A:Around}{s:Shared}{y x:V}{u v:Value}(ry:RelV y u)(rx:RelV x v)(fy:Qj y=true)(fx:Qj x=true):SeqAt.EqAt A s u v (Fy y x):=by
 cases y with
 |non=>
  cases ry
  cases x with
  |non=>cases rx;exact SeqAt.EqAt.same _
  |bl b=>cases rx;exact SeqAt.EqAt.none_bool b
  |int b=>obtain⟨t,rfl⟩:=rx;exact SeqAt.EqAt.none_int b t
  |str b=>obtain⟨t,rfl⟩:=rx;exact SeqAt.EqAt.none_str b t
  |_=>exact absurd (show false=true from fx) Bool.false_ne_true
 |bl a=>
  cases ry
  cases x with
  |non=>cases rx;exact SeqAt.EqAt.bool_none a
  |bl b=>cases rx;exact SeqAt.EqAt.bool_bool a b
  |int b=>obtain⟨t,rfl⟩:=rx;exact SeqAt.EqAt.bool_int a b t
  |str b=>obtain⟨t,rfl⟩:=rx;exact SeqAt.EqAt.bool_str a b t
  |_=>exact absurd (show false=true from fx) Bool.false_ne_true
 |int a=>
  obtain⟨t',rfl⟩:=ry
  cases x with
  |non=>cases rx;exact SeqAt.EqAt.int_none a t'
  |bl b=>cases rx;exact SeqAt.EqAt.int_bool a t' b
  |int b=>obtain⟨t,rfl⟩:=rx;exact SeqAt.EqAt.int_int a t' b t
  |str b=>obtain⟨t,rfl⟩:=rx;exact SeqAt.EqAt.int_str a t' b t
  |_=>exact absurd (show false=true from fx) Bool.false_ne_true
 |str a=>
  obtain⟨t',rfl⟩:=ry
  cases x with
  |non=>cases rx;exact SeqAt.EqAt.str_none a t'
  |bl b=>cases rx;exact SeqAt.EqAt.str_bool a t' b
  |int b=>obtain⟨t,rfl⟩:=rx;exact SeqAt.EqAt.str_int a t' b t
  |str b=>obtain⟨t,rfl⟩:=rx;exact SeqAt.EqAt.str_str a t' b t
  |_=>exact absurd (show false=true from fx) Bool.false_ne_true
 |_=>exact absurd (show false=true from fy) Bool.false_ne_true
def GJ(x:V)(u:Value):Bool:=match u with
 | .none=>Fy .non x
 | .bool b=>Fy (.bl b) x
 | .int i _=>Fy (.int i) x
 | .str z _=>Fy (.str z) x
 |_=>false
theorem HD{x y:V}{u:Value}(r:RelV y u)(f:Qj y=true):GJ x u=Fy y x:=by
 cases y with
 |non=>cases r;rfl
 |bl b=>cases r;rfl
 |int i=>obtain⟨t,rfl⟩:=r;rfl
 |str z=>obtain⟨t,rfl⟩:=r;rfl
 |_=>exact absurd (show false=true from f) Bool.false_ne_true
theorem Xq{x:V}:∀ {xs:List V} {us:List Value},Vals xs us->xs.all Qj=true->us.any (GJ x)=xs.any λy=>Fy y x
 |_,_,.nil,_=>rfl
 |y::xs,u::us,.cons r t,f=>by
  rw[all_cons,and_eq_true]at f
  rw[List.any_cons,List.any_cons,HD r f.1,Xq t f.2]
theorem Co{A:Around}{s:Shared}{x:V}{v:Value}(rx:RelV x v)(fx:Qj x=true):∀ {xs:List V} {us:List Value},Vals xs us->xs.all Qj=true->∀ u∈us,SeqAt.EqAt A s u v (GJ x u)
 |_,_,.nil,_=>λu hu=>by cases hu
 |y::xs,u::us,.cons r t,f=>λu' hu=>by
  rw[all_cons,and_eq_true]at f
  rcases mem_cons.mp hu with rfl|hu
  .rw[HD r f.1];exact VP r rx f.1 fx
  .exact Co rx fx t f.2 u' hu
def ZX(x:V)(xs:List V):Bool:=xs.any λy=>Fy y x
def T1(K:Frag)(neg:Bool):R2:=λx y H Q=>∃ p xs,y=.ref p/\(SqL K H p xs\/SqT K H p xs)/\Qj x=true/\xs.all Qj=true/\Q (.bl (if neg then !ZX x xs else ZX x xs)) H
theorem KB:OpR X (compareOp .In) (T1 X.K false):=by
 intro pins s σ H x y v u Q I rx ry h
 obtain⟨p,xs,rfl,hq,fx,fs,q⟩:=h
 cases ry
 rcases hq with hq|hq
 .obtain⟨its,r,pl,hz⟩:=I.list hq
  refine SeqAt.in_listAt (GJ x) pl.isList (λw hw=>Co rx fx r fs w (by simpa using hw)) ⟨.bl _,H,I,rfl,?_⟩
  rw[show its.toArray.any (GJ x)=its.any (GJ x) by simp,Xq r fs]
  exact q
 .obtain⟨its,r,pl,hz⟩:=I.tuple hq
  refine SeqAt.in_tupleAt (GJ x) pl (λw hw=>Co rx fx r fs w (by simpa using hw)) ⟨.bl _,H,I,rfl,?_⟩
  rw[show its.toArray.any (GJ x)=its.any (GJ x) by simp,Xq r fs]
  exact q
theorem Er:Xl X (.type "list") (λxs H Q=>∃ p ys,xs= [.ref p]/\(SqL X.K H p ys\/SqT X.K H p ys)/\∀ l,H l=none->Q (.ref l) (Ib H l (.lst ys))):=by
 intro pins s σ H xs us Q I r h
 obtain⟨p,ys,rfl,hq,q⟩:=h
 obtain⟨u,rfl,rx⟩:=VG r
 cases rx
 have fin:∀ (its:List Value),Vals ys its->ys.length<=sizeLine->∀ (h':Heap) (c':Nat),(∀ b o',s.heap.get? b=some o'->h'.get? b=some o')->
   h'.get? s.heap.objs.size=some {cls:=.type "list",dict:=none,data:=.seq its.toArray c',slots:= #[]}->EP X pins σ Q (.ref s.heap.objs.size) {s with heap:=h'}:=λits r' hz h' c' kp e=>
  ⟨.ref s.heap.objs.size,_,I.laid (t':=s.toks) kp (le_refl _) (show ObjOk X.prog X.w _ h' _ (.lst ys) from⟨hz,its,c',r',e⟩),rfl,q _ (I.hok.fresh (le_refl _))⟩
 rcases hq with hq|hq
 .obtain⟨its,r',pl,hz⟩:=I.list hq
  have hlen:=r'.length
  obtain⟨o,ho,hc,n,hd⟩:=pl.isList
  exact call_list_seq p (.inl rfl) ho hc hd (λh' c' kp e=>fin its r' hz h' c' kp e) (by simp only[size_toArray]<;>omega)
 .obtain⟨its,r',pl,hz⟩:=I.tuple hq
  have hlen:=r'.length
  obtain⟨o,ho,hc,n,hd⟩:=pl
  exact call_list_seq p (.inr rfl) ho hc hd (λh' c' kp e=>fin its r' hz h' c' kp e) (by simp only[size_toArray]<;>omega)
def G1(K:Frag)(T:String)(x:V)(H:Hp):Prop:=match x with
 | .str _=>T="str"
 | .int _=>T="int"
 | .ref p=>(T="list"/\∃ xs,SqL K H p xs)\/(T="tuple"/\∃ o,K.lookup p=some o/\o.cls=.type "tuple"/\o.dict=none)\/
   (T="dict"/\((∃ kvs,H p=some (.dK kvs))\/∃ kvs,H p=some (.dT kvs)))\/(T="set"/\∃ S n,H p=some (.set S n))
 |_=>False
theorem RG{pins:List (Addr×Obj)}{σ:St}{H:Hp}{s:Shared}{T:String}{x:V}{v:Value}(I:Inv X pins σ H s)(r:RelV x v)(ty:G1 X.K T x H):
  s.TypeIs v T/\∀ a,v=.ref a->∃ ob,s.heap.get? a=some ob/\ob.dict=none:=by
 cases x with
 |str z=>
  obtain⟨t,rfl⟩:=r
  cases (show T="str" from ty)
  exact⟨typeIs_str s z t,λ_ e=>nomatch e⟩
 |int i=>
  obtain⟨t,rfl⟩:=r
  cases (show T="int" from ty)
  exact⟨typeIs_int s i t,λ_ e=>nomatch e⟩
 |ref p=>
  cases r
  rcases ty with⟨rfl,xs,hq⟩|⟨rfl,o,hk,hc,hd⟩|⟨rfl,hk⟩|⟨rfl,S,n,hk⟩
  .obtain⟨its,_,pl,_⟩:=I.list hq
   refine⟨pl.isList.typeIs,λa e=>?_⟩
   cases e
   obtain⟨o,n,e,c,hd,_⟩:=pl
   exact⟨o,e,hd⟩
  .refine⟨⟨o,I.kIn p o hk,hc⟩,λa e=>?_⟩
   cases e
   exact⟨o,I.kIn _ o hk,hd⟩
  .have z:∃ o,s.heap.get? p=some o/\o.ExactDict:=by
    rcases hk with⟨kvs,hk⟩|⟨kvs,hk⟩
    .obtain⟨_,_,_,_,o,_,_,e,ex,_⟩:=I.hok p _ hk
     exact⟨o,e,ex⟩
    .obtain⟨_,_,_,_,o,_,_,e,ex,_⟩:=I.hok p _ hk
     exact⟨o,e,ex⟩
   obtain⟨o,e,ex⟩:=z
   refine⟨⟨o,e,ex.1⟩,λa e2=>?_⟩
   cases e2
   exact⟨o,e,ex.2.1⟩
  .obtain⟨o,_,_,_,e,ex,_⟩:=I.hok p _ hk
   refine⟨⟨o,e,ex.1⟩,λa e2=>?_⟩
   cases e2
   exact⟨o,e,ex.2.1⟩
 |_=>exact False.elim ty
def Q0(K:Frag)(T:String)(r:V->List V->Hp->VK->Prop)(to:TE):TE:=λσ H Q=>to σ H λx H1=>G1 K T x H1/\r x [] H1 Q
def B3(K:Frag)(T:String)(r:V->List V->Hp->VK->Prop)(to:TE)(t:TA):TE:=λσ H Q=>to σ H λx H1=>G1 K T x H1/\t σ H1 λxs H2=>r x xs H2 Q
variable {o e:Expr}{es:List Expr}{to:TE}{t:TA}{name:Str}{apos cpos:Pos}{T id:String}{r:V->List V->Hp->VK->Prop}
theorem OR(pa:PlainAttrs T)(slot:Slot T name id)(hty:typeOf (.builtin id)=pure (.type "method_descriptor"))(hm:NU X id r)(ho:PE X o to)(hbase:attributeBase o name X.env (eval o X.env)=eval o X.env:=by rfl)(hline:(apos.endLine==cpos.line)=true:=by rfl):PE X (.Call (.Attribute o name apos) [] [] cpos) (Q0 X.K T r to):=by
 intro pins s σ H Q I h
 refine wpAny_Call_method0_late hbase hline (Yc (ho pins s σ H _ I h) λv s1 ⟨x,H1,I1,r1,ty,q1⟩=>?_)
 obtain⟨h1,h2⟩:=RG I1 r1 ty
 exact⟨T,id,pa,slot,hty,h1,h2,Calls.callWith_builtin rfl (PySem.evalArgs_none (hm pins s1 σ H1 x [] v [] Q I1 r1 .nil q1))⟩
theorem FN(pa:PlainAttrs T)(slot:Slot T name id)(hty:typeOf (.builtin id)=pure (.type "method_descriptor"))(hm:NU X id r)(ho:PE X o to)(ha:PA X (e::es) t)(hbase:attributeBase o name X.env (eval o X.env)=eval o X.env:=by rfl)(hfew:((backTo cpos (starEach (e::es) X.env)).all (λx=> !x.1)&&(backToKw cpos (keywordEach [] X.env)).all (λx=>x.1.isSome)
   &&decide ((e::es).length+([]:List Keyword).length+(if([]:List Keyword).isEmpty then 0 else 1)<30))=true:=by rfl)(hline:(apos.endLine==cpos.line)=true:=by rfl)(hs:starEach (e::es) X.env=(false,eval e X.env)::starEach es X.env:=by rfl)(hplain:(backTo cpos (starEach es X.env)).any (·.1)=false:=by rfl):
  PE X (.Call (.Attribute o name apos) (e::es) [] cpos) (B3 X.K T r to t):=by
 intro pins s σ H Q I h
 refine wpAny_Call_method_late hbase hfew hline rfl (Yc (ho pins s σ H _ I h) λv s1 ⟨x,H1,I1,r1,ty,q1⟩=>?_)
 obtain⟨h1,h2⟩:=RG I1 r1 ty
 refine⟨T,id,pa,slot,hty,h1,h2,?_⟩
 have hA:=ha cpos pins s1 σ H1 _ I1 q1
 rw[hs]at hA ⊢
 refine Calls.callWith_builtin (by show(false||(backTo cpos (starEach es X.env)).any (·.1))=false;rw[hplain]<;>rfl) (Calls.evalArgs_plain ?_)
 exact Yc hA λus s2 ⟨vs,H2,I2,r2,q2⟩=>hm pins s2 σ H2 x vs v us Q I2 r1 r2 q2
/- xs.append(e),list.index on a module's tuple .. are NU facts of 06m -/
end
def M1(X:Cx)(id:String)(r:V->List V->Hp->VK->Prop):Prop:=
 ∀ (pins:List (Addr×Obj)) (s:Shared) (σ:St) (H:Hp) (x:V) (xs:List V) (v:Value) (us:List Value) (Q:VK),Inv X pins σ H s->RelV x v->Vals xs us->r x xs H Q->
  wpAny (model X.prog X.w) X.A (call (.builtin id) (v::us)) (EP X pins σ Q) X.xe s
theorem Vals.one:∀ {x:V} {us:List Value},Vals [x] us->∃ u,us= [u]/\RelV x u
 |_,_,.cons r .nil=>⟨_,rfl,r⟩
theorem Vals.two:∀ {x y:V} {us:List Value},Vals [x,y] us->∃ u v,us= [u,v]/\RelV x u/\RelV y v
 |_,_,_,.cons r (.cons q .nil)=>⟨_,_,rfl,r,q⟩
theorem Vals.zero:∀ {us:List Value},Vals [] us->us= []
 |_,.nil=>rfl
theorem Vals.dropLast{xs:List V}{us:List Value}(h:Vals xs us):Vals xs.dropLast us.dropLast:=by
 induction h with
 |nil=>exact .nil
 |cons r t ih=>
  cases t with
  |nil=>exact .nil
  |cons q t'=>exact .cons r ih
theorem Vals.eraseIdx:∀ {xs:List V} {us:List Value} (i:Nat),Vals xs us->Vals (xs.eraseIdx i) (us.eraseIdx i)
 |_,_,_,.nil=>.nil
 |_,_,0,.cons _ t=>t
 |_,_,i+1,.cons r t=>.cons r (Vals.eraseIdx i t)
theorem Vals.rep{xs:List V}{us:List Value}(h:Vals xs us):∀ k:Nat,Vals (replicate k xs).flatten (replicate k us).flatten
 |0=>.nil
 |k+1=>by
  rw[replicate_succ,replicate_succ,flatten_cons,flatten_cons]
  exact Vals.append h (Vals.rep h k)
theorem Sw{α:Type}(l:List α):l.eraseIdx (l.length-1)=l.dropLast:=by
 induction l with
 |nil=>rfl
 |cons a r ih=>
  cases r with
  |nil=>rfl
  |cons b r=>
   have e:(a::b::r).length-1=((b::r).length-1)+1:=by
    have h1:(a::b::r).length=r.length+2:=rfl
    have h2:(b::r).length=r.length+1:=rfl
    omega
   rw[e,List.eraseIdx_cons_succ,ih]
   all_goals rfl
theorem Zp(its:List Value):∀ (k:Nat) (acc:List Value),
  List.foldl (λx1 x2=>x1++x2) acc.toArray (replicate k its.toArray)=(acc++(replicate k its).flatten).toArray
 |0,acc=>by simp
 |k+1,acc=>by
  have e:acc.toArray++its.toArray=(acc++its).toArray:=by simp
  have e2:(acc++its)++(replicate k its).flatten=acc++(replicate (k+1) its).flatten:=by
   rw[replicate_succ,flatten_cons,append_assoc]
  rw[<-e2,<-Zp its k (acc++its),<-e,replicate_succ,foldl_cons]
section
variable {X:Cx}{pins:List (Addr×Obj)}{σ:St}{H:Hp}{s:Shared}{l b:Addr}{xs ys zs:List V}
theorem Inv.lset{its its':List Value}{n:Nat}{f:Array Value->Array Value}{t':Nat}(I:Inv X pins σ H s)(hH:H l=some (.lst xs))(e:s.heap.get? l=some {cls:=.type "list",data:=.seq its.toArray n})(hf:f its.toArray=its'.toArray)(hv:Vals ys its')(hz:ys.length<=sizeLine):
  Inv X pins σ (Ib H l (.lst ys)) {s with heap:=s.heap.update l (Obj.mapSeq f),toks:=t'}:=by
 have q:=PySem.IsL.update e f
 rw[hf]at q
 refine I.write (x:=l) (e:=l) (by rw[hH];exact trivial) (.inl rfl) (λb' u hb hu=>(Heap.get?_update_other s.heap (Obj.mapSeq f) (Ne.symm hb)).trans hu) ⟨_,q⟩ ?_
 exact⟨hz,its',_,hv,q⟩
theorem Inv.lnew{its:List Value}{t':Nat}(I:Inv X pins σ H s)(hv:Vals ys its)(hz:ys.length<=sizeLine):
  Inv X pins σ (Ib H s.heap.objs.size (.lst ys)) {s with heap:=s.heap.push {cls:=.type "list",data:=.seq its.toArray},toks:=t'}:=
 I.laid (λ_ _ q=>get?_push_of_some _ q) (le_refl _) ⟨hz,its,0,hv,get?_push_size _ rfl⟩
theorem Inv.fresh(I:Inv X pins σ H s):H s.heap.objs.size=none:=I.hok.fresh (le_refl _)
theorem Inv.lstM(I:Inv X pins σ H s)(hH:H l=some (.lst xs)):xs.length<=sizeLine/\∃ (its:List Value) (n:Nat),Vals xs its/\xs.length=its.length/\s.heap.get? l=some {cls:=.type "list",data:=.seq its.toArray n}:=by
 obtain⟨z,its,n,r,e⟩:=I.hok l _ hH
 exact⟨z,its,n,r,r.length,e⟩
theorem GF{n:Nat}(h:n<=sizeLine):Builtin.List.listTooLong n=false:=by
 unfold Builtin.List.listTooLong
 exact decide_eq_false (by omega)
end
section
variable {X:Cx}
def SL:V->List V->Hp->VK->Prop:=λx vs H Q=>∃ l xs y,x=.ref l/\vs= [y]/\H l=some (.lst xs)/\xs.length<sizeLine/\Q .non (Ib H l (.lst (xs++ [y])))
theorem Kq:M1 X "list.append" SL:=by
 intro pins s σ H x vs v us Q I rx rv h
 obtain⟨l,xs,y,rfl,rfl,hH,hz,q⟩:=h
 cases rx
 obtain⟨u,rfl,ru⟩:=rv.one
 obtain⟨z,its,n,r,hl,e⟩:=I.lstM hH
 refine call_meets F.slot_list_append ⟨_,e,rfl⟩ F.entry_list_append (F.args_list_append_2 _ _) (PySem.list_append l its.toArray n u (by rw[size_toArray];omega)) ⟨e,?_⟩
 refine⟨.non,_,I.lset (its':=its++ [u]) hH e (by simp) (r.append (.cons ru .nil)) ?_,rfl,q⟩
 rw[length_append,length_singleton]
 omega
def G0:V->List V->Hp->VK->Prop:=λx vs H Q=>∃ l xs y,x=.ref l/\vs= []/\H l=some (.lst xs)/\xs[xs.length-1]? =some y/\Q y (Ib H l (.lst xs.dropLast))
theorem YQ:M1 X "list.pop" G0:=by
 intro pins s σ H x vs v us Q I rx rv h
 obtain⟨l,xs,y,rfl,rfl,hH,hy,q⟩:=h
 cases rx
 have hus:=rv.zero
 subst hus
 obtain⟨z,its,n,r,hl,e⟩:=I.lstM hH
 obtain⟨u,hu,ru⟩:=r.get hy
 have hy':its.toArray[its.toArray.size-1]? =some u:=by
  show its.toArray[its.length-1]? =some u
  rw[<-getElem?_toList,<-hl]
  exact hu
 refine call_meets F.slot_list_pop ⟨_,e,rfl⟩ F.entry_list_pop (F.args_list_pop_1 _) (MeetsSeq.list_pop_last l its.toArray n u hy' (by rw[size_toArray];omega)) ⟨e,?_⟩
 refine⟨y,_,I.lset (its':=its.dropLast) hH e ?_ r.dropLast ?_,ru,q⟩
 .show its.toArray.eraseIdxIfInBounds (its.toArray.size-1)=its.dropLast.toArray
  rw[size_toArray,List.eraseIdxIfInBounds_toArray,Sw]
 .rw[List.length_dropLast]
  omega
theorem Sy{α:Type}(xs:List α)(k:Nat):(replicate k xs).flatten.length=k*xs.length:=by
 induction k with
 |zero=>simp
 |succ k ih=>rw[replicate_succ,flatten_cons,length_append,ih,Nat.succ_mul,Nat.add_comm]
end
section
variable {prog:Program}{w:World}{A:Around}{E:Value->Shared->Prop}{s:Shared}
end
section
variable {X:Cx}
end
end L2
namespace Att
open PySem PySem.W PySem.Calls PyProof.Rows
theorem Lm{P:Params}{h:Heap}:∀ (ns:List Int) (vs:List Value),WellAll P h vs (ns.map WData.int)->IntsAre vs ns:=by
 intro ns
 induction ns with
 |nil=>
  intro vs w
  rw[map_nil]at w
  cases w
  exact .nil
 |cons n ns ih=>
  intro vs w
  rw[map_cons]at w
  cases w with
  |cons a b=>
   cases a
   exact .cons _ _ (ih _ b)
theorem TB{l:OpenLaw}{n:Nat}(hn:l.most=some n){P:Params}{h:Heap}{args:List WData}{vals:List Value}(hpre:l.row.toRowW.claim.pre args=true)(hwl:WellAll P h vals args):
  ∃ a vs ns,vals= [Value.ref a]/\args= [WData.list (ns.map WData.int)]/\h.get? a=some {cls:=.type "list",data:=.seq vs.toArray}/\IntsAre vs ns/\ns.length<=n:=by
 have hsh:WShape.hasAll [] args [.list .int]=true:=(pre_splitW hpre).1
 have hc:l.pre.holds [] {args:=args}=true:=(pre_splitW hpre).2
 obtain⟨d,r,rfl,h1,h2⟩:=hasAllW_cons hsh
 obtain rfl:=hasAllW_nil h2
 obtain⟨xs,rfl,h3⟩:=hasW_list h1
 obtain⟨ns,rfl⟩:=items_int h3
 have hlen:ns.length<=n:=by
  unfold OpenLaw.pre at hc
  have h4:(WTm.not (.lt (.lit (.int (n:Int))) (.len (.arg 0)))).holds [] {args:= [.list (ns.map .int)]}=true:=by
   have h4:=(holds_andW hc).1
   rw[hn]at h4
   exact h4
  have h5:=condW_of h4 (w_not (w_lt w_lit (w_len_list (w_arg rfl))))
  rw[length_map]at h5
  refine Nat.le_of_not_lt λq=>?_
  have q':(n:Int)<((ns.length:Nat):Int):=by omega
  first
   |(rw[decide_eq_true q']at h5;exact absurd h5 (by decide))
   |(simp at h5;omega)
 cases hwl with
 |cons w1 w2=>
  cases w2
  cases w1 with
  |list ho hall=>exact⟨_,_,ns,rfl,rfl,ho,Lm ns _ hall,hlen⟩
theorem PB(l:OpenLaw)(args:List WData):l.row.toRowW.claim.post args (.bool true) args=true:=
 postW_of (r:=l.row.toRowW) (X:=(true==true))
  (show WShape.has [] (.bool true) .bool=true by first|rfl|decide|simp[WShape.has,WShape.arms,WShape.armsAll])
  (show(WTm.eq .res (.lit (.bool true))).value [] {args:=args,res:=some (.bool true),after:=args}=some (.bool (true==true)) from w_eq_bool (w_res rfl) w_lit) rfl
theorem attach_call{l:OpenLaw}{n:Nat}{q:Program}{loose:List Str}{XP:(Str->Option Value)->Heap->Prop}{YP:World->Heap->Prop}{d:DefRec}(hn:l.most=some n)(hdf:d.params.defaults= [])(call:∀ (w:World) (s₀ s₁:Shared) (mg mb:Str->Option Value) (fa:Addr) (o:Obj) (pm cd doc:Value) (a:Addr) (vs:List Value) (ns:List Int),
   Ground q loose [] XP w s₀ mg mb s₁.heap->YP w s₁.heap->
   s₁.heap.get? fa=some o->o.data=.func (docDef d.name d.params d.body d.scope pm cd doc)->s₁.heap.CodeRec cd d.name->mg d.name=some (.ref fa)->
   s₁.heap.get? a=some {cls:=.type "list",data:=.seq vs.toArray}->IntsAre vs ns->ns.length<=n->s₁.gens= #[]->
   codeAny (model l.prog w) callerA (.call (.ref fa) ⟨[.ref a],[]⟩) (λr s'=>r=.ok (.ret (.bool true))/\OldK s₁.heap s'.heap/\s'.os=s₁.os/\AllBare s'.gens) s₁):
  WalkO q loose XP YP l.row.toRowW d [] (λf vs=>PySem.call f vs):=by
 intro w s₀ s₁ mg mb G Y fa o pm cd doc dV kV ho hd hcd hD hmg hg args vals as hpre hlay hrd hwl hlo
 obtain rfl:dV=.none:=Dflts.none hD hdf
 obtain rfl:kV=.none:=Dflts.noKw hD
 obtain⟨a,vs,ns,rfl,rfl,hobj,hints,hlen⟩:=TB hn hpre hwl
 refine enter_call (codeAny_mono (call w s₀ s₁ mg mb fa o pm cd doc a vs ns G Y ho (fd_plain hd) hcd hmg hobj hints hlen hg) λr s' hq=>?_)
 obtain⟨rfl,h2,h3,h4⟩:=hq
 exact⟨.inl ⟨.bool true,.bool true,[],rfl,λ_=>rfl,.bool true,PB l _,λ_=>⟨Pairwise.nil,λ_ hm=>(nomatch hm)⟩⟩,h2,h3,h4⟩
section
variable {prog:Program}{w:World}{A:Around}{E:Value->Shared->Prop}{s:Shared}{K:Frag}
end
end Att
namespace L2
open PySem PySem.Spec PyProof.Rows
theorem vals_ints:∀ {vs:List Value} {ns:List Int},IntsAre vs ns->Vals (ns.map V.int) vs
 |_,_,.nil=>.nil
 |_,_,.cons n t h=>.cons ⟨t,rfl⟩ (vals_ints h)
end L2
/- THE LAST THEOREM (shape; LID, My.* are yours):
   My.Adr: a structure of the addresses that your layer names (classes, functions); My.Txt K t: a structure (Prop) of the equations over K;
   My.txt_mk : {K} {implicit addresses ..} (e1 : nsIn K mainGlobals "law" = some (some (.ref f))) (e2 : K.lookup f = some ⟨oc, od,.func (fnOf "law" "law" params body scope dV kV doc pm an cdv ct), sl⟩) (e3 : codeIn K cdv "law" = true) .. : ∃ t, My.Txt K t
(the tactic k_is has no namespace: write k_is) -/
namespace L2
open PySem PySem.Spec PyProof.Rows
def VJ(s:Stmt)(j:Nat):Stmt:=match s with
 | .ClassDef _ _ _ body _ _ _ _ _ _ _=>body.getD j (.Pass ⟨0,0,0,0⟩)
 |_=>.Pass ⟨0,0,0,0⟩
def Gb(s:Stmt):Arguments:=match s with
 | .FunctionDef _ a _ _ _ _ _ _ _ _=>a
 |_=> {posonlyargs:= [],args:= [],vararg:=none,kwonlyargs:= [],kw_defaults:= [],kwarg:=none,defaults:= []}
def Bb(s:Stmt):List Stmt:=match s with
 | .FunctionDef _ _ b _ _ _ _ _ _ _=>b
 |_=> []
def Ca(s:Stmt):Scope:=match s with
 | .FunctionDef _ _ _ _ _ _ sc _ _ _=>sc
 |_=> {kind:=.function,names:= [],isGenerator:=false,isCoroutine:=false}
abbrev Qm:Dw:=λ_ _ _ _ _ _=>False
abbrev E0:XK:=λ_ _ _=>False
theorem EN{X:Cx}:Cn Qm X E0:=λ_ _ _ _ _ _ _ h=>h.elim
structure Fun(K:Frag)(x qual:Str)(st:Stmt)(f:Addr)(fd:FuncData):Prop where
 ex:∃ (oc:Value) (od:Option Addr) (kV doc pm:Value) (an:Option Addr) (cdv ct:Value) (osl:Array (Option Value)),
  fd=fnOf x qual (Gb st) (Bb st) (Ca st) .none kV doc pm an cdv ct/\K.lookup f=some ⟨oc,od,.func fd,osl⟩/\codeIn K cdv qual=true
 kp:keepIn K (.ref f)=true
section
variable {P:Program}{w:World}{K:Frag}{mg:Str->Option Value}{base:Heap}
theorem Fun.ok{x qual:Str}{st:Stmt}{f:Addr}{fd:FuncData}{N ps:List Str}{k:Nat}{sp:Sp}(F:Fun K x qual st f fd)(S:FnScope N ps (Ca st))(len:∀ vs H Q E,sp vs H Q E->vs.length=ps.length)(hbody:∀ (cdv:Value) (A:Around) (outer:List Env) (s:Shared) (H:Hp) (vs:List V) (Q:VK) (E:XK),Room k (A.deeper (envOfC qual (Ca st) s.heap.objs.size f cdv))->sp vs H Q E->
   ∃ t,PSs (Km Qm P w K mg base N qual (Ca st) f cdv A outer s H E).nox (Bb st) t/\t {nx:=λ_ H'=>Q .non H',rt:=Q} (start N vs) H):FnOk P w K mg base Qm (k+1) f fd ps sp:=by
 obtain⟨oc,od,kV,doc,pm,an,cdv,ct,osl,rfl,lk,hcd⟩:=F.ex
 refine AN lk hcd S len λA outer s H vs Q E hr hsp=>?_
 obtain⟨t,h,q⟩:=hbody cdv A outer s H vs Q E hr hsp
 exact⟨t,h.nox,q⟩
theorem Fun.binds{x qual:Str}{st:Stmt}{f:Addr}{fd:FuncData}{ps:List Str}(F:Fun K x qual st f fd)(h:∀ (kV doc pm:Value) (an:Option Addr) (cdv ct:Value) (us:List Value),us.length=ps.length->bindArgs (fnOf x qual (Gb st) (Bb st) (Ca st) .none kV doc pm an cdv ct) ⟨us,[]⟩=pure (ps.zip us)):Binds K fd ps []:=by
 obtain⟨oc,od,kV,doc,pm,an,cdv,ct,osl,rfl,lk,hcd⟩:=F.ex
 exact .all (h kV doc pm an cdv ct)
theorem Xb{x qual:Str}{st:Stmt}{f:Addr}{oc:Value}{od an:Option Addr}{osl:Array (Option Value)}{kV doc pm cdv ct:Value}(l:K.lookup f=some ⟨oc,od,.func (fnOf x qual (Gb st) (Bb st) (Ca st) .none kV doc pm an cdv ct),osl⟩)(c:codeIn K cdv qual=true)(k:keepIn K (.ref f)=true):Fun K x qual st f (fnOf x qual (Gb st) (Bb st) (Ca st) .none kV doc pm an cdv ct):=⟨⟨oc,od,kV,doc,pm,an,cdv,ct,osl,rfl,l,c⟩,k⟩
end
section
variable {X:Cx}
theorem pv(i:Nat){x:Str}{pos:Pos}(hN:X.N[i]? =some x:=by rfl)(hv:Bw X.env.scope x:=by first|exact Or.inl rfl|exact Or.inr (Or.inl rfl)|exact Or.inr (Or.inr rfl))(hd:(x==("__debug__":Str))=false:=by decide)(hcd:(x==("__classdict__":Str))=false:=by decide):PE X (.Name x pos) (LX i):=Fh hN hv hd hcd
end
def Same(H H':Hp):Prop:=∀ b o,H b=some o->H' b=some o
theorem Same.refl(H:Hp):Same H H:=λ_ _ h=>h
theorem Same.trans{H H1 H2:Hp}(a:Same H H1)(b:Same H1 H2):Same H H2:=λc o h=>b c o (a c o h)
theorem Same.free{H H':Hp}(e:Same H H'){l:Addr}(h:H' l=Option.none):H l=Option.none:=by
 cases q:H l with
 |none=>rfl
 |some o=>
  rw[e l o q]at h
  cases h
end L2
set_option maxHeartbeats 4000000
namespace L3
open PySem
def Gh:List (Addr×Pos×Str):= [(136,⟨58,44,58,75⟩,"elder_in.<locals>.<lambda>")]
end L3
namespace L3
open PySem PySem.Spec PyProof.Rows L2
inductive D where
 |non|bl (b:Bool)|int (i:Int)|str (x:Str)|tup (ds:List D)|lst (ds:List D)|dct (ks:List Ab) (ds:List D)|exc (c:Str) (ds:List D)|obj (c:Str) (ks:List Str) (ds:List D)
inductive Res(α:Type) where
 |ok (a:α)|ex (c:Str) (fs:List D)|stuck
def Res.bind{α β:Type}(r:Res α)(k:α->Res β):Res β:=match r with
 | .ok a=>k a
 | .ex c fs=>.ex c fs
 | .stuck=>.stuck
theorem Res.bind_ok{α β:Type}(a:α)(k:α->Res β):(Res.ok a).bind k=k a:=rfl
theorem Res.bind_ex{α β:Type}(c:Str)(fs:List D)(k:α->Res β):(Res.ex c fs).bind k=.ex c fs:=rfl
theorem Res.bind_stuck{α β:Type}(k:α->Res β):(Res.stuck:Res α).bind k=.stuck:=rfl
inductive Ch where
 |d (x:D)|l (ds:List D)|q (ks:List Ab) (ds:List D)
inductive Tp where
 |lst|dct (ks:List Ab)|ins (c:Str) (ks:List Str)|tup
inductive S where
 |d (x:D)|o (ds:List D)|q (ks:List Ab) (ds:List D)|w (dss:List (List D))|k (t:Tp) (cs:List Ch)
def MH:Tp->Prop
 | .tup=>False
 |_=>True
def NY:Ch->Prop
 | .d _=>False
 |_=>True
def UJ:HO->List V
 | .lst xs=>xs
 | .tup xs=>xs
 | .dK kvs=>kvs.map (·.2)
 | .ins _ _ fs=>fs.map (·.2)
 |_=> []
def TpOk(K:Frag):Tp->HO->Prop
 | .lst,.lst _=>True
 | .tup,.tup _=>True
 | .dct ks,.dK kvs=>kvs.map (·.1)=ks
 | .ins c ks,.ins C _ fs=>nsIn K mainGlobals c=some (some (.ref C))/\fs.map (·.1)=ks
 |_,_=>False
def Ow:S->Prop
 | .d _=>False
 | .k t _=>MH t
 |_=>True
def Jl:HO->Prop
 | .lst _=>True
 | .dK _=>True
 | .ins _ _ _=>True
 |_=>False
abbrev Ba:=List (Option S)
abbrev Dx:=Option Addr×Bool
def MU(a:Addr)(C:Value)(dx:Dx):Heap->Prop:=λh=>∃ o vs,h.get? a=some o/\o.cls=C/\o.dict=dx.1/\o.data=.fields vs/\(dx.2=true->vs[2]? =some .none)
def UW:D->Option V
 | .non=>some .non
 | .bl b=>some (.bl b)
 | .int i=>some (.int i)
 | .str x=>some (.str x)
 |_=>none
def B2(H:Hp)(x:D)(v:V):Prop:=UW x=some v\/∃ ds a o xs,x=.lst ds/\v=.ref a/\H a=some (.frz o (.lst xs))/\ds.map UW=xs.map some
def ExVs(H:Hp):List D->List V->Prop
 | [],[]=>True
 |x::ds,v::vs=>B2 H x v/\ExVs H ds vs
 |_,_=>False
def ExD(H:Hp)(dx:Option Addr)(ns vs:List D):Prop:=∃ d kvs,dx=some d/\H d=some (.xd kvs)/\ns=kvs.map (λp=>D.str p.1)/\ExVs H vs (kvs.map (·.2))
def ExF0(H:Hp)(dx:Dx):List D->Prop
 | []=>True
 | .tup ns::vs=>ExD H dx.1 ns vs
 |_=>False
def ExF(H:Hp)(dx:Dx):List D->Prop
 | .non::fs=>ExF0 H dx fs
 |fs=>dx.2=true/\ExF0 H dx fs
theorem ExVs.to{H H':Hp}(k:∀ b o u,H b=some (.frz o u)->H' b=some (.frz o u)):∀ {ds:List D} {vs:List V},ExVs H ds vs->ExVs H' ds vs
 | [],[],h=>h
 |_::_,_::_,⟨h,t⟩=>⟨by
   rcases h with h|⟨ds,a,o,xs,e1,e2,e3,e4⟩
   .exact .inl h
   .exact .inr ⟨ds,a,o,xs,e1,e2,k _ _ _ e3,e4⟩,t.to k⟩
 | [],_::_,h=>h.elim
 |_::_,[],h=>h.elim
theorem ExD.to{H H':Hp}{dx:Option Addr}{ns vs:List D}(k:∀ b o u,H b=some (.frz o u)->H' b=some (.frz o u))(k2:∀ b kvs,H b=some (.xd kvs)->H' b=some (.xd kvs))(h:ExD H dx ns vs):ExD H' dx ns vs:=
 let ⟨d,kvs,e1,e2,e3,e4⟩:=h
 ⟨d,kvs,e1,k2 _ _ e2,e3,e4.to k⟩
theorem ExF0.to{H H':Hp}{dx:Dx}(k:∀ b o u,H b=some (.frz o u)->H' b=some (.frz o u))(k2:∀ b kvs,H b=some (.xd kvs)->H' b=some (.xd kvs)){fs:List D}(h:ExF0 H dx fs):ExF0 H' dx fs:=by
 cases fs with
 |nil=>trivial
 |cons y vs=>
  cases y with
  |tup ns=>exact ExD.to k k2 h
  |_=>exact h.elim
theorem ExF.to{H H':Hp}{dx:Dx}(k:∀ b o u,H b=some (.frz o u)->H' b=some (.frz o u))(k2:∀ b kvs,H b=some (.xd kvs)->H' b=some (.xd kvs)){fs:List D}(h:ExF H dx fs):ExF H' dx fs:=by
 cases fs with
 |nil=>exact h
 |cons y vs=>
  cases y with
  |non=>exact ExF0.to (fs:=vs) k k2 h
  |tup ns=>exact⟨h.1,ExF0.to (fs:=.tup ns::vs) k k2 h.2⟩
  |_=>exact h.2.elim
abbrev WS:=Addr->Prop
section
variable (K:Frag)(W:WS)(H:Hp)
def LR(a:Addr)(xs:List V):Prop:=(H a=some (.lst xs)/\¬ W a)\/((∃ o,H a=some (.frz o (.lst xs)))\/∃ (o:Obj) (its:Array Value) (n:Nat),K.lookup a=some o/\o.cls=.type "list"/\o.dict=none/\o.data=.seq its n/\its.size<=sizeLine/\Vals xs its.toList)
mutual
def Has:D->V->Prop
 | .non,v=>v=.non
 | .bl b,v=>v=.bl b
 | .int i,v=>v=.int i
 | .str x,v=>v=.str x
 | .tup ds,v=>∃ a xs,v=.ref a/\SqT K H a xs/\HasL ds xs
 | .lst ds,v=>∃ a xs,v=.ref a/\LR K W H a xs/\HasL ds xs
 | .dct ks ds,v=>∃ a kvs,v=.ref a/\(∃ o,H a=some (.frz o (.dK kvs)))/\kvs.map (·.1)=ks/\HasL ds (kvs.map (·.2))
 | .exc c fs,v=>∃ a C dx,v=.ref a/\nsIn K mainGlobals c=some (some C)/\H a=some (.ext (MU a C dx))/\ExF H dx fs
 | .obj c ks ds,v=>∃ a C dx fs,v=.ref a/\nsIn K mainGlobals c=some (some (.ref C))/\H a=some (.ins C dx fs)/\¬ W a/\fs.map (·.1)=ks/\HasL ds (fs.map (·.2))
def HasL:List D->List V->Prop
 | [],xs=>xs= []
 |d::ds,xs=>∃ x r,xs=x::r/\Has d x/\HasL ds r
end
end
theorem LR.sq{K:Frag}{W:WS}{H:Hp}{a:Addr}{xs:List V}(h:LR K W H a xs):SqL K H a xs:=by
 rcases h with⟨h,_⟩|⟨o,h⟩|h
 .exact .inl (.inl h)
 .exact .inl (.inr ⟨o,h⟩)
 .exact .inr h
def Hh(W:WS)(H H':Hp):Prop:=∀ b o,H b=some o->¬ W b->H' b=some o
structure WL(W:WS)(H:Hp):Prop where
 own:∀ b,W b->∃ o,H b=some o/\Jl o
 tab:∀ q∈Gh,H q.1=some (.tab q.2.1 q.2.2)
instance {W:WS}{H:Hp}:CoeFun (WL W H) (λ_=>∀ b,W b->∃ o,H b=some o/\Jl o):=⟨WL.own⟩
theorem Same.keep{W:WS}{H H':Hp}(h:Same H H'):Hh W H H':=λb o e _=>h b o e
theorem So{K:Frag}{W:WS}{H H':Hp}{a:Addr}{xs:List V}(k:Hh W H H')(w:WL W H)(h:SqT K H a xs):SqT K H' a xs:=by
 have nw:∀ o,H a=some o->¬ Jl o->¬ W a:=λo e n z=>by
  obtain⟨o',e',m⟩:=w a z
  rw[e]at e'
  cases e'
  exact n m
 rcases h with(h|⟨o,h⟩)|h
 .exact .inl (.inl (k _ _ h (nw _ h λz=>z)))
 .exact .inl (.inr ⟨o,k _ _ h (nw _ h λz=>z)⟩)
 .exact .inr h
theorem LR.keep{K:Frag}{W W':WS}{H H':Hp}{a:Addr}{xs:List V}(k:Hh W H H')(w:WL W H)(hw:∀ b,W' b->W b\/H b=none)(h:LR K W H a xs):LR K W' H' a xs:=by
 rcases h with⟨h,n⟩|⟨o,h⟩|h
 .refine .inl ⟨k _ _ h n,λz=>?_⟩
  rcases hw a z with z|z
  .exact n z
  .rw[h]at z;cases z
 .refine .inr (.inl ⟨o,k _ _ h λz=>?_⟩)
  obtain⟨o',e',m⟩:=w a z
  rw[h]at e';cases e';exact m
 .exact .inr (.inr h)
section
variable {K:Frag}{W W':WS}{H H':Hp}
mutual
theorem Has.keep(k:Hh W H H')(w:WL W H)(hw:∀ b,W' b->W b\/H b=none):∀ {d:D} {v:V},Has K W H d v->Has K W' H' d v
 | .non,_,h=>by rw[Has]at h ⊢;exact h
 | .bl _,_,h=>by rw[Has]at h ⊢;exact h
 | .int _,_,h=>by rw[Has]at h ⊢;exact h
 | .str _,_,h=>by rw[Has]at h ⊢;exact h
 | .tup ds,_,h=>by
  rw[Has]at h ⊢
  obtain⟨a,xs,e,q,r⟩:=h
  exact⟨a,xs,e,So k w q,HasL.keep k w hw r⟩
 | .lst ds,_,h=>by
  rw[Has]at h ⊢
  obtain⟨a,xs,e,q,r⟩:=h
  exact⟨a,xs,e,q.keep k w hw,HasL.keep k w hw r⟩
 | .dct ks ds,_,h=>by
  rw[Has]at h ⊢
  obtain⟨a,kvs,e,⟨o,q⟩,m,r⟩:=h
  refine⟨a,kvs,e,⟨o,k _ _ q λz=>?_⟩,m,HasL.keep k w hw r⟩
  obtain⟨o',e',m'⟩:=w a z
  rw[q]at e';cases e';exact m'
 | .exc _ _,_,h=>by
  rw[Has]at h ⊢
  obtain⟨a,C,dx,e,n,q,f⟩:=h
  have nw:∀ b o,H b=some o->¬ Jl o->¬ W b:=λb o q n z=>by
   obtain⟨o',e',m'⟩:=w b z
   rw[q]at e';cases e';exact n m'
  exact⟨a,C,dx,e,n,k _ _ q (nw _ _ q λz=>z),f.to (λb o u q=>k _ _ q (nw _ _ q λz=>z)) λb kvs q=>k _ _ q (nw _ _ q λz=>z)⟩
 | .obj _ _ ds,_,h=>by
  rw[Has]at h ⊢
  obtain⟨a,C,dx,fs,e,n,q,nw,m,r⟩:=h
  refine⟨a,C,dx,fs,e,n,k _ _ q nw,λz=>?_,m,HasL.keep k w hw r⟩
  rcases hw a z with z|z
  .exact nw z
  .rw[q]at z;cases z
theorem HasL.keep(k:Hh W H H')(w:WL W H)(hw:∀ b,W' b->W b\/H b=none):∀ {ds:List D} {xs:List V},HasL K W H ds xs->HasL K W' H' ds xs
 | [],_,h=>by rw[HasL]at h ⊢;exact h
 |d::ds,_,h=>by
  rw[HasL]at h ⊢
  obtain⟨x,r,e,q,t⟩:=h
  exact⟨x,r,e,Has.keep k w hw q,HasL.keep k w hw t⟩
end
theorem Has.same{d:D}{v:V}(h:Has K W H d v)(k:Same H H')(w:WL W H):Has K W H' d v:=Has.keep (Same.keep k) w (λ_ z=>.inl z) h
theorem HasL.same{d:List D}{v:List V}(h:HasL K W H d v)(k:Same H H')(w:WL W H):HasL K W H' d v:=HasL.keep (Same.keep k) w (λ_ z=>.inl z) h
theorem HasL.length:∀ {ds:List D} {xs:List V},HasL K W H ds xs->ds.length=xs.length
 | [],_,h=>by rw[HasL]at h;rw[h];rfl
 |d::ds,_,h=>by
  rw[HasL]at h
  obtain⟨x,r,e,q,t⟩:=h
  rw[e,List.length_cons,List.length_cons,HasL.length t]
theorem HasL.get:∀ {ds:List D} {xs:List V} {i:Nat} {d:D},HasL K W H ds xs->ds[i]? =some d->∃ x,xs[i]? =some x/\Has K W H d x
 | [],_,_,_,_,e=>by simp at e
 |d::ds,_,0,_,h,e=>by
  rw[HasL]at h
  obtain⟨x,r,rfl,q,t⟩:=h
  simp at e;subst e
  exact⟨x,rfl,q⟩
 |d::ds,_,i+1,_,h,e=>by
  rw[HasL]at h
  obtain⟨x,r,rfl,q,t⟩:=h
  obtain⟨y,h1,h2⟩:=HasL.get (i:=i) t (by simpa using e)
  exact⟨y,by simpa using h1,h2⟩
theorem HasL.nil:HasL K W H [] []:=by rw[HasL]
theorem HasL.cons{d:D}{ds:List D}{x:V}{xs:List V}(h:Has K W H d x)(t:HasL K W H ds xs):HasL K W H (d::ds) (x::xs):=by rw[HasL];exact⟨x,xs,rfl,h,t⟩
theorem HasL.append:∀ {ds es:List D} {xs ys:List V},HasL K W H ds xs->HasL K W H es ys->HasL K W H (ds++es) (xs++ys)
 | [],_,_,_,h,t=>by rw[HasL]at h;subst h;exact t
 |d::ds,_,_,_,h,t=>by
  rw[HasL]at h
  obtain⟨x,r,rfl,q,s⟩:=h
  exact HasL.cons q (HasL.append s t)
theorem HasL.take:∀ {ds:List D} {xs:List V} (n:Nat),HasL K W H ds xs->HasL K W H (ds.take n) (xs.take n)
 | [],_,n,h=>by rw[HasL]at h;subst h;simp[HasL]
 |d::ds,_,0,h=>by simp[HasL]
 |d::ds,_,n+1,h=>by
  rw[HasL]at h
  obtain⟨x,r,rfl,q,s⟩:=h
  exact HasL.cons q (HasL.take n s)
theorem HasL.drop:∀ {ds:List D} {xs:List V} (n:Nat),HasL K W H ds xs->HasL K W H (ds.drop n) (xs.drop n)
 | [],_,n,h=>by rw[HasL]at h;subst h;simp[HasL]
 |d::ds,_,0,h=>h
 |d::ds,_,n+1,h=>by
  rw[HasL]at h
  obtain⟨x,r,rfl,q,s⟩:=h
  exact HasL.drop n s
theorem HasL.snoc{ds:List D}{xs:List V}{d:D}{x:V}(h:HasL K W H ds xs)(t:Has K W H d x):HasL K W H (ds++ [d]) (xs++ [x]):=h.append (HasL.cons t HasL.nil)
theorem HasL.set:∀ {ds:List D} {xs:List V} (i:Nat) {d:D} {x:V},HasL K W H ds xs->Has K W H d x->HasL K W H (ds.set i d) (xs.set i x)
 | [],_,n,_,_,h,_=>by rw[HasL]at h;subst h;simp[HasL]
 |e::ds,_,0,_,_,h,t=>by
  rw[HasL]at h
  obtain⟨y,r,rfl,q,s⟩:=h
  exact HasL.cons t s
 |e::ds,_,i+1,_,_,h,t=>by
  rw[HasL]at h
  obtain⟨y,r,rfl,q,s⟩:=h
  exact HasL.cons q (HasL.set i s t)
theorem HasL.ints{ns:List Int}:HasL K W H (ns.map D.int) (ns.map V.int):=by
 induction ns with
 |nil=>exact HasL.nil
 |cons n ns ih=>exact HasL.cons (by rw[Has]) ih
end
def ChHas(K:Frag)(H₀:Hp)(W:WS)(H:Hp):Ch->V->Prop
 | .d x,v=>Has K W H x v
 | .l ds,v=>∃ b xs,v=.ref b/\W b/\H₀ b=none/\H b=some (.lst xs)/\HasL K W H ds xs
 | .q ks ds,v=>∃ b kvs,v=.ref b/\W b/\H₀ b=none/\H b=some (.dK kvs)/\kvs.map (·.1)=ks/\HasL K W H ds (kvs.map (·.2))
def MY(a:Addr)(cs:List Ch)(vs:List V):Prop:=∀ (i:Nat) (c:Ch) (b:Addr),cs[i]? =some c->NY c->vs[i]? =some (.ref b)->b≠a/\∀ (j:Nat) (c':Ch),j≠i->cs[j]? =some c'->NY c'->vs[j]? ≠some (.ref b)
structure FrOk(W₀:WS)(H₀:Hp)(W:WS)(H:Hp):Prop where
 ext:Same H₀ H
 sub:∀ b,W₀ b->W b
 wl:WL W H
 wl0:WL W₀ H₀
def SlotHas(K:Frag)(W₀:WS)(H₀:Hp)(W:WS)(H:Hp):S->V->Prop
 | .d x,v=>Has K W H x v
 | .o ds,v=>∃ a xs,v=.ref a/\W a/\H₀ a=none/\H a=some (.lst xs)/\HasL K W H ds xs
 | .q ks ds,v=>∃ a kvs,v=.ref a/\W a/\H₀ a=none/\H a=some (.dK kvs)/\kvs.map (·.1)=ks/\HasL K W H ds (kvs.map (·.2))
 | .w dss,v=>∃ (a:Addr) (bs:List Addr),v=.ref a/\W a/\H₀ a=none/\H a=some (.lst (bs.map V.ref))/\bs.Nodup/\a∉bs/\bs.length=dss.length/\∀ (k:Nat) (b:Addr) (ds:List D),bs[k]? =some b->dss[k]? =some ds->W b/\H₀ b=none/\∃ xs,H b=some (.lst xs)/\HasL K W H ds xs
 | .k t cs,v=>∃ (a:Addr) (ob:HO),v=.ref a/\H a=some ob/\TpOk K t ob/\(MH t->W a/\H₀ a=none)/\cs.length=(UJ ob).length/\MY a cs (UJ ob)/\∀ (j:Nat) (c:Ch) (x:V),cs[j]? =some c->(UJ ob)[j]? =some x->ChHas K H₀ W H c x
def Owns(H:Hp):S->V->Addr->Prop
 | .d _,_,_=>False
 | .w _,v,b=>v=.ref b\/∃ (a:Addr) (bs:List Addr),v=.ref a/\H a=some (.lst (bs.map V.ref))/\b∈bs
 | .k t cs,v,b=>(MH t/\v=.ref b)\/∃ (a:Addr) (ob:HO) (j:Nat) (c:Ch),v=.ref a/\H a=some ob/\cs[j]? =some c/\NY c/\(UJ ob)[j]? =some (.ref b)
 |_,v,b=>v=.ref b
structure StHas(K:Frag)(W₀:WS)(H₀:Hp)(W:WS)(H:Hp)(σ:L2.St)(δ:Ba):Prop where
 fr:FrOk W₀ H₀ W H
 len:σ.length=δ.length
 at':∀ (i:Nat) (s:S),δ[i]? =some (some s)->∃ v,σ[i]? =some (some v)/\SlotHas K W₀ H₀ W H s v
 ap:∀ (i j:Nat) (s t:S) (u v:V) (b:Addr),i≠j->δ[i]? =some (some s)->δ[j]? =some (some t)->σ[i]? =some (some u)->σ[j]? =some (some v)->Owns H s u b->¬ Owns H t v b
section
variable {K:Frag}{W₀ W:WS}{H₀ H H':Hp}{σ:L2.St}{δ:Ba}
theorem WL.same(w:WL W H)(k:Same H H'):WL W H':=⟨λb z=>let ⟨xs,e,m⟩:=w b z;⟨xs,k _ _ e,m⟩,λq hq=>k _ _ (w.tab q hq)⟩
theorem WL.noW{a:Addr}(w:WL W H)(hW:W a){q:Addr×Pos×Str}(hq:q∈Gh):q.1≠a:=λz=>by
 obtain⟨o,e,m⟩:=w a hW
 rw[<-z,w.tab q hq]at e;cases e;exact m
theorem FrOk.same(f:FrOk W₀ H₀ W H)(k:Same H H'):FrOk W₀ H₀ W H':=⟨f.ext.trans k,f.sub,f.wl.same k,f.wl0⟩
theorem TpOk.mut{t:Tp}{ob:HO}(h:TpOk K t ob)(m:MH t):Jl ob:=by
 cases t<;>cases ob<;>first|exact h.elim|exact m.elim|trivial
theorem TpOk.tup{t:Tp}{ob:HO}(h:TpOk K t ob)(m:¬ MH t):∃ xs,ob=.tup xs:=by
 cases t<;>cases ob<;>first|exact h.elim|exact(m trivial).elim|exact⟨_,rfl⟩
theorem ChHas.same{c:Ch}{v:V}(w:WL W H)(k:Same H H')(h:ChHas K H₀ W H c v):ChHas K H₀ W H' c v:=by
 cases c with
 |d x=>exact Has.same h k w
 |l ds=>
  obtain⟨a,xs,e,h1,h2,h3,h4⟩:=h
  exact⟨a,xs,e,h1,h2,k _ _ h3,h4.same k w⟩
 |q ks ds=>
  obtain⟨a,xs,e,h1,h2,h3,h4,h5⟩:=h
  exact⟨a,xs,e,h1,h2,k _ _ h3,h4,h5.same k w⟩
theorem SlotHas.same{s:S}{v:V}(w:WL W H)(k:Same H H')(h:SlotHas K W₀ H₀ W H s v):SlotHas K W₀ H₀ W H' s v:=by
 cases s with
 |d x=>exact Has.same h k w
 |o ds=>
  obtain⟨a,xs,e,h1,h2,h3,h4⟩:=h
  exact⟨a,xs,e,h1,h2,k _ _ h3,h4.same k w⟩
 |q ks ds=>
  obtain⟨a,xs,e,h1,h2,h3,h4,h5⟩:=h
  exact⟨a,xs,e,h1,h2,k _ _ h3,h4,h5.same k w⟩
 |w dss=>
  obtain⟨a,bs,e,h1,h2,h3,h4,h5,h6,h7⟩:=h
  exact⟨a,bs,e,h1,h2,k _ _ h3,h4,h5,h6,λj b ds e1 e2=>let ⟨g1,g2,xs,g3,g4⟩:=h7 j b ds e1 e2;⟨g1,g2,xs,k _ _ g3,g4.same k w⟩⟩
 |k t cs=>
  obtain⟨a,ob,e,h1,h2,h3,h4,h5,h6⟩:=h
  exact⟨a,ob,e,k _ _ h1,h2,h3,h4,h5,λj c x e1 e2=>(h6 j c x e1 e2).same w k⟩
theorem Mo:∀ {bs cs:List Addr},bs.map V.ref=cs.map V.ref->bs=cs
 | [],[],_=>rfl
 | [],_::_,h=>by cases h
 |_::_,[],h=>by cases h
 |b::bs,c::cs,h=>by
  rw[map_cons,map_cons]at h
  injection h with h1 h2
  injection h1 with h1
  rw[h1,Mo h2]
theorem Owns.back{s:S}{v:V}{b:Addr}(h:SlotHas K W₀ H₀ W H s v)(k:∀ a o,v=.ref a->H a=some o->(Owns H s v a/\Jl o)\/(∃ xs,o=.tup xs)->H' a=some o)(o:Owns H' s v b):Owns H s v b:=by
 cases s with
 |d x=>exact o
 |o ds=>exact o
 |q ks ds=>exact o
 |w dss=>
  rcases o with o|⟨a,bs,e,hb,m⟩
  .exact .inl o
  .obtain⟨a',bs',e',_,_,h3,_⟩:=h
   rw[e]at e';cases e'
   have:=k a _ e h3 (.inl ⟨.inl e,trivial⟩)
   rw[hb]at this
   injection this with this
   injection this with this
   rw[Mo this]at m
   exact .inr ⟨a,bs',e,h3,m⟩
 |k t cs=>
  rcases o with o|⟨a,ob,j,c,e,hb,hc,co,hj⟩
  .exact .inl o
  .obtain⟨a',ob',e',h1,h2,_⟩:=h
   rw[e]at e';cases e'
   have:=k a ob' e h1 (by
    by_cases m:MH t
    .exact .inl ⟨.inl ⟨m,e⟩,h2.mut m⟩
    .exact .inr (h2.tup m))
   rw[hb]at this;cases this
   exact .inr ⟨a,ob,j,c,e,h1,hc,co,hj⟩
theorem C0(ds:List D):Ow (.o ds):=trivial
theorem D0(ks:List Ab)(ds:List D):Ow (.q ks ds):=trivial
theorem SlotHas.mv{W':WS}{s:S}{v:V}(w:WL W H)(kk:Hh W H H')(hw:∀ b,W' b->W b\/H b=none)(hq:∀ b o,Owns H s v b->W b->H₀ b=none->H b=some o->Jl o->W' b/\H' b=some o)(h:SlotHas K W₀ H₀ W H s v):SlotHas K W₀ H₀ W' H' s v:=by
 cases s with
 |d x=>exact Has.keep kk w hw h
 |o ds=>
  obtain⟨a,xs,e,h1,h2,h3,h4⟩:=h
  obtain⟨g1,g2⟩:=hq a _ e h1 h2 h3 trivial
  exact⟨a,xs,e,g1,h2,g2,HasL.keep kk w hw h4⟩
 |q ks ds=>
  obtain⟨a,xs,e,h1,h2,h3,h4,h5⟩:=h
  obtain⟨g1,g2⟩:=hq a _ e h1 h2 h3 trivial
  exact⟨a,xs,e,g1,h2,g2,h4,HasL.keep kk w hw h5⟩
 |w dss=>
  obtain⟨a,bs,e,h1,h2,h3,h4,h5,h6,h7⟩:=h
  obtain⟨g1,g2⟩:=hq a _ (.inl e) h1 h2 h3 trivial
  refine⟨a,bs,e,g1,h2,g2,h4,h5,h6,λj b ds e1 e2=>?_⟩
  obtain⟨f1,f2,xs,f3,f4⟩:=h7 j b ds e1 e2
  obtain⟨g3,g4⟩:=hq b _ (.inr ⟨a,bs,e,h3,mem_of_getElem? e1⟩) f1 f2 f3 trivial
  exact⟨g3,f2,xs,g4,HasL.keep kk w hw f4⟩
 |k t cs=>
  obtain⟨a,ob,e,h1,h2,h3,h4,h5,h6⟩:=h
  have top:H' a=some ob/\(MH t->W' a/\H₀ a=none):=by
   by_cases m:MH t
   .obtain⟨g1,g2⟩:=hq a ob (.inl ⟨m,e⟩) (h3 m).1 (h3 m).2 h1 (h2.mut m)
    exact⟨g2,λ_=>⟨g1,(h3 m).2⟩⟩
   .refine⟨kk _ _ h1 λz=>?_,λz=>(m z).elim⟩
    obtain⟨xs,rfl⟩:=h2.tup m
    obtain⟨o',e',mo⟩:=w a z
    rw[h1]at e';cases e';exact mo
  refine⟨a,ob,e,top.1,h2,top.2,h4,h5,λj c x e1 e2=>?_⟩
  have hc:=h6 j c x e1 e2
  cases c with
  |d y=>exact Has.keep kk w hw hc
  |l ds=>
   obtain⟨b,xs,rfl,f1,f2,f3,f4⟩:=hc
   obtain⟨g1,g2⟩:=hq b _ (.inr ⟨a,ob,j,_,e,h1,e1,trivial,e2⟩) f1 f2 f3 trivial
   exact⟨b,xs,rfl,g1,f2,g2,HasL.keep kk w hw f4⟩
  |q ks ds=>
   obtain⟨b,xs,rfl,f1,f2,f3,f4,f5⟩:=hc
   obtain⟨g1,g2⟩:=hq b _ (.inr ⟨a,ob,j,_,e,h1,e1,trivial,e2⟩) f1 f2 f3 trivial
   exact⟨b,xs,rfl,g1,f2,g2,f4,HasL.keep kk w hw f5⟩
theorem SlotHas.own{s:S}{v:V}(h:SlotHas K W₀ H₀ W H s v)(o:Ow s):∃ a ob,v=.ref a/\W a/\H₀ a=none/\H a=some ob/\Jl ob:=by
 cases s with
 |d x=>exact o.elim
 |o ds=>
  obtain⟨a,xs,e,h1,h2,h3,h4⟩:=h
  exact⟨a,_,e,h1,h2,h3,trivial⟩
 |q ks ds=>
  obtain⟨a,xs,e,h1,h2,h3,h4,h5⟩:=h
  exact⟨a,_,e,h1,h2,h3,trivial⟩
 |w dss=>
  obtain⟨a,bs,e,h1,h2,h3,_⟩:=h
  exact⟨a,_,e,h1,h2,h3,trivial⟩
 |k t cs=>
  obtain⟨a,ob,e,h1,h2,h3,_⟩:=h
  exact⟨a,ob,e,(h3 o).1,(h3 o).2,h1,h2.mut o⟩
theorem SlotHas.owns{s:S}{v:V}{b:Addr}(h:SlotHas K W₀ H₀ W H s v)(o:Owns H s v b):W b/\H₀ b=none/\∃ ob,H b=some ob/\Jl ob:=by
 cases s with
 |d x=>exact o.elim
 |o ds=>
  obtain⟨a,xs,e,h1,h2,h3,h4⟩:=h
  have o':v=.ref b:=o
  rw[e]at o';cases o'
  exact⟨h1,h2,_,h3,trivial⟩
 |q ks ds=>
  obtain⟨a,xs,e,h1,h2,h3,h4⟩:=h
  have o':v=.ref b:=o
  rw[e]at o';cases o'
  exact⟨h1,h2,_,h3,trivial⟩
 |w dss=>
  obtain⟨a,bs,e,h1,h2,h3,h4,h5,h6,h7⟩:=h
  rcases o with o|⟨a',bs',e',hb,m⟩
  .rw[e]at o;cases o
   exact⟨h1,h2,_,h3,trivial⟩
  .rw[e]at e';cases e'
   rw[h3]at hb
   injection hb with hb
   injection hb with hb
   rw[<-Mo hb]at m
   obtain⟨k,hk⟩:=List.mem_iff_getElem?.mp m
   have hl:k<dss.length:=by rw[<-h6];exact(List.getElem?_eq_some_iff.mp hk).1
   obtain⟨f1,f2,xs,f3,f4⟩:=h7 k b _ hk (getElem?_eq_getElem hl)
   exact⟨f1,f2,_,f3,trivial⟩
 |k t cs=>
  obtain⟨a,ob,e,h1,h2,h3,h4,h5,h6⟩:=h
  rcases o with⟨m,o⟩|⟨a',ob',j,c,e',hb,hc,co,hj⟩
  .rw[e]at o;cases o
   exact⟨(h3 m).1,(h3 m).2,ob,h1,h2.mut m⟩
  .rw[e]at e';cases e'
   rw[h1]at hb;cases hb
   have:=h6 j c _ hc hj
   cases c with
   |d y=>exact co.elim
   |l ds=>
    obtain⟨b',xs,e2,f1,f2,f3,f4⟩:=this
    cases e2
    exact⟨f1,f2,_,f3,trivial⟩
   |q ks ds=>
    obtain⟨b',xs,e2,f1,f2,f3,f4⟩:=this
    cases e2
    exact⟨f1,f2,_,f3,trivial⟩
theorem Ow.owns{s:S}{a:Addr}(o:Ow s):Owns H s (.ref a) a:=by
 cases s with
 |d x=>exact o.elim
 |o ds=>exact rfl
 |q ks ds=>exact rfl
 |w dss=>exact .inl rfl
 |k t cs=>exact .inl ⟨o,rfl⟩
theorem StHas.same(h:StHas K W₀ H₀ W H σ δ)(k:Same H H'):StHas K W₀ H₀ W H' σ δ:=
 ⟨h.fr.same k,h.len,λi s e=>let ⟨v,h1,h2⟩:=h.at' i s e;⟨v,h1,h2.same h.fr.wl k⟩,λi j s t u v b ij e1 e2 e3 e4 o1 o2=>by
  obtain⟨u',f1,f2⟩:=h.at' i s e1
  obtain⟨v',f3,f4⟩:=h.at' j t e2
  rw[e3]at f1;cases f1
  rw[e4]at f3;cases f3
  exact h.ap i j s t u v b ij e1 e2 e3 e4 (Owns.back f2 (λa o _ z _=>k _ _ z) o1) (Owns.back f4 (λa o _ z _=>k _ _ z) o2)⟩
theorem StHas.set{i:Nat}{x:D}{v:V}(h:StHas K W₀ H₀ W H σ δ)(q:Has K W H x v):StHas K W₀ H₀ W H (σ.set i (some v)) (δ.set i (some (.d x))):=by
 refine⟨h.fr,by simp[h.len],λj s e=>?_,λj k s1 s2 u u' a hjk e1 e2 e3 e4 os ot=>?_⟩
 .by_cases hj:i=j
  .subst hj
   rw[List.getElem?_set_self']at e ⊢
   cases q':δ[i]? with
   |none=>rw[q']at e;cases e
   |some z=>
    rw[q']at e
    have e':some (S.d x)=some s:=Option.some.inj e
    cases e'
    have hi:i<σ.length:=by rw[h.len];exact(List.getElem?_eq_some_iff.mp q').1
    exact⟨v,by rw[getElem?_eq_getElem hi];rfl,q⟩
  .rw[getElem?_set_ne hj]at e ⊢
   exact h.at' j s e
 .have hj:i≠j:=by
   rintro rfl
   rw[List.getElem?_set_self']at e1
   cases q':δ[i]? with
   |none=>rw[q']at e1;cases e1
   |some z=>rw[q']at e1;cases e1;exact os
  have hk:i≠k:=by
   rintro rfl
   rw[List.getElem?_set_self']at e2
   cases q':δ[i]? with
   |none=>rw[q']at e2;cases e2
   |some z=>rw[q']at e2;cases e2;exact ot
  rw[getElem?_set_ne hj]at e1 e3
  rw[getElem?_set_ne hk]at e2 e4
  exact h.ap j k s1 s2 u u' a hjk e1 e2 e3 e4 os ot
theorem StHas.ownS{N:WS}{i:Nat}{sl:S}{a:Addr}(h:StHas K W₀ H₀ W H σ δ)(k:Same H H')(hn:∀ b,N b->H b=none/\∃ ob,H' b=some ob/\Jl ob)(q:SlotHas K W₀ H₀ (λb=>W b\/N b) H' sl (.ref a))(nw:∀ b,Owns H' sl (.ref a) b->H b=none):
  StHas K W₀ H₀ (λb=>W b\/N b) H' (σ.set i (some (.ref a))) (δ.set i (some sl)):=by
 have hw:∀ b,(W b\/N b)->W b\/H b=none:=λb z=>z.elim .inl λz=>.inr (hn b z).1
 have kk:Hh W H H':=Same.keep k
 have fr':FrOk W₀ H₀ (λb=>W b\/N b) H':=⟨h.fr.ext.trans k,λb z=>.inl (h.fr.sub b z),⟨λb z=>z.elim ((h.fr.wl.same k).own b) λz=>(hn b z).2,(h.fr.wl.same k).tab⟩,h.fr.wl0⟩
 have slot:∀ {s:S} {v:V},SlotHas K W₀ H₀ W H s v->SlotHas K W₀ H₀ (λb=>W b\/N b) H' s v:=λ{s v} z=>z.mv h.fr.wl kk hw λb o e h1 h2 h3 h4=>⟨.inl h1,k _ _ h3⟩
 have old:∀ (j:Nat) (t:S) (v:V) (b:Addr),δ[j]? =some (some t)->σ[j]? =some (some v)->Owns H' t v b->Owns H t v b/\H b≠none:=λj t v b e z o=>by
  obtain⟨v',h1,h2⟩:=h.at' j _ e
  rw[z]at h1;cases h1
  have o':=Owns.back h2 (λa o _ z _=>k _ _ z) o
  obtain⟨_,_,ob,h3,_⟩:=h2.owns o'
  exact⟨o',λz=>by rw[h3]at z;cases z⟩
 refine⟨fr',by simp[h.len],λj s e=>?_,λj l s1 s2 u u' b hjl e1 e2 e3 e4 os ot=>?_⟩
 .by_cases hj:i=j
  .subst hj
   rw[List.getElem?_set_self']at e ⊢
   cases q':δ[i]? with
   |none=>rw[q']at e;cases e
   |some z=>
    rw[q']at e
    have e':some sl=some s:=Option.some.inj e
    cases e'
    have hi:i<σ.length:=by rw[h.len];exact(List.getElem?_eq_some_iff.mp q').1
    exact⟨.ref a,by rw[getElem?_eq_getElem hi];rfl,q⟩
  .rw[getElem?_set_ne hj]at e ⊢
   obtain⟨v,h1,h2⟩:=h.at' j s e
   exact⟨v,h1,slot h2⟩
 .have get:∀ m:Nat,m≠i->∀ {α:Type} (l:List α) (z:α),(l.set i z)[m]? =l[m]? :=λm hm α l z=>getElem?_set_ne (Ne.symm hm)
  have self:∀ {α:Type} (l:List (Option α)) (z y:α),(l.set i (some z))[i]? =some (some y)->y=z:=λl z y e=>by
   rw[List.getElem?_set_self']at e
   cases q':l[i]? with
   |none=>rw[q']at e;cases e
   |some x=>rw[q']at e;cases e;rfl
  by_cases hj:j=i
  .have hl:l≠i:=λz=>hjl (hj.trans z.symm)
   rw[get l hl]at e2 e4
   subst hj
   have z1:=self _ _ _ e1
   have z2:=self _ _ _ e3
   subst z1;subst z2
   exact(old l s2 u' b e2 e4 ot).2 (nw b os)
  .rw[get j hj]at e1 e3
   by_cases hl:l=i
   .subst hl
    have z1:=self _ _ _ e2
    have z2:=self _ _ _ e4
    subst z1;subst z2
    exact(old j s1 u b e1 e3 os).2 (nw b ot)
   .rw[get l hl]at e2 e4
    exact h.ap j l s1 s2 u u' b hjl e1 e2 e3 e4 (old j s1 u b e1 e3 os).1 (old l s2 u' b e2 e4 ot).1
theorem StHas.ownG{W':WS}{i:Nat}{sl:S}{ob:HO}{a:Addr}(h:StHas K W₀ H₀ W H σ δ)(k:Same H H')(ha:H a=none)(ha':H' a=some ob)(mo:Jl ob)(q:SlotHas K W₀ H₀ (λb=>W b\/b=a) H' sl (.ref a))(nw:∀ b,Owns H' sl (.ref a) b->H b=none:=by intro b z;cases z;assumption):
  StHas K W₀ H₀ (λb=>W b\/b=a) H' (σ.set i (some (.ref a))) (δ.set i (some sl)):=
 h.ownS (N:=λb=>b=a) k (λb z=>by rw[z];exact⟨ha,ob,ha',mo⟩) q nw
theorem StHas.own{i:Nat}{ds:List D}{a:Addr}{xs:List V}(h:StHas K W₀ H₀ W H σ δ)(ha:H a=none)(q:HasL K W H ds xs):
  StHas K W₀ H₀ (λb=>W b\/b=a) (Ib H a (.lst xs)) (σ.set i (some (.ref a))) (δ.set i (some (.o ds))):=by
 have k:Same H (Ib H a (.lst xs)):=λb o e=>by rw[Da (Ka e ha)];exact e
 exact h.ownG (W':=W) k ha Ra trivial ⟨a,xs,rfl,.inr rfl,Same.free h.fr.ext ha,Ra,HasL.keep (Same.keep k) h.fr.wl (λb z=>z.elim .inl λz=>.inr (by rw[z];exact ha)) q⟩
theorem StHas.ownQ{i:Nat}{ks:List Ab}{ds:List D}{a:Addr}{kvs:List (Ab×V)}(h:StHas K W₀ H₀ W H σ δ)(ha:H a=none)(e:kvs.map (·.1)=ks)(q:HasL K W H ds (kvs.map (·.2))):
  StHas K W₀ H₀ (λb=>W b\/b=a) (Ib H a (.dK kvs)) (σ.set i (some (.ref a))) (δ.set i (some (.q ks ds))):=by
 have k:Same H (Ib H a (.dK kvs)):=λb o e=>by rw[Da (Ka e ha)];exact e
 exact h.ownG (W':=W) k ha Ra trivial ⟨a,kvs,rfl,.inr rfl,Same.free h.fr.ext ha,Ra,e,HasL.keep (Same.keep k) h.fr.wl (λb z=>z.elim .inl λz=>.inr (by rw[z];exact ha)) q⟩
theorem StHas.changeS{i:Nat}{so sl:S}{w:V}{ob:HO}{a:Addr}(h:StHas K W₀ H₀ W H σ δ)(hi:δ[i]? =some (some so))(hs:σ[i]? =some (some w))(oc:Owns H so w a)(mo:Jl ob)(q:H₀ a=none->Hh W H (Ib H a ob)->SlotHas K W₀ H₀ W (Ib H a ob) sl w)(nw:∀ b,Owns (Ib H a ob) sl w b->∀ (j:Nat) (t:S) (v:V),i≠j->δ[j]? =some (some t)->σ[j]? =some (some v)->¬ Owns H t v b):
  StHas K W₀ H₀ W (Ib H a ob) σ (δ.set i (some sl)):=by
 obtain⟨v,h1,h2⟩:=h.at' i _ hi
 rw[hs]at h1
 cases h1
 obtain⟨hW,h0,ob',h3',h4'⟩:=h2.owns oc
 have kk:Hh W H (Ib H a ob):=λb o e n=>by
  rw[Da (λz=>n (by rw[z];exact hW))];exact e
 have hw:∀ b,W b->W b\/H b=none:=λb z=>.inl z
 have fr':FrOk W₀ H₀ W (Ib H a ob):=⟨λb o e=>by rw[Da (Ka e h0)];exact h.fr.ext _ _ e,h.fr.sub,⟨λb z=>by
  by_cases hb:b=a
  .rw[hb];exact⟨ob,Ra,mo⟩
  .rw[Da hb];exact h.fr.wl b z,λq hq=>by rw[Da (h.fr.wl.noW hW hq)];exact h.fr.wl.tab q hq⟩,h.fr.wl0⟩
 have hl:i<δ.length:=(List.getElem?_eq_some_iff.mp hi).1
 have ne:∀ (j:Nat) (s:S) (v:V) (b:Addr),i≠j->δ[j]? =some (some s)->σ[j]? =some (some v)->Owns H s v b->b≠a:=λj s v b hj e e' o z=>by
  subst z
  exact h.ap i j _ _ _ _ b hj hi e hs e' oc o
 refine⟨fr',by simp[h.len],λj s e=>?_,λj l s1 s2 u u' b hjl e1 e2 e3 e4 os ot=>?_⟩
 .by_cases hj:i=j
  .subst hj
   rw[getElem?_set_self hl]at e
   cases e
   exact⟨w,hs,q h0 kk⟩
  .rw[getElem?_set_ne hj]at e
   obtain⟨v,h1,h2⟩:=h.at' j s e
   exact⟨v,h1,h2.mv h.fr.wl kk hw λb o e1 h1' _ h3' _=>⟨h1',by rw[Da (ne j s v b hj e h1 e1)];exact h3'⟩⟩
 .have own:∀ (m:Nat) (t:S) (x:V),i≠m->(δ.set i (some sl))[m]? =some (some t)->σ[m]? =some (some x)->Owns (Ib H a ob) t x b->δ[m]? =some (some t)/\Owns H t x b:=λm t x hm e e' o=>by
   rw[getElem?_set_ne hm]at e
   obtain⟨v,h1,h2⟩:=h.at' m t e
   rw[e']at h1;cases h1
   refine⟨e,Owns.back h2 (λc o ec z y=>?_) o⟩
   rcases y with⟨y,_⟩|⟨xs,y⟩
   .rw[Da (ne m _ _ c hm e e' y)];exact z
   .rw[Da (λq=>by rw[q,h3']at z;cases z;rw[y]at h4';exact h4')];exact z
  by_cases hj:i=j
  .subst hj
   rw[getElem?_set_self hl]at e1;cases e1
   rw[hs]at e3;cases e3
   obtain⟨g2,o2⟩:=own l s2 u' hjl e2 e4 ot
   exact nw b os l s2 u' hjl g2 e4 o2
  .obtain⟨g1,o1⟩:=own j s1 u hj e1 e3 os
   by_cases hm:i=l
   .subst hm
    rw[getElem?_set_self hl]at e2;cases e2
    rw[hs]at e4;cases e4
    exact nw b ot j s1 u hj g1 e3 o1
   .obtain⟨g2,o2⟩:=own l s2 u' hm e2 e4 ot
    exact h.ap j l s1 s2 u u' b hjl g1 g2 e3 e4 o1 o2
theorem StHas.changeG{i:Nat}{so sl:S}{ob:HO}{a:Addr}(h:StHas K W₀ H₀ W H σ δ)(oo:Ow so)(hi:δ[i]? =some (some so))(hs:σ[i]? =some (some (.ref a)))(mo:Jl ob)(hW:W a)(q:H₀ a=none->Hh W H (Ib H a ob)->SlotHas K W₀ H₀ W (Ib H a ob) sl (.ref a))(ol:Ow sl)(nw:∀ b,Owns (Ib H a ob) sl (.ref a) b->Owns H so (.ref a) b:=by intro b z;exact z):
  StHas K W₀ H₀ W (Ib H a ob) σ (δ.set i (some sl)):=
 h.changeS hi hs oo.owns mo q λb o j t v hj e e'=>h.ap i j _ _ _ _ b hj hi e hs e' (nw b o)
theorem StHas.change{i:Nat}{ds es:List D}{a:Addr}{xs ys:List V}(h:StHas K W₀ H₀ W H σ δ)(hi:δ[i]? =some (some (.o ds)))(hs:σ[i]? =some (some (.ref a)))(ha:H a=some (.lst xs))(hW:W a)(q:HasL K W H es ys):
  StHas K W₀ H₀ W (Ib H a (.lst ys)) σ (δ.set i (some (.o es))):=
 h.changeG (C0 ds) hi hs trivial hW (λh0 kk=>⟨a,ys,rfl,hW,h0,Ra,HasL.keep kk h.fr.wl (λb z=>.inl z) q⟩) (C0 es)
theorem StHas.changeQ{i:Nat}{ks ks':List Ab}{ds es:List D}{a:Addr}{kvs':List (Ab×V)}(h:StHas K W₀ H₀ W H σ δ)(hi:δ[i]? =some (some (.q ks ds)))(hs:σ[i]? =some (some (.ref a)))(hW:W a)(e:kvs'.map (·.1)=ks')(q:HasL K W H es (kvs'.map (·.2))):
  StHas K W₀ H₀ W (Ib H a (.dK kvs')) σ (δ.set i (some (.q ks' es))):=
 h.changeG (D0 ks ds) hi hs trivial hW (λh0 kk=>⟨a,kvs',rfl,hW,h0,Ra,e,HasL.keep kk h.fr.wl (λb z=>.inl z) q⟩) (D0 ks' es)
theorem StHas.freezeS{N:WS}{i:Nat}{so:S}{x:D}{w:V}(h:StHas K W₀ H₀ W H σ δ)(hi:δ[i]? =some (some so))(hs:σ[i]? =some (some w))(oN:∀ b,N b->Owns H so w b)(hd:Has K (λb=>W b/\¬ N b) H x w):StHas K W₀ H₀ (λb=>W b/\¬ N b) H σ (δ.set i (some (.d x))):=by
 obtain⟨v,h1,h2⟩:=h.at' i _ hi
 rw[hs]at h1
 cases h1
 have kk:Hh W H H:=λ_ _ e _=>e
 have hw:∀ b,(W b/\¬ N b)->W b\/H b=none:=λb z=>.inl z.1
 have hl:i<δ.length:=(List.getElem?_eq_some_iff.mp hi).1
 refine⟨⟨h.fr.ext,λb z=>⟨h.fr.sub b z,λe=>?_⟩,⟨λb z=>h.fr.wl b z.1,h.fr.wl.tab⟩,h.fr.wl0⟩,by simp[h.len],λj s e=>?_,λj l s1 s2 u u' b hjl e1 e2 e3 e4 os ot=>?_⟩
 .obtain⟨ys,z',_⟩:=h.fr.wl0 _ z
  rw[(h2.owns (oN _ e)).2.1]at z';cases z'
 .by_cases hj:i=j
  .subst hj
   rw[getElem?_set_self hl]at e
   cases e
   exact⟨_,hs,hd⟩
  .rw[getElem?_set_ne hj]at e
   obtain⟨v,g1,g2⟩:=h.at' j s e
   exact⟨v,g1,g2.mv h.fr.wl kk hw λb o e1 h1' _ h3' _=>⟨⟨h1',λz=>h.ap i j _ _ _ _ b hj hi e hs g1 (oN b z) e1⟩,h3'⟩⟩
 .have hj:i≠j:=by
   rintro rfl
   rw[getElem?_set_self hl]at e1;cases e1;exact os
  have hk:i≠l:=by
   rintro rfl
   rw[getElem?_set_self hl]at e2;cases e2;exact ot
  rw[getElem?_set_ne hj]at e1
  rw[getElem?_set_ne hk]at e2
  exact h.ap j l s1 s2 u u' b hjl e1 e2 e3 e4 os ot
theorem StHas.freezeG{i:Nat}{so:S}{x:D}{a:Addr}(h:StHas K W₀ H₀ W H σ δ)(oo:Ow so)(hi:δ[i]? =some (some so))(hs:σ[i]? =some (some (.ref a)))(hd:Has K (λb=>W b/\b≠a) H x (.ref a)):StHas K W₀ H₀ (λb=>W b/\b≠a) H σ (δ.set i (some (.d x))):=
 h.freezeS (N:=λb=>b=a) hi hs (λb z=>by rw[z];exact oo.owns) hd
theorem StHas.freezeH{i:Nat}{so:S}{x:D}{a:Addr}{ob:HO}(h:StHas K W₀ H₀ W H σ δ)(oo:Ow so)(hi:δ[i]? =some (some so))(hs:σ[i]? =some (some (.ref a)))(hd:Has K (λb=>W b/\b≠a) (Ib H a ob) x (.ref a)):StHas K W₀ H₀ (λb=>W b/\b≠a) (Ib H a ob) σ (δ.set i (some (.d x))):=by
 obtain⟨v,h1,h2⟩:=h.at' i _ hi
 obtain⟨b,o1,e',hW,h0,h3,mo1⟩:=h2.own oo
 rw[hs]at h1
 cases h1
 cases e'
 have kk:Hh W H (Ib H a ob):=λb o e n=>by rw[Da (λz=>n (by rw[z];exact hW))];exact e
 have hw:∀ b,(W b/\b≠a)->W b\/H b=none:=λb z=>.inl z.1
 have hl:i<δ.length:=(List.getElem?_eq_some_iff.mp hi).1
 refine⟨⟨λb o e=>by rw[Da (Ka e h0)];exact h.fr.ext _ _ e,λb z=>⟨h.fr.sub b z,λe=>?_⟩,⟨λb z=>by rw[Da z.2];exact h.fr.wl b z.1,λq hq=>by rw[Da (h.fr.wl.noW hW hq)];exact h.fr.wl.tab q hq⟩,h.fr.wl0⟩,by simp[h.len],λj s e=>?_,λj l s1 s2 u u' b hjl e1 e2 e3 e4 os ot=>?_⟩
 .subst e
  obtain⟨ys,z',_⟩:=h.fr.wl0 _ z
  rw[h0]at z';cases z'
 .by_cases hj:i=j
  .subst hj
   rw[getElem?_set_self hl]at e
   cases e
   exact⟨.ref a,hs,hd⟩
  .rw[getElem?_set_ne hj]at e
   obtain⟨v,g1,g2⟩:=h.at' j s e
   exact⟨v,g1,g2.mv h.fr.wl kk hw λb o e1 h1' _ h3' _=>(λhba=>⟨⟨h1',hba⟩,by rw[Da hba];exact h3'⟩) (λz=>by subst z;exact h.ap i j _ _ _ _ b hj hi e hs g1 oo.owns e1)⟩
 .have hj:i≠j:=by
   rintro rfl
   rw[getElem?_set_self hl]at e1;cases e1;exact os
  have hk:i≠l:=by
   rintro rfl
   rw[getElem?_set_self hl]at e2;cases e2;exact ot
  rw[getElem?_set_ne hj]at e1
  rw[getElem?_set_ne hk]at e2
  have back:∀ (m:Nat) (t:S) (x:V),i≠m->δ[m]? =some (some t)->σ[m]? =some (some x)->Owns (Ib H a ob) t x b->Owns H t x b:=λm t x hm e e' o=>by
   obtain⟨v,h1,h2⟩:=h.at' m t e
   rw[e']at h1;cases h1
   refine Owns.back h2 (λc o ec z y=>?_) o
   rcases y with⟨y,_⟩|⟨xs,y⟩
   .rw[Da (λq=>by subst q;exact h.ap i m _ _ _ _ c hm hi e hs e' oo.owns y)];exact z
   .rw[Da (λq=>by rw[q,h3]at z;cases z;rw[y]at mo1;exact mo1)];exact z
  exact h.ap j l s1 s2 u u' b hjl e1 e2 e3 e4 (back j s1 u hj e1 e3 os) (back l s2 u' hk e2 e4 ot)
end
abbrev XW:=Str->List D->Hp->Prop
section
variable (K:Frag)(xw:XW)
def RE(W:WS)(H:Hp)(r:Res D)(Q:VK):Prop:=match r with
 | .ok d=>∀ v H',Same H H'->Has K W H' d v->Q v H'
 | .ex c fs=>∀ H',Same H H'->xw c fs H'
 | .stuck=>False
def HasT(W:WS)(H:Hp)(d:D)(v:V):Prop:=Has K W H d v\/∃ ds a xs,d=.lst ds/\v=.ref a/\H a=some (.lst xs)/\HasL K W H ds xs
def RP(W:WS)(H:Hp)(r:Res D)(Q:VK):Prop:=match r with
 | .ok d=>∀ v H',Same H H'->HasT K W H' d v->Q v H'
 | .ex c fs=>∀ H',Same H H'->xw c fs H'
 | .stuck=>False
def RF(W:WS)(H:Hp)(r:Res (List D))(Q:VK):Prop:=match r with
 | .ok ds=>∀ a xs H1,Same H H1->H1 a=none->HasL K W H1 ds xs->Q (.ref a) (Ib H1 a (.lst xs))
 | .ex c fs=>∀ H',Same H H'->xw c fs H'
 | .stuck=>False
def RT(H:Hp)(r:Res Bool)(Q:Bool->Hp->Prop):Prop:=match r with
 | .ok b=>∀ H',Same H H'->Q b H'
 | .ex c fs=>∀ H',Same H H'->xw c fs H'
 | .stuck=>False
def RA(W:WS)(H:Hp)(r:Res (List D))(Q:List V->Hp->Prop):Prop:=match r with
 | .ok ds=>∀ vs H',Same H H'->HasL K W H' ds vs->Q vs H'
 | .ex c fs=>∀ H',Same H H'->xw c fs H'
 | .stuck=>False
def IN(f:Ba->Res D):TE:=λσ H Q=>∃ W₀ H₀ W δ,StHas K W₀ H₀ W H σ δ/\RE K xw W H (f δ) Q
def EM(f:Ba->Res D):TE:=λσ H Q=>∃ W₀ H₀ W δ,StHas K W₀ H₀ W H σ δ/\RP K xw W H (f δ) Q
def R0(f:Ba->Res (List D)):TE:=λσ H Q=>∃ W₀ H₀ W δ,StHas K W₀ H₀ W H σ δ/\RF K xw W H (f δ) Q
def JT(f:Ba->Res Bool):TT:=λσ H Q=>∃ W₀ H₀ W δ,StHas K W₀ H₀ W H σ δ/\RT xw H (f δ) Q
def X1(f:Ba->Res (List D)):TA:=λσ H Q=>∃ W₀ H₀ W δ,StHas K W₀ H₀ W H σ δ/\RA K xw W H (f δ) Q
end
def DE(X:Cx)(xw:XW)(e:Expr)(f:Ba->Res D):Prop:=PE X e (IN X.K xw f)
def DP(X:Cx)(xw:XW)(e:Expr)(f:Ba->Res D):Prop:=PE X e (EM X.K xw f)
def DF(X:Cx)(xw:XW)(e:Expr)(f:Ba->Res (List D)):Prop:=PE X e (R0 X.K xw f)
def DT(X:Cx)(xw:XW)(e:Expr)(f:Ba->Res Bool):Prop:=PT X e (JT X.K xw f)
def DW(X:Cx)(xw:XW)(e:Expr)(f:Ba->Res Bool):Prop:=PW X e (JT X.K xw f)
def DA(X:Cx)(xw:XW)(es:List Expr)(f:Ba->Res (List D)):Prop:=PA X es (X1 X.K xw f)
theorem PE.weak{X:Cx}{e:Expr}{t t':TE}(h:PE X e t)(k:∀ σ H Q,t' σ H Q->t σ H Q):PE X e t':=λpins s σ H Q I q=>h pins s σ H Q I (k σ H Q q)
theorem PT.weak{X:Cx}{e:Expr}{t t':TT}(h:PT X e t)(k:∀ σ H Q,t' σ H Q->t σ H Q):PT X e t':=λpins s σ H Q I q=>h pins s σ H Q I (k σ H Q q)
theorem PW.weak{X:Cx}{e:Expr}{t t':TT}(h:PW X e t)(k:∀ σ H Q,t' σ H Q->t σ H Q):PW X e t':=λwh pins s σ H Q I q=>h wh pins s σ H Q I (k σ H Q q)
theorem PA.weak{X:Cx}{e:List Expr}{t t':TA}(h:PA X e t)(k:∀ σ H Q,t' σ H Q->t σ H Q):PA X e t':=λps pins s σ H Q I q=>h ps pins s σ H Q I (k σ H Q q)
section
variable {K:Frag}{xw:XW}{W:WS}{H H':Hp}{Q:VK}
theorem RE.same{r:Res D}(h:RE K xw W H r Q)(k:Same H H'):RE K xw W H' r Q:=by
 cases r with
 |ok d=>exact λv H2 k2 q=>h v H2 (k.trans k2) q
 |ex c fs=>exact λH2 k2=>h H2 (k.trans k2)
 |stuck=>exact h
theorem RF.same{r:Res (List D)}(h:RF K xw W H r Q)(k:Same H H'):RF K xw W H' r Q:=by
 cases r with
 |ok d=>exact λa xs H1 k1 n q=>h a xs H1 (k.trans k1) n q
 |ex c fs=>exact λH2 k2=>h H2 (k.trans k2)
 |stuck=>exact h
theorem RT.same{r:Res Bool}{Q:Bool->Hp->Prop}(h:RT xw H r Q)(k:Same H H'):RT xw H' r Q:=by
 cases r with
 |ok d=>exact λH2 k2=>h H2 (k.trans k2)
 |ex c fs=>exact λH2 k2=>h H2 (k.trans k2)
 |stuck=>exact h
theorem HasT.same{d:D}{v:V}(h:HasT K W H d v)(k:Same H H')(w:WL W H):HasT K W H' d v:=by
 rcases h with h|⟨ds,a,xs,h1,h2,h3,h4⟩
 .exact .inl (h.same k w)
 .exact .inr ⟨ds,a,xs,h1,h2,k _ _ h3,h4.same k w⟩
theorem Has.top{d:D}{v:V}(h:Has K W H d v):HasT K W H d v:=.inl h
theorem HasT.int{i:Int}{v:V}(h:HasT K W H (.int i) v):v=.int i:=by
 rcases h with h|⟨ds,a,xs,h1,_⟩
 .rw[Has]at h;exact h
 .cases h1
theorem HasT.bl{i:Bool}{v:V}(h:HasT K W H (.bl i) v):v=.bl i:=by
 rcases h with h|⟨ds,a,xs,h1,_⟩
 .rw[Has]at h;exact h
 .cases h1
theorem HasT.str{i:Str}{v:V}(h:HasT K W H (.str i) v):v=.str i:=by
 rcases h with h|⟨ds,a,xs,h1,_⟩
 .rw[Has]at h;exact h
 .cases h1
theorem HasT.non{v:V}(h:HasT K W H .non v):v=.non:=by
 rcases h with h|⟨ds,a,xs,h1,_⟩
 .rw[Has]at h;exact h
 .cases h1
theorem HasT.tup{ds:List D}{v:V}(h:HasT K W H (.tup ds) v):∃ a xs,v=.ref a/\SqT K H a xs/\HasL K W H ds xs:=by
 rcases h with h|⟨ds,a,xs,h1,_⟩
 .rw[Has]at h;exact h
 .cases h1
theorem HasT.lst{ds:List D}{v:V}(h:HasT K W H (.lst ds) v):∃ a xs,v=.ref a/\SqL K H a xs/\HasL K W H ds xs:=by
 rcases h with h|⟨ds,a,xs,h1,h2,h3,h4⟩
 .rw[Has]at h
  obtain⟨a,xs,e,q,r⟩:=h
  exact⟨a,xs,e,q.sq,r⟩
 .cases h1
  exact⟨a,xs,h2,.of h3,h4⟩
end
def Mw(scope:Scope)(env:Env):List (Str×Addr):=scope.names.foldl (λcs y=>if y.2== .free then(match env.cells.lookup y.1 with|some a=>(y.1,a)::cs|none=>cs) else cs) []
theorem ZH{env:Env}(names:List (Str×NameKind)):∀ (cs:List (Str×Addr)),(∀ y∈names,y.2=.free->∃ c,env.cells.lookup y.1=some c)->
  (forIn names cs (λ(y:Str×NameKind) (r:List (Str×Addr))=>(do
   if(y.2==NameKind.free)=true then do
    let a <-cellOf env y.1
    pure (ForInStep.yield ((y.1,a)::r))
   else pure (ForInStep.yield r):Sem (ForInStep (List (Str×Addr))))))=(pure (names.foldl (λcs y=>if y.2== .free then(match env.cells.lookup y.1 with|some a=>(y.1,a)::cs|none=>cs) else cs) cs):Sem _):=by
 induction names with
 |nil=>intro cs _;rfl
 |cons y r ih=>
  intro cs h
  have h':∀ y∈r,y.2=.free->∃ c,env.cells.lookup y.1=some c:=λz hz=>h z (mem_cons_of_mem _ hz)
  rw[List.forIn_cons,foldl_cons]
  by_cases hk:y.2=.free
  .obtain⟨c,hc⟩:=h y mem_cons_self hk
   have hb:(y.2==NameKind.free)=true:=by rw[hk];rfl
   simp only[hb,if_true,cellOf,hc,pure_bind]
   exact ih _ h'
  .have hb:(y.2==NameKind.free)=false:=by simpa using hk
   simp only[hb,false_eq_true,if_false,pure_bind]
   exact ih _ h'
theorem By{scope:Scope}{env:Env}(h:∀ y∈scope.names,y.2=.free->∃ c,env.cells.lookup y.1=some c):closureFor scope env=pure (Mw scope env):=by
 unfold closureFor Mw
 exact(congrArg (λz=>z >>= λr=>pure r) (ZH scope.names [] h)).trans (by simp)
theorem UC{env:Env}(names:List (Str×NameKind)):∀ (cs:List (Str×Addr)),(∀ x c,cs.lookup x=some c->env.cells.lookup x=some c)->
  ∀ x c,(names.foldl (λcs y=>if y.2== .free then(match env.cells.lookup y.1 with|some a=>(y.1,a)::cs|none=>cs) else cs) cs).lookup x=some c->env.cells.lookup x=some c:=by
 induction names with
 |nil=>intro cs h;exact h
 |cons y r ih=>
  intro cs h
  rw[foldl_cons]
  refine ih _ ?_
  split
  .split
   .rename_i a ha
    intro x c e
    rw[lookup_cons]at e
    by_cases hx:x=y.1
    .have:(x==y.1)=true:=by rw[hx];simp
     rw[this]at e
     have e':a=c:=Option.some.inj e
     rw[hx,ha,e']
    .have:(x==y.1)=false:=by simpa using hx
     rw[this]at e
     exact h x c e
   .exact h
  .exact h
theorem Tt{env:Env}(names:List (Str×NameKind)):∀ (cs:List (Str×Addr)) (x:Str),((∃ c,cs.lookup x=some c)\/((x,NameKind.free)∈names/\∃ c,env.cells.lookup x=some c))->
  ∃ c,(names.foldl (λcs y=>if y.2== .free then(match env.cells.lookup y.1 with|some a=>(y.1,a)::cs|none=>cs) else cs) cs).lookup x=some c:=by
 induction names with
 |nil=>
  intro cs x h
  rcases h with h|⟨h,_⟩
  .exact h
  .simp at h
 |cons y r ih=>
  intro cs x h
  rw[foldl_cons]
  refine ih _ x ?_
  rcases h with⟨c,h⟩|⟨h,c,hc⟩
  .left
   split
   .split
    .rename_i a ha
     rw[lookup_cons]
     cases hx:x==y.1 with
     |true=>exact⟨a,rfl⟩
     |false=>exact⟨c,h⟩
    .exact⟨c,h⟩
   .exact⟨c,h⟩
  .rcases mem_cons.mp h with h|h
   .left
    subst h
    simp only[beq_self_eq_true,if_true,hc]
    exact⟨c,by rw[lookup_cons];simp⟩
   .exact .inr ⟨h,c,hc⟩
theorem Tj{g:Str->NameKind->NameKind}:∀ (l:List (Str×NameKind)) (x:Str),(l.map λy=>(y.1,g y.1 y.2)).lookup x=(l.lookup x).map (g x)
 | [],_=>rfl
 |y::r,x=>by
  rw[map_cons,lookup_cons,lookup_cons]
  cases hx:x==y.1 with
  |true=>
   have:x=y.1:=by simpa using hx
   rw[this];rfl
  |false=>exact Tj r x
theorem Se(scope:Scope)(env:Env)(x:Str):(relabel scope env).names.lookup x=(scope.names.lookup x).map λk=>if(k== .free&&env.scope.kind== .function&&env.kindOf x==some .cell) then .cell else k:=by
 have e:(relabel scope env).names=scope.names.map λy=>(y.1,(λn k=>if(k==NameKind.free&&env.scope.kind== .function&&env.kindOf n==some .cell) then NameKind.cell else k) y.1 y.2):=by
  unfold relabel
  refine List.map_congr_left λy _=>?_
  obtain⟨n,k⟩:=y
  dsimp only
  split<;>rfl
 rw[e]
 exact Tj (g:=λn k=>if(k==NameKind.free&&env.scope.kind== .function&&env.kindOf n==some .cell) then NameKind.cell else k) scope.names x
theorem TC{env:Env}(names:List (Str×NameKind)):∀ (cs:List (Str×Addr)) (x:Str) (c:Addr),(names.foldl (λcs y=>if y.2== .free then(match env.cells.lookup y.1 with|some a=>(y.1,a)::cs|none=>cs) else cs) cs).lookup x=some c->cs.lookup x=some c\/(x,NameKind.free)∈names:=by
 induction names with
 |nil=>intro cs x c h;exact .inl h
 |cons y r ih=>
  intro cs x c h
  rw[foldl_cons]at h
  rcases ih _ x c h with h|h
  .by_cases hf:y.2=.free
   .by_cases hx:x=y.1
    .right;subst hx;rw[<-hf];exact mem_cons_self
    .left
     have hb:(y.2==NameKind.free)=true:=by rw[hf];rfl
     have hxb:(x==y.1)=false:=by simpa using hx
     simp only[hb,if_true]at h
     split at h
     .rw[lookup_cons,hxb]at h;exact h
     .exact h
   .left
    have hb:(y.2==NameKind.free)=false:=by simpa using hf
    simp only[hb,false_eq_true,if_false]at h
    exact h
  .exact .inr (mem_cons_of_mem _ h)
theorem Ay:∀ (names:List (Str×NameKind)) (n:Nat) (acc:List (Str×Addr)) (x:Str) (c:Addr),(cellsFrom n names acc).lookup x=some c->acc.lookup x=some c\/(n<=c/\(x,NameKind.cell)∈names)
 | [],_,_,_,_,h=>.inl h
 |(y,k)::r,n,acc,x,c,h=>by
  unfold cellsFrom at h
  by_cases hk:(k== .cell)=true
  .rw[if_pos hk]at h
   have hk':k=.cell:=by simpa using hk
   rcases Ay r (n+1) _ x c h with h|⟨h1,h2⟩
   .rw[lookup_cons]at h
    cases hx:x==y with
    |true=>
     rw[hx]at h
     have e:n=c:=Option.some.inj h
     have ex:x=y:=by simpa using hx
     subst ex;subst hk'
     exact .inr ⟨by omega,mem_cons_self⟩
    |false=>rw[hx]at h;exact .inl h
   .exact .inr ⟨by omega,mem_cons_of_mem _ h2⟩
  .rw[if_neg hk]at h
   rcases Ay r n acc x c h with h|⟨h1,h2⟩
   .exact .inl h
   .exact .inr ⟨h1,mem_cons_of_mem _ h2⟩
theorem Lw:∀ (names:List (Str×NameKind)) (n:Nat) (acc:List (Str×Addr)) (x:Str),(x,NameKind.cell)∉names->(cellsFrom n names acc).lookup x=acc.lookup x
 | [],_,_,_,_=>rfl
 |(y,k)::r,n,acc,x,h=>by
  have hr:(x,NameKind.cell)∉r:=λz=>h (mem_cons_of_mem _ z)
  unfold cellsFrom
  by_cases hk:(k== .cell)=true
  .rw[if_pos hk,Lw r (n+1) _ x hr,lookup_cons]
   have hk':k=.cell:=by simpa using hk
   have hx:(x==y)=false:=by
    cases hx:x==y with
    |false=>rfl
    |true=>
     have ex:x=y:=by simpa using hx
     subst ex;subst hk'
     exact absurd mem_cons_self h
   rw[hx]
  .rw[if_neg hk];exact Lw r n acc x hr
theorem Kw:∀ (names:List (Str×NameKind)) (n:Nat) (acc:List (Str×Addr)),(∀ x y c,acc.lookup x=some c->acc.lookup y=some c->x=y)->(∀ x c,acc.lookup x=some c->c<n)->
  ∀ x y c,(cellsFrom n names acc).lookup x=some c->(cellsFrom n names acc).lookup y=some c->x=y
 | [],_,_,h,_=>h
 |(z,k)::r,n,acc,h,hb=>by
  unfold cellsFrom
  by_cases hk:(k== .cell)=true
  .rw[if_pos hk]
   refine Kw r (n+1) _ (λx y c e1 e2=>?_) λx c e=>?_
   .rw[lookup_cons]at e1 e2
    cases hx:x==z with
    |true=>
     rw[hx]at e1
     have ec:n=c:=Option.some.inj e1
     have ex:x=z:=by simpa using hx
     cases hy:y==z with
     |true=>
      have ey:y=z:=by simpa using hy
      rw[ex,ey]
     |false=>
      rw[hy]at e2
      have:=hb y c e2
      rw[<-ec]at this
      exact absurd this (lt_irrefl _)
    |false=>
     rw[hx]at e1
     cases hy:y==z with
     |true=>
      rw[hy]at e2
      have ec:n=c:=Option.some.inj e2
      have:=hb x c e1
      rw[<-ec]at this
      exact absurd this (lt_irrefl _)
     |false=>rw[hy]at e2;exact h x y c e1 e2
   .rw[lookup_cons]at e
    cases hx:x==z with
    |true=>
     rw[hx]at e
     have ec:n=c:=Option.some.inj e
     rw[<-ec]
     exact Nat.lt_succ_self _
    |false=>rw[hx]at e;exact Nat.lt_succ_of_lt (hb x c e)
  .rw[if_neg hk];exact Kw r n acc h hb
theorem Hr:∀ (names:List (Str×NameKind)) (h:Heap) (acc:List (Str×Addr)),(∀ x c,acc.lookup x=some c->∃ v,h.IsCell c v)->∀ x c,(cellsFrom h.objs.size names acc).lookup x=some c->∃ v,(pushCells h names).IsCell c v
 | [],_,_,hc=>hc
 |(z,k)::r,h,acc,hc=>by
  unfold cellsFrom pushCells
  by_cases hk:(k== .cell)=true
  .rw[if_pos hk,if_pos hk]
   have:=Hr r (h.push {cls:=.type "cell",data:=.cell none}) ((z,h.objs.size)::acc) λx c e=>by
    rw[lookup_cons]at e
    cases hx:x==z with
    |true=>
     rw[hx]at e
     have ec:h.objs.size=c:=Option.some.inj e
     subst ec
     exact⟨none,_,get?_push_size _ rfl,rfl⟩
    |false=>
     rw[hx]at e
     obtain⟨v,q⟩:=hc x c e
     exact⟨v,q.keeps λb o e=>get?_push_of_some _ e⟩
   rw[size_push]at this
   exact this
  .rw[if_neg hk,if_neg hk];exact Hr r h acc hc
def Xz(scope:Scope)(env:Env)(C:Addr):List (Str×Addr):=cellsFrom (C+1) scope.names (Mw scope env)
theorem Wl{M:Model}{A:Around}{E:Value->Shared->Prop}{s:Shared}{scope:Scope}{globals:Addr}{cl:List (Str×Addr)}{qual:Str}{env:Env}{Q:Env->Shared->Prop}(hQ:Q {scope:=scope,locals:=s.heap.objs.size,globals:=globals,cells:=cellsFrom (s.heap.objs.size+1) scope.names cl,qual:=qual,func:=none,code:=env.code,frame:=env.frame,builtins:=env.builtins}
   {s with heap:=pushCells (s.heap.push {cls:=.type "dict",data:=.dict #[]}) scope.names}):
  wpAny M A (newFunctionEnv scope globals cl [] qual none .none (some env)) Q E s:=by
 simp only[newFunctionEnv,Option.isSome_some,if_true]
 refine wpAny_bind (wpAny_alloc ?_)
 refine wpAny_bind (wpAny_layCells _ (λname kind cells=>by cases hkc:kind==NameKind.cell<;>simp[hkc]) _ _ _ _ ?_)
 rw[show({s with heap:=s.heap.push {cls:=.type "dict",data:=.dict #[]}}:Shared).heap.objs.size=s.heap.objs.size+1 from size_push ..]
 refine wpAny_bind ?_
 rw[List.forIn_nil]
 exact wpAny_pure (wpAny_pure hQ)
theorem Jx{h:Heap}{names:List (Str×NameKind)}:(pushCells (h.push {cls:=.type "dict",data:=.dict #[]}) names).Ns h.objs.size λ_=>none:=(Heap.Ns.new h (.type "dict")).keeps (pushCells_keeps _ _)
def Ob(X:Cx)(scope:Scope)(Nc Nx:List Str)(C:Addr)(fp:List Addr)(pins:List (Addr×Obj))(s:Shared)(H:Hp):Cx:=
 {X with N:=Nc++Nx,s₀:=s,H₀:=H,env:=compEnvC scope (Xz scope X.env C) C X.env,outer:=X.stack,stack:=X.stack,ex:=fp,fn:=λx=>scope.names.lookup x==some .cell,pn:=X.pn++pins,xe:=λ_ _=>False}
structure CompOk(X:Cx)(scope:Scope)(Nc Nx:List Str):Prop where
 kind:scope.kind=.function
 one:∀ y∈scope.names,scope.names.lookup y.1=some y.2
 free:∀ y∈scope.names,y.2=.free->X.env.kindOf y.1=some .cell\/X.env.kindOf y.1=some .free
 same:Nx.length=X.N.length
 dis:∀ p∈Nx.zip X.N,(p.1=p.2/\scope.names.lookup p.2≠some .local/\scope.names.lookup p.2≠some .cell)\/scope.names.lookup p.1=none
section
variable {X:Cx}{scope:Scope}{Nc Nx:List Str}
theorem CompOk.loc(c:CompOk X scope Nc Nx):∀ y∈scope.names,y.2=.local->scope.names.lookup y.1=some .local:=λy hy h=>by rw[c.one y hy,h]
theorem CompOk.old(c:CompOk X scope Nc Nx){x:Str}{k:NameKind}(h:scope.names.lookup x=some k)(hk:k≠ .cell):(x,NameKind.cell)∉scope.names:=λz=>by
 have:=c.one _ z
 rw[h]at this
 exact hk (Option.some.inj this)
theorem CompOk.cells(c:CompOk X scope Nc Nx)(ok:X.Ok):∀ y∈scope.names,y.2=.free->∃ a,X.env.cells.lookup y.1=some a:=λy hy hf=>ok.has y.1 (c.free y hy hf)
theorem Ye{x:Str}{a:Addr}(h:(Mw scope X.env).lookup x=some a):X.env.cells.lookup x=some a:=UC scope.names [] (λ_ _ e=>by simp at e) x a h
theorem Fr(C:Addr){x:Str}{a:Addr}(h:(Xz scope X.env C).lookup x=some a):X.env.cells.lookup x=some a\/(C<a/\(x,NameKind.cell)∈scope.names):=by
 rcases Ay _ _ _ x a h with h|⟨h1,h2⟩
 .exact .inl (Ye h)
 .exact .inr ⟨h1,h2⟩
theorem SC(c:CompOk X scope Nc Nx)(C:Addr){x:Str}{a:Addr}(hx:scope.names.lookup x=some .cell)(h:(Xz scope X.env C).lookup x=some a):C<a:=by
 rcases Ay _ _ _ x a h with h|⟨h1,_⟩
 .rcases TC scope.names [] x a h with h|h
  .simp at h
  .have:=c.one _ h
   rw[hx]at this
   cases this
 .exact h1
theorem Qt(c:CompOk X scope Nc Nx)(C:Addr){x:Str}{k:NameKind}(hx:scope.names.lookup x=some k)(hk:k≠ .cell):(Xz scope X.env C).lookup x=(Mw scope X.env).lookup x:=Lw _ _ _ x (c.old hx hk)
theorem VD{pins:List (Addr×Obj)}{σ:L2.St}{H:Hp}{s:Shared}{fp:List Addr}{tk:Nat}(c:CompOk X scope Nc Nx)(I:Inv X pins σ H s)(hf:∀ b∈fp,Vj X pins H b/\b<s.heap.objs.size):
  Inv (Ob X scope Nc Nx s.heap.objs.size fp pins s H) [] (replicate Nc.length none++σ) H {s with heap:=pushCells (s.heap.push {cls:=.type "dict",data:=.dict #[]}) scope.names,toks:=tk}:=by
 have hn:(pushCells (s.heap.push {cls:=.type "dict",data:=.dict #[]}) scope.names).Ns s.heap.objs.size λ_=>none:=Jx
 have hk:∀ b o,s.heap.get? b=some o->(pushCells (s.heap.push {cls:=.type "dict",data:=.dict #[]}) scope.names).get? b=some o:=λb o e=>pushCells_keeps _ _ _ _ (get?_push_of_some _ e)
 have cellLt:∀ x a,X.env.cells.lookup x=some a->a<s.heap.objs.size:=λx a e=>by
  obtain⟨v,q⟩:=I.cell x a e
  exact q.lt
 have hokind:(compEnvC scope (Xz scope X.env s.heap.objs.size) s.heap.objs.size X.env).scope.kind=.function:=c.kind
 have kinds:∀ x,((relabel scope X.env).names.lookup x=some .cell\/(relabel scope X.env).names.lookup x=some .free)->scope.names.lookup x=some .cell\/scope.names.lookup x=some .free:=λx hx'=>by
  rw[Se]at hx'
  cases q:scope.names.lookup x with
  |none=>rw[q]at hx';simp at hx'
  |some k=>
   rw[q]at hx'
   by_cases hkf:k=.free
   .rw[hkf];exact .inr rfl
   .have hb:(k==NameKind.free)=false:=by simpa using hkf
    simp only[map_some,hb,Bool.false_and,false_eq_true,if_false]at hx'
    exact hx'
 refine⟨⟨I.ok.mod,hokind,I.ok.glob,I.ok.blt,le_refl _,?_,λx hx=>?_,λx a hx e=>?_,I.ok.hd,I.ok.frames,.inl rfl,λb hb=>⟨?_,λx a e=>?_⟩,I.bs,le_trans I.ok.bsz I.sz,λb o e hb=>?_,λb hb=>?_,I.stack,I.stkFree⟩,
  rfl,I.bare,Un.kept hk,⟨_,hn,λi x v h1 h2 h3=>?_⟩,?_,I.hok.fresh (le_refl _),λx a e=>?_,λp hp=>?_,I.hok.kept hk,?_⟩
 .exact Kw scope.names _ _ (λx y a h1 h2=>I.ok.inj x y a (Ye h1) (Ye h2)) λx a h=>Nat.lt_succ_of_lt (cellLt x a (Ye h))
 .rcases kinds x hx with hc|hfree
  .exact Option.isSome_iff_exists.mp (PySem.W.cellsFrom_some scope.names _ _ (.inl hc))
  .have hm:=PySem.mem_of_lookup hfree
   obtain⟨a,e⟩:=Tt (env:=X.env) scope.names [] x (.inr ⟨hm,c.cells I.ok _ hm rfl⟩)
   exact⟨a,(Qt c _ hfree (by decide)).trans e⟩
 .have hx':(scope.names.lookup x==some NameKind.cell)=true:=hx
  exact le_of_lt (SC c _ (by simpa using hx') e)
 .exact ne_of_lt (hf b hb).2
 .rcases Fr _ e with e|⟨e,_⟩
  .exact(hf b hb).1.2.2.2.2.1 x a e
  .have:=(hf b hb).2
   exact ne_of_gt (lt_trans this e)
 .obtain⟨_,hb2⟩:=I.bs b o e
  rcases(hf b hb).1.2.2.2.1 with z|z
  .exact I.ok.noex b o e z
  .exact absurd (lt_of_lt_of_le (lt_size e) (le_trans I.ok.bsz z)) (lt_irrefl _)
 .intro z
  rcases mem_cons.mp (I.stkSub b z) with q|q
  .exact(hf b hb).1.2.1 q
  .exact(hf b hb).1.2.2.1 q
 .have hi:Nc.length<=i:=by
   refine Nat.le_of_not_lt λq=>?_
   rw[List.getElem?_append_left (by simpa using q),List.getElem?_replicate]at h2
   split at h2<;>cases h2
  have h1':Nx[i-Nc.length]? =some x:=by
   have z:(Nc++Nx)[i]? =some x:=h1
   rw[getElem?_append_right hi]at z;exact z
  have h2':σ[i-Nc.length]? =some (some v):=by
   rw[getElem?_append_right (by simpa using hi),length_replicate]at h2;exact h2
  have h3':(relabel scope X.env).names.lookup x=some .local\/(relabel scope X.env).names.lookup x=some .cell\/(relabel scope X.env).names.lookup x=some .free:=h3
  have hz:i-Nc.length<X.N.length:=by
   rw[<-c.same]
   refine Nat.lt_of_not_le λq=>?_
   rw[List.getElem?_eq_none q]at h1';cases h1'
  have hd2:=c.dis (x,X.N[i-Nc.length]'hz) (mem_of_getElem? (i:=i-Nc.length) (by
   rw[List.getElem?_zip_eq_some]
   exact⟨h1',getElem?_eq_getElem hz⟩))
  have hd3:X.N[i-Nc.length]? =some x/\scope.names.lookup x≠some .local/\scope.names.lookup x≠some .cell:=by
   rcases hd2 with⟨q1,q2⟩|q
   .have q1':x=X.N[i-Nc.length]'hz:=q1
    have q2':scope.names.lookup (X.N[i-Nc.length]'hz)≠some .local/\scope.names.lookup (X.N[i-Nc.length]'hz)≠some .cell:=q2
    rw[<-q1']at q2'
    exact⟨by rw[getElem?_eq_getElem hz,<-q1'],q2'⟩
   .exfalso
    have q':scope.names.lookup x=none:=q
    rw[Se,q']at h3'
    simp at h3'
  obtain⟨h1',hnl,hnc⟩:=hd3
  have hfree:scope.names.lookup x=some .free:=by
   rcases h3' with z|z
   .rw[Se]at z
    cases q:scope.names.lookup x with
    |none=>rw[q]at z;simp at z
    |some k=>
     rw[q]at z
     by_cases hkf:k=.free
     .rw[hkf]
     .have hb:(k==NameKind.free)=false:=by simpa using hkf
      simp only[map_some,hb,Bool.false_and,false_eq_true,if_false]at z
      rw[q]at hnl;exact absurd z hnl
   .rcases kinds x z with z|z
    .exact absurd z hnc
    .exact z
  have hm:=PySem.mem_of_lookup hfree
  have hkx:=c.free _ hm rfl
  obtain⟨mX,hnX,hl⟩:=I.loc
  obtain⟨u,r,l⟩:=hl _ x v h1' h2' (hkx.elim (λz=>.inr (.inl z)) λz=>.inr (.inr z))
  refine⟨u,r,?_⟩
  rcases l with⟨z,_⟩|⟨_,a,e,z⟩
  .have z':X.env.kindOf x=some .local:=z
   rcases hkx with q|q<;> · rw[z']at q;cases q
  .obtain⟨a',e'⟩:=Tt (env:=X.env) scope.names [] x (.inr ⟨hm,c.cells I.ok _ hm rfl⟩)
   have ea:a'=a:=by
    have:=Ye (X:=X) e'
    rw[e]at this
    exact(Option.some.inj this).symm
   subst ea
   refine .inr ⟨?_,a',(Qt c _ hfree (by decide)).trans e',?_⟩
   .show(relabel scope X.env).names.lookup x=some .cell\/(relabel scope X.env).names.lookup x=some .free
    rw[Se,hfree]
    simp only[map_some]
    split
    .exact .inl rfl
    .exact .inr rfl
   .obtain⟨o,ho,hd⟩:=z
    exact⟨o,hk _ _ ho,hd⟩
 .have q:=Hr scope.names (s.heap.push {cls:=.type "dict",data:=.dict #[]}) (Mw scope X.env) λx a e=>by
   obtain⟨v,z⟩:=I.cell x a (Ye e)
   exact⟨v,z.keeps λb o e=>get?_push_of_some _ e⟩
  rw[size_push]at q
  exact q
 .rcases Fr _ e with e|⟨e,_⟩
  .exact I.freeC x a e
  .exact I.hok.fresh (le_of_lt e)
 .have hp':p∈X.pn++pins:=by
   have z:p∈(X.pn++pins)++ []:=hp
   rwa [append_nil]at z
  obtain⟨e,n,ne,nf,d⟩:=I.pin p hp'
  refine⟨hk _ _ e,n,ne_of_lt (lt_size e),λz=>?_,d⟩
  rcases mem_cons.mp (I.stkSub p.1 z) with q|q
  .exact ne q
  .exact nf q
 .show _=(Nc++Nx).length
  rw[length_append,length_append,length_replicate,I.len,c.same]
theorem Lu{pins:List (Addr×Obj)}{σ σ':L2.St}{H H':Hp}{s s':Shared}{fp:List Addr}{h'':Heap}(I:Inv X pins σ H s)(hf:∀ b∈fp,Vj X pins H b)(J:Inv (Ob X scope Nc Nx s.heap.objs.size fp pins s H) [] σ' H' s')(hs:SameBut s.heap.objs.size s'.heap h''):Inv X pins σ H' {s' with heap:=h''}:=by
 have u:Un (Uw X.stack) fp H H' s.heap s'.heap:=J.base
 have hC:H' s.heap.objs.size=none:=J.free
 have keep:∀ b o,b≠s.heap.objs.size->s'.heap.get? b=some o->h''.get? b=some o:=λb o hb e=>by rw[hs.2 b hb];exact e
 have lt:∀ b o,s.heap.get? b=some o->b≠s.heap.objs.size:=λb o e=>ne_of_lt (lt_size e)
 refine I.call' (s':= {s' with heap:=h''}) (ch:=fp) J.os ⟨λb o e n h1 h2=>keep b o (lt b o e) (u.keep b o e n h1 h2),λb o e n h1 h2=>?_,u.free,λb o e h1=>?_,u.tups,u.frzs,u.tbls⟩ (λb o e=>?_) J.bare λb hb=>?_
 .obtain⟨sl,q⟩:=u.slot b o e n h1 h2
  exact⟨sl,keep b _ (lt b o e) q⟩
 .obtain⟨o',q⟩:=u.there b o e h1
  exact⟨o',keep b _ (lt b o e) q⟩
 .refine(J.hok b o e).stay (λc v hc q=>keep c v (λz=>?_) q) (λ_ q=>q) λ_ _ q=>q
  subst z
  rcases hc with z|z
  .rw[<-z,hC]at e;cases e
  .rw[hC]at z;cases z
 .exact⟨(hf b hb).2.2.2.1,(hf b hb).2.1,(hf b hb).2.2.2.2.1,(hf b hb).2.2.2.2.2⟩
end
theorem Ut{prog:Program}{w:World}{A:Around}{R:Result->Shared->Prop}{s:Shared}{elt target iter:Expr}{ifs:List Expr}{scope:Scope}{pos:Pos}{it acc:Value}{env:Env}(I:Nat->Shared->Prop)(turn:∀ n s,I n s->wpAny (model prog w) A (pyNext it) (λr s₁=>match r with
   |none=>R (.ok .next) s₁
   |some v=>wpAny (model prog w) A (letOwnedTupleGo target it v) (λ_ s₁'=>wpAny (model prog w) A (assign target env v) (λ_ s₂=>
     wpAny (model prog w) A (forIn ifs true λc r=>if r=true then do let ok <-isTrue c env (eval c env);pure (ForInStep.yield ok) else pure (ForInStep.yield r)) (λok s₃=>
      if ok=true then wpAny (model prog w) A (eval elt env) (λx s₄=>
       wpAny (model prog w) A (call (.builtin "list.append") [acc,x]) (λ_ s₅=>∃ m,m<n/\I m s₅) (λ_ _=>False) s₄) (λ_ _=>False) s₃
      else ∃ m,m<n/\I m s₃) (λ_ _=>False) s₂) (λ_ _=>False) s₁') (λ_ _=>False) s₁) (λ_ _=>False) s)(n:Nat)(h:I n s):
  codeAny (model prog w) A (.compLoop (.ListComp elt [⟨target,iter,ifs,0⟩] scope pos) 0 it acc env) R s:=by
 refine codeAny_loop rfl I (λn s hI=>?_) n h
 show wpAny _ A ((compTurn (.ListComp elt [⟨target,iter,ifs,0⟩] scope pos) 0 it acc env).onRaise (λx=>do noteFrame x env;theTreesLotGoes x)) _ _ s
 refine wpAny_noted ?_
 rw[compTurn_list]
 refine wpAny_bind (wpAny_standAt (wpAny_bind (wpAny_mono (turn n s hI) (λr s₁ h₁=>?_) λ_ _ h'=>h'.elim)))
 cases r with
 |none=>exact wpAny_pure h₁
 |some v=>
  refine wpAny_bind (wpAny_mono h₁ (λ_ s₁' h₁'=>wpAny_bind (wpAny_mono h₁' (λ_ s₂ h₂=>wpAny_bind (wpAny_mono h₂ (λok s₃ h₃=>?_) λ_ _ h'=>h'.elim)) λ_ _ h'=>h'.elim)) λ_ _ h'=>h'.elim)
  cases ok with
  |false=>exact wpAny_pure ⟨rfl,h₃⟩
  |true=>
   exact wpAny_bind (wpAny_bind (wpAny_mono h₃ (λx s₄ h₄=>wpAny_bind (wpAny_mono h₄ (λ_ s₅ h₅=>wpAny_pure (wpAny_pure ⟨rfl,h₅⟩)) λ_ _ h'=>h'.elim)) λ_ _ h'=>h'.elim))
def FU(X:Cx)(ifs:List Expr)(t:TT):Prop:=
 ∀ (pins:List (Addr×Obj)) (s:Shared) (σ:L2.St) (H:Hp) (Q:Bool->Hp->Prop),Inv X pins σ H s->t σ H Q->
  wpAny (model X.prog X.w) X.A (forIn ifs true λc r=>if r=true then do let ok <-isTrue c X.env (eval c X.env);pure (ForInStep.yield ok) else pure (ForInStep.yield r)) (TP X pins σ Q) X.xe s
def F1:TT:=λ_ H Q=>Q true H
theorem PL{X:Cx}:FU X [] F1:=λ_ s σ H Q I h=>wpAny_tests_nil ⟨H,I,h⟩
theorem QL{X:Cx}{c:Expr}{t:TT}(h:PT X c t):FU X [c] t:=λpins s σ H Q I q=>wpAny_tests_one (h pins s σ H Q I q)
def FG(n:Nat)(wi:TI)(g:TG)(tt:TT)(te:TE):TE:=λσ H Q=>wi σ H λJ H1=>∀ a,H1 a=none->∃ W:Nat->Nat->List V->L2.St->Hp->Prop,(∃ m,W 0 m [] (replicate n none++σ) (Ib H1 a (.lst [])))/\
 ∀ i m xs σ' H,W i m xs σ' H->H a=some (.lst xs)/\((J.stop i H/\Q (.ref a) H)\/(J.go i H/\∀ x H',J.yld i H x H'->g x σ' H' λσ2 H2=>tt σ2 H2 λb H3=>
  if b=true then te σ2 H3 λy H4=>H4 a=some (.lst xs)/\xs.length<sizeLine/\∃ m',m'<m/\W (i+1) m' (xs++ [y]) σ2 (Ib H4 a (.lst (xs++ [y]))) else ∃ m',m'<m/\W (i+1) m' xs σ2 H3))
section
variable {X:Cx}{scope:Scope}{Nc Nx:List Str}{elt tg iter:Expr}{ifs:List Expr}{pos:Pos}{wi:TI}{g:TG}{tt:TT}{te:TE}
theorem Sn(c:CompOk X scope Nc Nx)(hcalm:X.calm=true)(hY:∀ (C:Addr) (fp:List Addr) (pins:List (Addr×Obj)) (s:Shared) (H:Hp),PG (Ob X scope Nc Nx C fp pins s H) tg g/\FU (Ob X scope Nc Nx C fp pins s H) ifs tt/\PE (Ob X scope Nc Nx C fp pins s H) elt te){pins:List (Addr×Obj)}{σ:L2.St}{s2:Shared}{it:Addr}{fp:List Addr}{tn:Nat->Heap->Prop}{J:It}{H1:Hp}{Q:V->Hp->Prop}{RR:Value->Addr->Result->Shared->Prop}{E:Value->Shared->Prop}(I:Inv X pins σ H1 s2)(T:Turn X.prog X.w X.K tg J fp it tn)(st:tn 0 s2.heap)(hf:∀ b∈fp,Vj X pins H1 b)(h:∀ a,H1 a=none->∃ W:Nat->Nat->List V->L2.St->Hp->Prop,(∃ m,W 0 m [] (replicate Nc.length none++σ) (Ib H1 a (.lst [])))/\
 ∀ i m xs σ' H,W i m xs σ' H->H a=some (.lst xs)/\((J.stop i H/\Q (.ref a) H)\/(J.go i H/\∀ x H',J.yld i H x H'->g x σ' H' λσ2 H2=>tt σ2 H2 λb H3=>
  if b=true then te σ2 H3 λy H4=>H4 a=some (.lst xs)/\xs.length<sizeLine/\∃ m',m'<m/\W (i+1) m' (xs++ [y]) σ2 (Ib H4 a (.lst (xs++ [y]))) else ∃ m',m'<m/\W (i+1) m' xs σ2 H3)))(hRR:∀ a H' σ' s' s3,Inv X pins σ (Ib H1 a (.lst [])) s3->(∀ b∈fp,Vj X pins (Ib H1 a (.lst [])) b)->Inv (Ob X scope Nc Nx s3.heap.objs.size fp pins s3 (Ib H1 a (.lst []))) [] σ' H' s'->Q (.ref a) H'->RR (.ref a) s3.heap.objs.size (.ok .next) s'):
  wpAny (model X.prog X.w) X.A (newList []) (λacc s₃=>wpAny (model X.prog X.w) X.A (newFunctionEnv scope X.env.globals (Mw scope X.env) [] X.env.qual none .none (some X.env)) (λcenv s₄=>
   codeAny (model X.prog X.w) X.A (.compStart (.ListComp elt [⟨tg,iter,ifs,0⟩] scope pos) 0 (.ref it) acc {cenv with scope:=relabel scope X.env}) (RR acc cenv.locals) s₄) E s₃) E s2:=by
 have hfree:H1 s2.heap.objs.size=none:=I.hok.fresh (le_refl _)
 refine wpAny_newObj_type (Wl ?_)
 dsimp only
 generalize ea:s2.heap.objs.size=a at hfree
 have I3:Inv X pins σ (Ib H1 a (.lst [])) {s2 with heap:=s2.heap.push {cls:=.type "list",dict:=none,data:=.seq ([]:List Value).toArray},toks:=s2.toks}:=by
  subst ea
  exact I.laid (t':=s2.toks) (λb u e=>get?_push_of_some _ e) (le_refl _) ⟨zero_le _,[],_,.nil,get?_push_size _ rfl⟩
 generalize eS:({s2 with heap:=s2.heap.push {cls:=.type "list",dict:=none,data:=.seq ([]:List Value).toArray},toks:=s2.toks}:Shared)=s3 at I3
 have e3h:s3.heap=s2.heap.push {cls:=.type "list",dict:=none,data:=.seq ([]:List Value).toArray}:=by rw[<-eS]
 have obj0:=T.obj 0 _ st
 have hf3:∀ b∈fp,Vj X pins (Ib H1 a (.lst [])) b:=λb hb=>by
  obtain⟨o,e,_⟩:=obj0 b hb
  have:b≠a:=by rw[<-ea];exact ne_of_lt (lt_size e)
  exact⟨by rw[Da this];exact(hf b hb).1,(hf b hb).2⟩
 have up:∀ b o,s2.heap.get? b=some o->s3.heap.get? b=some o:=λb o e=>by rw[e3h];exact get?_push_of_some _ e
 have hf3':∀ b∈fp,Vj X pins (Ib H1 a (.lst [])) b/\b<s3.heap.objs.size:=λb hb=>⟨hf3 b hb,by
  obtain⟨o,e,_⟩:=obj0 b hb
  exact lt_size (up b o e)⟩
 have eC:(s2.heap.push {cls:=.type "list",dict:=none,data:=.seq ([]:List Value).toArray}).objs.size=s3.heap.objs.size:=by rw[e3h]
 generalize eh:pushCells ((s2.heap.push {cls:=.type "list",dict:=none,data:=.seq ([]:List Value).toArray}).push {cls:=.type "dict",data:=.dict #[]}) scope.names=h₁
 have hk4:∀ b o,s3.heap.get? b=some o->h₁.get? b=some o:=λb o e=>by
  rw[<-eh,<-e3h]
  exact pushCells_keeps _ _ _ _ (get?_push_of_some _ e)
 have I4:=VD (tk:=s2.toks) c I3 hf3'
 have e4:({s3 with heap:=pushCells (s3.heap.push {cls:=.type "dict",data:=.dict #[]}) scope.names,toks:=s2.toks}:Shared)= {s2 with heap:=h₁}:=by rw[<-eh,<-eS]
 rw[e4]at I4
 obtain⟨W,⟨m0,w0⟩,turn⟩:=h a hfree
 obtain⟨hg,htt,hte⟩:=hY s3.heap.objs.size fp pins s3 (Ib H1 a (.lst []))
 have loop:codeAny (model X.prog X.w) X.A (.compLoop (.ListComp elt [⟨tg,iter,ifs,0⟩] scope pos) 0 (.ref it) (.ref a) (compEnvC scope (Xz scope X.env s3.heap.objs.size) s3.heap.objs.size X.env)) (RR (.ref a) s3.heap.objs.size) {s2 with heap:=h₁}:=by
  refine Ut (λn s'=>∃ i xs σ' H',Inv (Ob X scope Nc Nx s3.heap.objs.size fp pins s3 (Ib H1 a (.lst []))) [] σ' H' s'/\tn i s'.heap/\(∀ b∈fp,H' b=none)/\W i n xs σ' H') ?_ m0
   ⟨0,[],_,_,I4,T.keep _ _ _ st λb _ o e=>hk4 b o (up b o e),λb hb=>(hf3 b hb).1,w0⟩
  rintro n s5 ⟨i,xs,σ5,H5,I5,st5,fr5,w5⟩
  have stat:∀ {H':Hp},(∀ b∈fp,H' b=none)->∀ b∈fp,Vj (Ob X scope Nc Nx s3.heap.objs.size fp pins s3 (Ib H1 a (.lst []))) [] H' b:=λ{H'} hn b hb=>by
   obtain⟨_,f1,f2,f3,f4,f5⟩:=hf3 b hb
   refine⟨hn b hb,ne_of_lt (hf3' b hb).2,λz=>?_,.inl hb,λx cc e=>(Fr _ e).elim (λe=>f4 x cc e) λe=>ne_of_gt (lt_trans (hf3' b hb).2 e.1),λp hp=>f5 p ?_⟩
   .rcases mem_cons.mp (I3.stkSub b z) with q|q
    .exact f1 q
    .exact f2 q
   .have z:p∈(X.pn++pins)++ []:=hp
    rwa [append_nil]at z
  obtain⟨hxs,alt⟩:=turn i n xs σ5 H5 w5
  rcases alt with⟨stop,qn⟩|⟨go,step⟩
  .refine wpAny_mono (T.done (Ob X scope Nc Nx s3.heap.objs.size fp pins s3 (Ib H1 a (.lst []))) rfl rfl rfl hcalm i [] s5 σ5 H5 (λ_ _=>False) I5 (stat fr5) st5 stop) (λr s6 ⟨hr,I6⟩=>?_) λ_ _ z=>z
   subst hr
   exact hRR a H5 σ5 s6 s3 I3 hf3 I6 qn
  .refine wpAny_mono (T.item (Ob X scope Nc Nx s3.heap.objs.size fp pins s3 (Ib H1 a (.lst []))) rfl rfl rfl hcalm i [] s5 σ5 H5 (λ_ _=>False) I5 (stat fr5) st5 go) (λr s6 ⟨u,hr,h6⟩=>?_) λ_ _ z=>z
   subst hr
   refine wpAny_mono h6 (λ_ s7 ⟨x,H7,I7,r7,y7,st7,fr7⟩=>?_) λ_ _ z=>z
   have I7':=I7.pinned (stat fr7) (T.obj _ _ st7)
   have fin:∀ {σ9:L2.St} {H9:Hp} {s9:Shared},Inv (Ob X scope Nc Nx s3.heap.objs.size fp pins s3 (Ib H1 a (.lst []))) ([]++Lo fp s7.heap) σ9 H9 s9->Inv (Ob X scope Nc Nx s3.heap.objs.size fp pins s3 (Ib H1 a (.lst []))) [] σ9 H9 s9/\tn (i+1) s9.heap/\(∀ b∈fp,H9 b=none):=λ{σ9 H9 s9} I9=>by
    refine⟨I9.unpinned,T.keep _ _ _ st7 λb hb o e=>(I9.pin (b,o) (mem_append_right _ (mem_append_right _ (Zh hb e)))).1,λb hb=>?_⟩
    obtain⟨o,e,d⟩:=T.obj _ _ st7 b hb
    exact(I9.pin (b,o) (mem_append_right _ (mem_append_right _ (Zh hb e)))).2.1
   refine wpAny_mono (hg _ s7 σ5 H7 x u _ I7' r7 (step x H7 y7)) (λ_ s8 ⟨σ8,H8,I8,q8⟩=>?_) λ_ _ z=>z
   refine wpAny_mono (htt _ s8 σ8 H8 _ I8 q8) (λb s9 ⟨H9,I9,q9⟩=>?_) λ_ _ z=>z
   cases b with
   |false=>
    obtain⟨m',hm,w9⟩:=q9
    obtain⟨J1,J2,J3⟩:=fin I9
    exact⟨m',hm,i+1,xs,σ8,H9,J1,J2,J3,w9⟩
   |true=>
    refine wpAny_mono (hte _ s9 σ8 H9 _ I9 q9) (λy s10 ⟨v,H10,I10,r10,q10⟩=>?_) λ_ _ z=>z
    obtain⟨e10,hl10,m',hm,w10⟩:=q10
    refine wpAny_mono (Kq (X:=Ob X scope Nc Nx s3.heap.objs.size fp pins s3 (Ib H1 a (.lst []))) _ s10 σ8 H10 (.ref a) [v] (.ref a) [y] (λ_ H'=>H'=Ib H10 a (.lst (xs++ [v]))) I10 rfl (.cons r10 .nil) ⟨a,xs,v,rfl,rfl,e10,hl10,rfl⟩) (λ_ s11 ⟨_,H11,I11,_,q11⟩=>?_) λ_ _ z=>z
    subst q11
    obtain⟨J1,J2,J3⟩:=fin I11
    exact⟨m',hm,i+1,xs++ [v],σ8,_,J1,J2,J3,w10⟩
 have st4:tn 0 h₁:=T.keep _ _ _ st λb _ o e=>hk4 b o (up b o e)
 rw[e3h]at loop
 subst ea
 exact codeAny_compStart_list loop (T.self _ 0 _ _ _ st4 loop)
theorem BL(c:CompOk X scope Nc Nx)(hcalm:X.calm=true)(hi:PI X tg iter wi)(hY:∀ (C:Addr) (fp:List Addr) (pins:List (Addr×Obj)) (s:Shared) (H:Hp),PG (Ob X scope Nc Nx C fp pins s H) tg g/\FU (Ob X scope Nc Nx C fp pins s H) ifs tt/\PE (Ob X scope Nc Nx C fp pins s H) elt te)(hs:∀ x,foldedSetIterable iter X.env x=pure x:=by intro _;rfl):
  PE X (.ListComp elt [⟨tg,iter,ifs,0⟩] scope pos) (FG Nc.length wi g tt te):=by
 intro pins s σ H Q I h
 rw[eval_ListComp]
 refine wpAny_comprehension_free (use:=none) rfl hs (By (c.cells I.ok)) c.kind c.loc (Yc (hi pins s σ H _ I h) λv s1 h1=>Yc h1 λitv s2 h2=>?_)
 obtain⟨it,fp,tn,J,H2,rfl,I2,T,st2,f2,q⟩:=h2
 refine Sn (Q:=Q) (RR:=λacc C=>compPost (model X.prog X.w) X.A X.xe none (EP X pins σ Q) acc C) c hcalm hY I2 T st2 f2 q ?_
 intro a H' σ' s' s3 I3 hf3 IY qa
 obtain⟨m,hn,_⟩:=IY.loc
 exact⟨m,hn,λh' hs'=>⟨.ref a,H',Lu I3 hf3 IY hs',rfl,qa⟩⟩
theorem NL{i:Nat}{y:Str}{py spos:Pos}(c:CompOk X scope Nc Nx)(hcalm:X.calm=true)(hi:PI X tg iter wi)(hY:∀ (C:Addr) (fp:List Addr) (pins:List (Addr×Obj)) (s:Shared) (H:Hp),PG (Ob X scope Nc Nx C fp pins s H) tg g/\FU (Ob X scope Nc Nx C fp pins s H) ifs tt/\PE (Ob X scope Nc Nx C fp pins s H) elt te)(hN:X.N.Nodup)(hiN:X.N[i]? =some y)(hx:Ew X.env.scope y)(hsw:swapsWith (.ListComp elt [⟨tg,iter,ifs,0⟩] scope pos) (some (.Name y py)) spos.line X.env=pure true:=by rfl)(hf:X.fn y=true\/X.env.scope.names.lookup y=some .local:=by first|exact .inl rfl|exact .inr rfl|assumption)(hs:∀ x,foldedSetIterable iter X.env x=pure x:=by intro _;rfl):
  PS X (.Assign [.Name y py] (.ListComp elt [⟨tg,iter,ifs,0⟩] scope pos) spos) (GT (FG Nc.length wi g tt te) (Fu i)):=by
 intro pins s σ H Dn I h
 rw[exec_Assign_Name_used _ _ _ _ hsw]
 refine wpAny_bind (wpAny_standAt (wpAny_bind ?_))
 show wpAny _ X.A (do let _ <-comprehension (.ListComp elt [⟨tg,iter,ifs,0⟩] scope pos) scope X.env _ (newList []) false (eval iter X.env) (some (assign (.Name y py) X.env))) _ _ s
 refine wpAny_bind (wpAny_mono (wpAny_comprehension_free (use:=some (assign (.Name y py) X.env)) (Q:=λ_ s'=>SP X pins Dn .next s') rfl hs (By (c.cells I.ok)) c.kind c.loc
  (Yc (hi pins s σ H _ I h) λv s1 h1=>Yc h1 λitv s2 h2=>?_)) (λ_ s' hq=>wpAny_pure (wpAny_pure hq)) λ_ _ e=>e)
 obtain⟨it,fp,tn,J,H2,rfl,I2,T,st2,f2,q⟩:=h2
 refine Sn (Q:=λx H1=>Fu i x σ H1 Dn.nx) (RR:=λacc C=>compPost (model X.prog X.w) X.A X.xe (some (assign (.Name y py) X.env)) (λ_ s'=>SP X pins Dn .next s') acc C) c hcalm hY I2 T st2 f2 q ?_
 intro a H' σ' s' s3 I3 hf3 IY qa
 obtain⟨m,⟨o,es,ep,ho,hod,hrest⟩,_⟩:=IY.loc
 have ho':s'.heap.get? s3.heap.objs.size=some o:=ho
 have IX:Inv X pins σ H' s':=Lu I3 hf3 IY (h'':=s'.heap) (SameBut.refl _ _)
 have hC0:H' s3.heap.objs.size=none:=IY.free
 have ncell:∀ v,o.data≠ .cell v:=λv z=>by rw[hod]at z;cases z
 have hL:s3.heap.objs.size≠X.env.locals:=ne_of_gt I3.lt
 have IX':Inv X (pins++ [(s3.heap.objs.size,o)]) σ H' s':=IX.pins_of λp hp=>(mem_append.mp hp).elim (λz=>IX.pin p (mem_append_right _ z)) λz=>by
  have e:p=(s3.heap.objs.size,o):=by simpa using z
  subst e
  exact⟨ho',hC0,hL,I3.nofs (le_refl _),ncell⟩
 have hcells:∀ x cc,X.env.cells.lookup x=some cc->cc≠s3.heap.objs.size:=λx cc e z=>by
  obtain⟨v,q⟩:=I3.cell x cc e
  exact absurd q.lt (by rw[z];exact lt_irrefl _)
 show wpAny _ X.A (assign (.Name y py) X.env (.ref a)) _ _ s'
 refine wpAny_assign_Name (To IX' hN hiN hx (v:=.ref a) rfl (λs5 I5=>?_) hf)
 have p5:=I5.pin (s3.heap.objs.size,o) (mem_append_right _ (mem_append_right _ (by simp)))
 refine⟨m,⟨o,es,ep,p5.1,hod,hrest⟩,λh' hs'=>⟨_,H',?_,qa⟩⟩
 have I5':=I5.unpinned
 exact I5'.turned (t':=s5.toks) (it:=s3.heap.objs.size) (λb ob hb e=>by rw[hs'.2 b hb];exact e) hC0 hL (.inr I3.sz) hcells λp hp z=>absurd (lt_size (I3.pin p hp).1) (by rw[z];exact lt_irrefl _)
end
end L3
namespace L3
open PySem PySem.Spec PyProof.Rows L2 SeqAt
mutual
def Jg:D->D->Bool
 | .non,.non=>true
 | .bl a,.bl b=>a==b
 | .int a,.int b=>a==b
 | .str a,.str b=>a==b
 | .bl a,.int b=>(if a then 1 else 0)==b
 | .int a,.bl b=>a==(if b then 1 else 0)
 | .tup a,.tup b=>Yt a b
 | .lst a,.lst b=>Yt a b
 |_,_=>false
def Yt:List D->List D->Bool
 | [],[]=>true
 |a::as,b::bs=>Jg a b&&Yt as bs
 |_,_=>false
end
def Kc:Nat->D->Bool
 |_,.non=>true
 |_,.bl _=>true
 |_,.int _=>true
 |_,.str _=>true
 |n+1,.tup ds=>ds.all (Kc n)
 |n+1,.lst ds=>ds.all (Kc n)
 |_,_=>false
theorem Nl:∀ (as bs:List D),as.length=bs.length->Yt as bs=(range as.length).all λj=>Jg (as.getD j .non) (bs.getD j .non)
 | [],[],_=>by simp[Yt]
 |a::as,b::bs,h=>by
  rw[Yt,List.length_cons,List.range_succ_eq_map,all_cons,List.all_map,Nl as bs (by simpa using h)]
  rfl
 | [],_::_,h=>by simp at h
 |_::_,[],h=>by simp at h
theorem Lr:∀ (as bs:List D),as.length≠bs.length->Yt as bs=false
 | [],[],h=>absurd rfl h
 |a::as,b::bs,h=>by rw[Yt,Lr as bs (by simpa using h),Bool.and_false]
 | [],_::_,h=>by simp[Yt]
 |_::_,[],h=>by simp[Yt]
section
variable {X:Cx}{pins:List (Addr×Obj)}{σ:L2.St}{W:WS}{H:Hp}{s:Shared}
theorem Has.notup{W:WS}{H:Hp}{K:Frag}(I:Inv X pins σ H s){a:Addr}{xs ys:List V}(h1:SqL X.K H a xs)(h2:SqT X.K H a ys):False:=by
 obtain⟨its,_,⟨o,n,e,c,_⟩,_⟩:=I.list h1
 obtain⟨its',_,⟨o',e',c',_⟩,_⟩:=I.tuple h2
 rw[e]at e';cases e'
 rw[c]at c'
 exact absurd c' (by simp)
theorem HasT.ref{K:Frag}{d:D}{x:V}{n:Nat}(h:HasT K W H d x)(hs:Kc n d=true):
  (d=.non/\x=.non)\/(∃ b,d=.bl b/\x=.bl b)\/(∃ b,d=.int b/\x=.int b)\/(∃ b,d=.str b/\x=.str b)\/
  (∃ ds a xs m,n=m+1/\d=.tup ds/\x=.ref a/\SqT K H a xs/\HasL K W H ds xs/\∀ y∈ds,Kc m y=true)\/
  (∃ ds a xs m,n=m+1/\d=.lst ds/\x=.ref a/\SqL K H a xs/\HasL K W H ds xs/\∀ y∈ds,Kc m y=true):=by
 cases d with
 |non=>exact .inl ⟨rfl,h.non⟩
 |bl b=>exact .inr (.inl ⟨b,rfl,h.bl⟩)
 |int b=>exact .inr (.inr (.inl ⟨b,rfl,h.int⟩))
 |str b=>exact .inr (.inr (.inr (.inl ⟨b,rfl,h.str⟩)))
 |tup ds=>
  obtain⟨a,xs,e,q,r⟩:=h.tup
  cases n with
  |zero=>simp[Kc]at hs
  |succ m=>
   rw[Kc,all_eq_true]at hs
   exact .inr (.inr (.inr (.inr (.inl ⟨ds,a,xs,m,rfl,rfl,e,q,r,hs⟩))))
 |lst ds=>
  obtain⟨a,xs,e,q,r⟩:=h.lst
  cases n with
  |zero=>simp[Kc]at hs
  |succ m=>
   rw[Kc,all_eq_true]at hs
   exact .inr (.inr (.inr (.inr (.inr ⟨ds,a,xs,m,rfl,rfl,e,q,r,hs⟩))))
 |dct k ds=>cases n<;>simp[Kc]at hs
 |exc k ds=>cases n<;>simp[Kc]at hs
 |obj c k ds=>cases n<;>simp[Kc]at hs
theorem GD(I:Inv X pins σ H s):∀ (n:Nat) {d e:D} {x:V},HasT X.K W H d x->HasT X.K W H e x->Kc n d=true->Kc n e=true->Jg d e=true:=by
 intro n
 induction n with
 |zero=>
  intro d e x h1 h2 s1 s2
  rcases h1.ref s1 with⟨rfl,rfl⟩|⟨b,rfl,rfl⟩|⟨b,rfl,rfl⟩|⟨b,rfl,rfl⟩|⟨_,_,_,m,z,_⟩|⟨_,_,_,m,z,_⟩<;>
  rcases h2.ref s2 with⟨rfl,e2⟩|⟨c,rfl,e2⟩|⟨c,rfl,e2⟩|⟨c,rfl,e2⟩|⟨_,_,_,m',z',_⟩|⟨_,_,_,m',z',_⟩<;>first|(cases z;done)|(cases z';done)|(cases e2;done)|(cases e2;simp[Jg])
 |succ n ih=>
  have lists:∀ {ds es:List D} {xs:List V},HasL X.K W H ds xs->HasL X.K W H es xs->(∀ y∈ds,Kc n y=true)->(∀ y∈es,Kc n y=true)->Yt ds es=true:=by
   intro ds
   induction ds with
   |nil=>
    intro es xs h1 h2 _ _
    have e1:=h1.length
    have e2:=h2.length
    cases es with
    |nil=>simp[Yt]
    |cons=>simp at e1 e2;omega
   |cons d ds ih2=>
    intro es xs h1 h2 g1 g2
    rw[HasL]at h1
    obtain⟨x,r,rfl,q,t⟩:=h1
    cases es with
    |nil=>rw[HasL]at h2;cases h2
    |cons e es=>
     rw[HasL]at h2
     obtain⟨x',r',ee,q',t'⟩:=h2
     cases ee
     rw[Yt,ih (.inl q) (.inl q') (g1 d mem_cons_self) (g2 e mem_cons_self),ih2 t t' (λy hy=>g1 y (mem_cons_of_mem _ hy)) λy hy=>g2 y (mem_cons_of_mem _ hy)]
     rfl
  intro d e x h1 h2 s1 s2
  rcases h1.ref s1 with⟨rfl,rfl⟩|⟨b,rfl,rfl⟩|⟨b,rfl,rfl⟩|⟨b,rfl,rfl⟩|⟨ds,a,xs,m,z,rfl,rfl,q,r,g⟩|⟨ds,a,xs,m,z,rfl,rfl,q,r,g⟩<;>
  rcases h2.ref s2 with⟨rfl,e2⟩|⟨c,rfl,e2⟩|⟨c,rfl,e2⟩|⟨c,rfl,e2⟩|⟨es,a',ys,m',z',rfl,e2,q',r',g'⟩|⟨es,a',ys,m',z',rfl,e2,q',r',g'⟩<;>first|(cases e2;done)|(cases e2;simp[Jg];done)|skip
  .cases e2
   cases z;cases z'
   have:=I.tuple_inj q q'
   subst this
   rw[Jg];exact lists r r' g g'
  .cases e2
   exact(Has.notup (K:=X.K) (W:=W) (H:=H) I q' q).elim
  .cases e2
   exact(Has.notup (K:=X.K) (W:=W) (H:=H) I q q').elim
  .cases e2
   cases z;cases z'
   have:=I.list_inj q q'
   subst this
   rw[Jg];exact lists r r' g g'
theorem Tm{ds:List D}{j:Nat}(h:j<ds.length):ds[j]? =some (ds.getD j .non):=by
 rw[List.getD_eq_getElem?_getD,getElem?_eq_getElem h];rfl
theorem Nz{xs:List V}{its:List Value}(r:Vals xs its){j:Nat}{x:V}(e:xs[j]? =some x)(h:j<its.toArray.size):RelV x its.toArray[j]:=by
 obtain⟨u,h1,h2⟩:=r.get e
 have:its.toArray[j]? =some u:=by simpa using h1
 rw[Array.getElem?_eq_getElem h]at this
 cases this
 exact h2
theorem Zn{A:Around}(n:Nat)(ih:∀ {d e:D} {x y:V} {v u:Value},HasT X.K W H d x->HasT X.K W H e y->RelV x v->RelV y u->Kc n d=true->Kc n e=true->EqAt A s v u (Jg d e)){ds es:List D}{xs ys:List V}{its its':List Value}(r:HasL X.K W H ds xs)(r':HasL X.K W H es ys)(v:Vals xs its)(v':Vals ys its')(g:∀ y∈ds,Kc n y=true)(g':∀ y∈es,Kc n y=true):
  ∀ j (h1:j<its.toArray.size) (h2:j<its'.toArray.size),EqAt A s its.toArray[j] its'.toArray[j] (Jg (ds.getD j .non) (es.getD j .non)):=by
 intro j h1 h2
 have l1:j<ds.length:=by rw[r.length,v.length];simpa using h1
 have l2:j<es.length:=by rw[r'.length,v'.length];simpa using h2
 obtain⟨x,e1,q1⟩:=r.get (Tm l1)
 obtain⟨y,e2,q2⟩:=r'.get (Tm l2)
 exact ih (.inl q1) (.inl q2) (Nz v e1 h1) (Nz v' e2 h2) (g _ (mem_of_getElem? (Tm l1))) (g' _ (mem_of_getElem? (Tm l2)))
theorem HasT.view(I:Inv X pins σ H s){d:D}{x:V}{v:Value}{n:Nat}(h:HasT X.K W H d x)(rx:RelV x v)(hs:Kc n d=true):
  (d=.non/\v=.none)\/(∃ b,d=.bl b/\v=.bool b)\/(∃ b t,d=.int b/\v=.int b t)\/(∃ b t,d=.str b/\v=.str b t)\/
  (∃ ds a xs its m,n=m+1/\d=.tup ds/\x=.ref a/\v=.ref a/\HasL X.K W H ds xs/\Vals xs its/\s.heap.IsTuple a its.toArray/\∀ y∈ds,Kc m y=true)\/
  (∃ ds a xs its m,n=m+1/\d=.lst ds/\x=.ref a/\v=.ref a/\HasL X.K W H ds xs/\Vals xs its/\s.heap.IsList a its.toArray/\∀ y∈ds,Kc m y=true):=by
 rcases h.ref hs with⟨rfl,rfl⟩|⟨b,rfl,rfl⟩|⟨b,rfl,rfl⟩|⟨b,rfl,rfl⟩|⟨ds,a,xs,m,z,rfl,rfl,q,r,g⟩|⟨ds,a,xs,m,z,rfl,rfl,q,r,g⟩
 .exact .inl ⟨rfl,rx⟩
 .exact .inr (.inl ⟨b,rfl,rx⟩)
 .obtain⟨t,e⟩:=rx
  exact .inr (.inr (.inl ⟨b,t,rfl,e⟩))
 .obtain⟨t,e⟩:=rx
  exact .inr (.inr (.inr (.inl ⟨b,t,rfl,e⟩)))
 .obtain⟨its,rv,p,_⟩:=I.tuple q
  exact .inr (.inr (.inr (.inr (.inl ⟨ds,a,xs,its,m,z,rfl,rfl,rx,r,rv,p,g⟩))))
 .obtain⟨its,rv,p,_⟩:=I.list q
  exact .inr (.inr (.inr (.inr (.inr ⟨ds,a,xs,its,m,z,rfl,rfl,rx,r,rv,p.isList,g⟩))))
theorem FD(I:Inv X pins σ H s):∀ (n:Nat) (A:Around) {d e:D} {x y:V} {v u:Value},A.units+n<cLine->HasT X.K W H d x->HasT X.K W H e y->RelV x v->RelV y u->Kc n d=true->Kc n e=true->
  EqAt A s v u (Jg d e)/\RcAt A s v u (Jg d e)/\RcNeAt A s v u (!Jg d e):=by
 intro n
 induction n with
 |zero=>
  intro A d e x y v u hu h1 h2 rx ry s1 s2
  rcases h1.view I rx s1 with⟨rfl,rfl⟩|⟨b,rfl,rfl⟩|⟨b,t,rfl,rfl⟩|⟨b,t,rfl,rfl⟩|⟨_,_,_,_,m,z,_⟩|⟨_,_,_,_,m,z,_⟩<;>
  rcases h2.view I ry s2 with⟨rfl,rfl⟩|⟨c,rfl,rfl⟩|⟨c,t',rfl,rfl⟩|⟨c,t',rfl,rfl⟩|⟨_,_,_,_,m',z',_⟩|⟨_,_,_,_,m',z',_⟩<;>first|(cases z;done)|(cases z';done)|skip
  .exact⟨EqAt.same _,RcAt.none_none,RcNeAt.none_none⟩
  .exact⟨EqAt.none_bool _,RcAt.none_bool _,RcNeAt.none_bool _⟩
  .exact⟨EqAt.none_int _ _,RcAt.none_int _ _,RcNeAt.none_int _ _⟩
  .exact⟨EqAt.none_str _ _,RcAt.none_str _ _,RcNeAt.none_str _ _⟩
  .exact⟨EqAt.bool_none _,RcAt.bool_none _,RcNeAt.bool_none _⟩
  .exact⟨EqAt.bool_bool _ _,RcAt.bool_bool _ _,RcNeAt.bool_bool _ _⟩
  .exact⟨EqAt.bool_int _ _ _,RcAt.bool_int _ _ _,RcNeAt.bool_int _ _ _⟩
  .exact⟨EqAt.bool_str _ _ _,RcAt.bool_str _ _ _,RcNeAt.bool_str _ _ _⟩
  .exact⟨EqAt.int_none _ _,RcAt.int_none _ _,RcNeAt.int_none _ _⟩
  .exact⟨EqAt.int_bool _ _ _,RcAt.int_bool _ _ _,RcNeAt.int_bool _ _ _⟩
  .exact⟨EqAt.int_int _ _ _ _,RcAt.int_int _ _ _ _,RcNeAt.int_int _ _ _ _⟩
  .exact⟨EqAt.int_str _ _ _ _,RcAt.int_str _ _ _ _,RcNeAt.int_str _ _ _ _⟩
  .exact⟨EqAt.str_none _ _,RcAt.str_none _ _,RcNeAt.str_none _ _⟩
  .exact⟨EqAt.str_bool _ _ _,RcAt.str_bool _ _ _,RcNeAt.str_bool _ _ _⟩
  .exact⟨EqAt.str_int _ _ _ _,RcAt.str_int _ _ _ _,RcNeAt.str_int _ _ _ _⟩
  .exact⟨EqAt.str_str _ _ _ _,RcAt.str_str _ _ _ _,RcNeAt.str_str _ _ _ _⟩
 |succ n ih=>
  intro A d e x y v u hu h1 h2 rx ry s1 s2
  have hu0:A.units<cLine:=by omega
  have hu1:A.in1.units+n<cLine:=by show A.units+1+n<cLine;omega
  have same:=λ(ee:x=y)=>GD I (n+1) h1 (ee▸h2) s1 s2
  rcases h1.view I rx s1 with⟨rfl,rfl⟩|⟨b,rfl,rfl⟩|⟨b,t,rfl,rfl⟩|⟨b,t,rfl,rfl⟩|⟨ds,a,xs,its,m,z,rfl,rfl,rfl,r,rv,p,g⟩|⟨ds,a,xs,its,m,z,rfl,rfl,rfl,r,rv,p,g⟩<;>
  rcases h2.view I ry s2 with⟨rfl,rfl⟩|⟨c,rfl,rfl⟩|⟨c,t',rfl,rfl⟩|⟨c,t',rfl,rfl⟩|⟨es,a',ys,its',m',z',rfl,rfl,rfl,r',rv',p2,g'⟩|⟨es,a',ys,its',m',z',rfl,rfl,rfl,r',rv',p2,g'⟩
  all_goals first|cases z|skip
  all_goals first|cases z'|skip
  .exact⟨EqAt.same _,RcAt.none_none,RcNeAt.none_none⟩
  .exact⟨EqAt.none_bool _,RcAt.none_bool _,RcNeAt.none_bool _⟩
  .exact⟨EqAt.none_int _ _,RcAt.none_int _ _,RcNeAt.none_int _ _⟩
  .exact⟨EqAt.none_str _ _,RcAt.none_str _ _,RcNeAt.none_str _ _⟩
  .exact⟨EqAt.none_tuple p2 hu0,RcAt.none_tuple p2 hu0,RcNeAt.none_tuple p2 hu0⟩
  .exact⟨EqAt.none_list p2 hu0,RcAt.none_list p2 hu0,RcNeAt.none_list p2 hu0⟩
  .exact⟨EqAt.bool_none _,RcAt.bool_none _,RcNeAt.bool_none _⟩
  .exact⟨EqAt.bool_bool _ _,RcAt.bool_bool _ _,RcNeAt.bool_bool _ _⟩
  .exact⟨EqAt.bool_int _ _ _,RcAt.bool_int _ _ _,RcNeAt.bool_int _ _ _⟩
  .exact⟨EqAt.bool_str _ _ _,RcAt.bool_str _ _ _,RcNeAt.bool_str _ _ _⟩
  .exact⟨EqAt.bool_tuple _ p2 hu0,RcAt.bool_tuple _ p2 hu0,RcNeAt.bool_tuple _ p2 hu0⟩
  .exact⟨EqAt.bool_list _ p2 hu0,RcAt.bool_list _ p2 hu0,RcNeAt.bool_list _ p2 hu0⟩
  .exact⟨EqAt.int_none _ _,RcAt.int_none _ _,RcNeAt.int_none _ _⟩
  .exact⟨EqAt.int_bool _ _ _,RcAt.int_bool _ _ _,RcNeAt.int_bool _ _ _⟩
  .exact⟨EqAt.int_int _ _ _ _,RcAt.int_int _ _ _ _,RcNeAt.int_int _ _ _ _⟩
  .exact⟨EqAt.int_str _ _ _ _,RcAt.int_str _ _ _ _,RcNeAt.int_str _ _ _ _⟩
  .exact⟨EqAt.int_tuple _ _ p2 hu0,RcAt.int_tuple _ _ p2 hu0,RcNeAt.int_tuple _ _ p2 hu0⟩
  .exact⟨EqAt.int_list _ _ p2 hu0,RcAt.int_list _ _ p2 hu0,RcNeAt.int_list _ _ p2 hu0⟩
  .exact⟨EqAt.str_none _ _,RcAt.str_none _ _,RcNeAt.str_none _ _⟩
  .exact⟨EqAt.str_bool _ _ _,RcAt.str_bool _ _ _,RcNeAt.str_bool _ _ _⟩
  .exact⟨EqAt.str_int _ _ _ _,RcAt.str_int _ _ _ _,RcNeAt.str_int _ _ _ _⟩
  .exact⟨EqAt.str_str _ _ _ _,RcAt.str_str _ _ _ _,RcNeAt.str_str _ _ _ _⟩
  .exact⟨EqAt.str_tuple _ _ p2 hu0,RcAt.str_tuple _ _ p2 hu0,RcNeAt.str_tuple _ _ p2 hu0⟩
  .exact⟨EqAt.str_list _ _ p2 hu0,RcAt.str_list _ _ p2 hu0,RcNeAt.str_list _ _ p2 hu0⟩
  .exact⟨EqAt.tuple_none p hu0,RcAt.tuple_none p hu0,RcNeAt.tuple_none p hu0⟩
  .exact⟨EqAt.tuple_bool _ p hu0,RcAt.tuple_bool _ p hu0,RcNeAt.tuple_bool _ p hu0⟩
  .exact⟨EqAt.tuple_int _ _ p hu0,RcAt.tuple_int _ _ p hu0,RcNeAt.tuple_int _ _ p hu0⟩
  .exact⟨EqAt.tuple_str _ _ p hu0,RcAt.tuple_str _ _ p hu0,RcNeAt.tuple_str _ _ p hu0⟩
  .have he:=Zn (A:=A.in1) n (λh1 h2 rx ry s1 s2=>(ih A.in1 hu1 h1 h2 rx ry s1 s2).1) r r' rv rv' g g'
   have l1:its.toArray.size=ds.length:=by rw[size_toArray,<-rv.length,r.length]
   have l2:its'.toArray.size=es.length:=by rw[size_toArray,<-rv'.length,r'.length]
   have ee:((range (min its.toArray.size its'.toArray.size)).all (λj=>Jg (ds.getD j .non) (es.getD j .non))&&its.toArray.size==its'.toArray.size)=Jg (.tup ds) (.tup es):=by
    rw[Jg,l1,l2]
    by_cases hl:ds.length=es.length
    .rw[Nl ds es hl,<-hl];simp
    .rw[Lr ds es hl];simp[hl]
   have rc:=RcAt.tuples p p2 hu0 he
   rw[ee]at rc
   refine⟨?_,rc,?_⟩
   .by_cases ha:a=a'
    .subst ha
     rw[same rfl]
     exact EqAt.same _
    .exact EqAt.of_refs ha rc
   .have rn:=RcNeAt.tuples p p2 hu0 he
    rw[ee]at rn
    exact rn
  .exact⟨EqAt.tuple_list p p2 hu0,RcAt.tuple_list p p2 hu0,RcNeAt.tuple_list p p2 hu0⟩
  .exact⟨EqAt.list_none p hu0,RcAt.list_none p hu0,RcNeAt.list_none p hu0⟩
  .exact⟨EqAt.list_bool _ p hu0,RcAt.list_bool _ p hu0,RcNeAt.list_bool _ p hu0⟩
  .exact⟨EqAt.list_int _ _ p hu0,RcAt.list_int _ _ p hu0,RcNeAt.list_int _ _ p hu0⟩
  .exact⟨EqAt.list_str _ _ p hu0,RcAt.list_str _ _ p hu0,RcNeAt.list_str _ _ p hu0⟩
  .exact⟨EqAt.list_tuple p p2 hu0,RcAt.list_tuple p p2 hu0,RcNeAt.list_tuple p p2 hu0⟩
  .have he:=Zn (A:=A.in1) n (λh1 h2 rx ry s1 s2=>(ih A.in1 hu1 h1 h2 rx ry s1 s2).1) r r' rv rv' g g'
   have l1:its.toArray.size=ds.length:=by rw[size_toArray,<-rv.length,r.length]
   have l2:its'.toArray.size=es.length:=by rw[size_toArray,<-rv'.length,r'.length]
   have both:RcAt A s (.ref a) (.ref a') (Jg (.lst ds) (.lst es))/\RcNeAt A s (.ref a) (.ref a') (!Jg (.lst ds) (.lst es)):=by
    by_cases hl:ds.length=es.length
    .have hsz:its.toArray.size=its'.toArray.size:=by rw[l1,l2,hl]
     have rc:=RcAt.lists p p2 hsz hu0 he
     have rn:=RcNeAt.lists p p2 hsz hu0 he
     rw[l1,<-Nl ds es hl]at rc rn
     rw[Jg]
     exact⟨rc,rn⟩
    .have hsz:(its.toArray.size != its'.toArray.size)=true:=by rw[l1,l2];simpa using hl
     rw[Jg,Lr ds es hl]
     exact⟨RcAt.lists_lengths p p2 hsz hu0,RcNeAt.lists_lengths p p2 hsz hu0⟩
   refine⟨?_,both⟩
   by_cases ha:a=a'
   .subst ha
    rw[same rfl]
    exact EqAt.same _
   .exact EqAt.of_refs ha both.1
end
section
variable {K:Frag}{xw:XW}{W:WS}{H:Hp}{Q:VK}
theorem RE.int{i:Int}(h:RE K xw W H (.ok (.int i)) Q):Q (.int i) H:=h _ H (Same.refl H) (by rw[Has])
theorem RE.bl{i:Bool}(h:RE K xw W H (.ok (.bl i)) Q):Q (.bl i) H:=h _ H (Same.refl H) (by rw[Has])
theorem RE.str{i:Str}(h:RE K xw W H (.ok (.str i)) Q):Q (.str i) H:=h _ H (Same.refl H) (by rw[Has])
theorem RE.non(h:RE K xw W H (.ok .non) Q):Q .non H:=h _ H (Same.refl H) (by rw[Has])
theorem Jd{a:Addr}{o:HO}(h:H a=none):Same H (Ib H a o):=λb u e=>by rw[Da (Ka e h)];exact e
theorem RE.newT{ds:List D}{xs:List V}{p:Addr}(h:RE K xw W H (.ok (.tup ds)) Q)(w:WL W H)(hp:H p=none)(q:HasL K W H ds xs):Q (.ref p) (Ib H p (.tup xs)):=
 h _ _ (Jd hp) (by rw[Has];exact⟨p,xs,rfl,.of Ra,q.same (Jd hp) w⟩)
theorem NK{a:Addr}(w:WL W H)(h:H a=none):¬ W a:=λz=>by
 obtain⟨xs,e,_⟩:=w a z
 rw[h]at e;cases e
end
section
variable {X:Cx}{xw:XW}{a b c e:Expr}{fa fb fc f:Ba->Res D}{pos:Pos}
theorem DE.p(h:DE X xw e f):DP X xw e f:=PE.weak h λσ H Q ⟨W₀,H₀,W,δ,st,q⟩=>⟨W₀,H₀,W,δ,st,by
 cases hf:f δ with
 |ok d=>rw[hf]at q;exact λv H' k h=>q v H' k (.inl h)
 |ex c fs=>rw[hf]at q;exact q
 |stuck=>rw[hf]at q;exact q⟩
theorem DF.de{f:Ba->Res (List D)}(h:DF X xw e f):DE X xw e (λδ=>(f δ).bind λds=>.ok (.lst ds)):=PE.weak h λσ H Q ⟨W₀,H₀,W,δ,st,q⟩=>⟨W₀,H₀,W,δ,st,by
 dsimp only at q
 cases hf:f δ with
 |ok d=>
  rw[hf]at q
  refine λa xs H1 k n r=>q _ _ (k.trans (Jd n)) ?_
  have w1:=st.fr.wl.same k
  rw[Has]
  exact⟨a,xs,rfl,.inl ⟨Ra,NK w1 n⟩,r.same (Jd n) w1⟩
 |ex c fs=>rw[hf]at q;exact q
 |stuck=>rw[hf]at q;exact q⟩
def Ga(i:Nat)(δ:Ba):Res D:=match δ[i]? with
 |some (some (.d x))=>.ok x
 |_=>.stuck
def Fa(i:Nat)(δ:Ba):Res D:=match δ[i]? with
 |some (some (.d x))=>.ok x
 |some (some (.o ds))=>.ok (.lst ds)
 |_=>.stuck
theorem VO(i:Nat){x:Str}(hN:X.N[i]? =some x:=by rfl)(hv:Bw X.env.scope x:=by first|exact Or.inl rfl|exact Or.inr (Or.inl rfl)|exact Or.inr (Or.inr rfl))(hd:(x==("__debug__":Str))=false:=by decide)(hcd:(x==("__classdict__":Str))=false:=by decide):DE X xw (.Name x pos) (Ga i):=PE.weak (Fh hN hv hd hcd) λσ H Q ⟨W₀,H₀,W,δ,st,q⟩=>by
 unfold Ga at q
 split at q
 .rename_i d h
  obtain⟨v,e,r⟩:=st.at' i _ h
  exact⟨v,e,q v H (Same.refl H) r⟩
 .exact q.elim
theorem FP(i:Nat){x:Str}(hN:X.N[i]? =some x:=by rfl)(hv:Bw X.env.scope x:=by first|exact Or.inl rfl|exact Or.inr (Or.inl rfl)|exact Or.inr (Or.inr rfl))(hd:(x==("__debug__":Str))=false:=by decide)(hcd:(x==("__classdict__":Str))=false:=by decide):DP X xw (.Name x pos) (Fa i):=PE.weak (Fh hN hv hd hcd) λσ H Q ⟨W₀,H₀,W,δ,st,q⟩=>by
 unfold Fa at q
 split at q
 .rename_i d h
  obtain⟨v,e,r⟩:=st.at' i _ h
  exact⟨v,e,q v H (Same.refl H) (.inl r)⟩
 .rename_i ds h
  obtain⟨v,e,a,xs,r1,r2,r3,r4,r5⟩:=st.at' i _ h
  exact⟨v,e,q v H (Same.refl H) (.inr ⟨ds,a,xs,rfl,r1,r4,r5⟩)⟩
 .exact q.elim
theorem GO{i:Int}{j}:DE X xw (.Constant (.int i) j pos) (λ_=>.ok (.int i)):=PE.weak KF λσ H Q ⟨_,_,_,_,_,q⟩=>q.int
theorem YU{i:Bool}{j}:DE X xw (.Constant (.bool i) j pos) (λ_=>.ok (.bl i)):=PE.weak ZV λσ H Q ⟨_,_,_,_,_,q⟩=>q.bl
theorem RO{i:Str}{j}:DE X xw (.Constant (.str i) j pos) (λ_=>.ok (.str i)):=PE.weak UR λσ H Q ⟨_,_,_,_,_,q⟩=>q.str
theorem OO{j}:DE X xw (.Constant .none j pos) (λ_=>.ok .non):=PE.weak TR λσ H Q ⟨_,_,_,_,_,q⟩=>q.non
def XY(X:Cx)(xw:XW)(r:R2)(op:D->D->Res D):Prop:=∀ (W:WS) (H:Hp) (d e:D) (v u:V) (Q:VK),WL W H->HasT X.K W H d v->HasT X.K W H e u->RE X.K xw W H (op d e) Q->r v u H Q
theorem Cj{σ:L2.St}{H:Hp}{W₀ W:WS}{H₀:Hp}{δ:Ba}{op:D->D->Res D}{Q:VK}{R:V->V->Hp->Prop}(st:StHas X.K W₀ H₀ W H σ δ)(q:RE X.K xw W H ((fa δ).bind λx=>(fb δ).bind λy=>op x y) Q)(h:∀ H2 d e v u,Same H H2->WL W H2->HasT X.K W H2 d v->HasT X.K W H2 e u->fa δ= .ok d->fb δ= .ok e->RE X.K xw W H2 (op d e) Q->R v u H2):
  EM X.K xw fa σ H λx H1=>EM X.K xw fb σ H1 λy H2=>R x y H2:=by
 refine⟨W₀,H₀,W,δ,st,?_⟩
 cases h1:fa δ with
 |stuck=>rw[h1]at q;exact q
 |ex c fs=>rw[h1]at q;exact q
 |ok d=>
  rw[h1]at q
  intro v H1 k1 hv
  refine⟨W₀,H₀,W,δ,st.same k1,?_⟩
  have q':RE X.K xw W H ((fb δ).bind λy=>op d y) Q:=q
  cases h2:fb δ with
  |stuck=>rw[h2]at q';exact q'
  |ex c fs=>rw[h2]at q';exact λH2 k2=>q' H2 (k1.trans k2)
  |ok e=>
   rw[h2]at q'
   intro u H2 k2 hu
   have q2:RE X.K xw W H (op d e) Q:=q'
   exact h H2 d e v u (k1.trans k2) (st.fr.wl.same (k1.trans k2)) (hv.same k2 (st.fr.wl.same k1)) hu h1 h2 (q2.same (k1.trans k2))
theorem Xj{o:Operator}{r:R2}{op:D->D->Res D}(ho:OpR X (binaryOp o) r)(hr:XY X xw r op)(ha:DP X xw a fa)(hb:DP X xw b fb):
  DE X xw (.BinOp a o b pos) (λδ=>(fa δ).bind λx=>(fb δ).bind λy=>op x y):=
 PE.weak (GN ho ha hb) λσ H Q ⟨W₀,H₀,W,δ,st,q⟩=>Cj st q λH2 d e v u k w hv hu _ _ q2=>hr W H2 d e v u Q w hv hu q2
theorem IF:OpR X (binaryOp .Add) (λx y H Q=>∃ a b ys,x=.ref a/\y=.ref b/\SqT X.K H a []/\SqT X.K H b ys/\Q (.ref b) H):=by
 intro pins s σ H x y v u Q I rx ry h
 obtain⟨a,b,ys,rfl,rfl,ha,hb,q⟩:=h
 cases rx
 cases ry
 obtain⟨its,r1,p1,_⟩:=I.tuple ha
 obtain⟨its2,r2,p2,_⟩:=I.tuple hb
 have e0:its= []:=r1.nil_iff.mpr rfl
 subst e0
 obtain⟨⟨cls,dd,data,sl⟩,ho,hc,n,hd⟩:=id p1
 obtain⟨⟨cls2,dd2,data2,sl2⟩,ho2,hc2,n2,hd2⟩:=id p2
 simp only at hc hd hc2 hd2
 subst hc hd hc2 hd2
 exact concat_meets ⟨_,ho,rfl⟩ ⟨_,ho2,rfl⟩ noFill_tuple_add seq_tuple_add PySem.F.slot_tuple_add PySem.F.entry_tuple_add (PySem.F.args_tuple_add_2 _ _)
   (tuple_addW0 a b _ its2.toArray n n2 dd dd2 sl sl2 (by simp)) ⟨ho,ho2,⟨.ref b,H,I,rfl,q⟩⟩
noncomputable def Bc:D->D->Res D
 | .int i,.int j=>.ok (.int (i+j))
 | .str x,.str y=>@ite (Res D) (x.length+y.length<=sizeLine) (propDecidable _) (.ok (.str (x++y))) .stuck
 | .tup xs,.tup ys=>@ite (Res D) (xs.length+ys.length<=sizeLine) (propDecidable _) (.ok (.tup (xs++ys))) .stuck
 |_,_=>.stuck
theorem EO(ha:DP X xw a fa)(hb:DP X xw b fb):DE X xw (.BinOp a .Add b pos) (λδ=>(fa δ).bind λx=>(fb δ).bind λy=>Bc x y):=by
 refine Xj ((ER.or Lx).or (IF.or RK)) (λW H d e v u Q w hv hu q=>?_) ha hb
 unfold Bc at q
 split at q
 .exact .inl (.inl ⟨_,_,hv.int,hu.int,q.int⟩)
 .split at q
  .rename_i hz
   exact .inl (.inr ⟨_,_,hv.str,hu.str,hz,q.str⟩)
  .exact q.elim
 .rename_i ds es
  split at q
  .rename_i hz
   obtain⟨a1,xs,e1,s1,r1⟩:=hv.tup
   obtain⟨a2,ys,e2,s2,r2⟩:=hu.tup
   by_cases hx:xs= []
   .subst hx
    have hd:ds= []:=by
     have:=r1.length
     exact List.eq_nil_of_length_eq_zero (by simpa using this)
    subst hd
    refine .inr (.inl ⟨a1,a2,ys,e1,e2,s1,s2,q _ H (Same.refl H) ?_⟩)
    rw[Has];exact⟨a2,ys,rfl,s2,r2⟩
   .refine .inr (.inr ⟨a1,a2,xs,ys,e1,e2,s1,s2,hx,by rw[<-r1.length,<-r2.length];exact hz,λhy=>?_,λ_ p hp=>q.newT w hp (r1.append r2)⟩)
    subst hy
    have he:es= []:=by
     have:=r2.length
     exact List.eq_nil_of_length_eq_zero (by simpa using this)
    subst he
    refine q _ H (Same.refl H) ?_
    rw[Has,append_nil];exact⟨a1,xs,rfl,s1,r1⟩
  .exact q.elim
 .exact q.elim
def Rx:D->D->Res D
 | .int i,.int j=>.ok (.int (i-j))
 |_,_=>.stuck
theorem SO(ha:DP X xw a fa)(hb:DP X xw b fb):DE X xw (.BinOp a .Sub b pos) (λδ=>(fa δ).bind λx=>(fb δ).bind λy=>Rx x y):=by
 refine Xj MR (λW H d e v u Q w hv hu q=>?_) ha hb
 unfold Rx at q
 split at q
 .exact⟨_,_,hv.int,hu.int,q.int⟩
 .exact q.elim
noncomputable def Rf:D->D->Res D
 | .int i,.int j=>@ite (Res D) (0<j) (propDecidable _) (.ok (.int (i%j))) .stuck
 |_,_=>.stuck
theorem MO(ha:DP X xw a fa)(hb:DP X xw b fb):DE X xw (.BinOp a .Mod b pos) (λδ=>(fa δ).bind λx=>(fb δ).bind λy=>Rf x y):=by
 refine Xj HR (λW H d e v u Q w hv hu q=>?_) ha hb
 unfold Rf at q
 split at q
 .split at q
  .rename_i hj
   exact⟨_,_,hv.int,hu.int,hj,q.int⟩
  .exact q.elim
 .exact q.elim
noncomputable def Wn:D->D->Res D
 | .int i,.int j=>@ite (Res D) (0<j/\j<1073741824) (propDecidable _) (.ok (.int (i / j))) .stuck
 |_,_=>.stuck
theorem FI(ha:DP X xw a fa)(hb:DP X xw b fb):DE X xw (.BinOp a .FloorDiv b pos) (λδ=>(fa δ).bind λx=>(fb δ).bind λy=>Wn x y):=by
 refine Xj SK (λW H d e v u Q w hv hu q=>?_) ha hb
 unfold Wn at q
 split at q
 .split at q
  .rename_i hj
   exact⟨_,_,hv.int,hu.int,hj,q.int⟩
  .exact q.elim
 .exact q.elim
noncomputable def QB:D->D->Res D
 | .int i,.int j=>@ite (Res D) (0<=j/\j<=1000/\i.natAbs<2^64) (propDecidable _) (.ok (.int (i^j.toNat))) .stuck
 |_,_=>.stuck
theorem QO(ha:DP X xw a fa)(hb:DP X xw b fb):DE X xw (.BinOp a .Pow b pos) (λδ=>(fa δ).bind λx=>(fb δ).bind λy=>QB x y):=by
 refine Xj KR (λW H d e v u Q w hv hu q=>?_) ha hb
 unfold QB at q
 split at q
 .split at q
  .rename_i hj
   exact⟨_,_,hv.int,hu.int,⟨hj.1,by omega,hj.2.2⟩,q.int⟩
  .exact q.elim
 .exact q.elim
noncomputable def TV:D->D->Res D
 | .int i,.int j=>@ite (Res D) ((-(2^64)<i/\i<2^64)\/(-(2^64)<j/\j<2^64)) (propDecidable _) (.ok (.int (i*j))) .stuck
 |_,_=>.stuck
def EB:D->Res D
 | .int i=>.ok (.int (-i))
 |_=>.stuck
theorem Mg{σ:L2.St}{H:Hp}{W₀ W:WS}{H₀:Hp}{δ:Ba}{op:D->Res D}{Q:VK}{R:V->Hp->Prop}(st:StHas X.K W₀ H₀ W H σ δ)(q:RE X.K xw W H ((fa δ).bind op) Q)(h:∀ H2 d v,Same H H2->WL W H2->StHas X.K W₀ H₀ W H2 σ δ->HasT X.K W H2 d v->fa δ= .ok d->RE X.K xw W H2 (op d) Q->R v H2):
  EM X.K xw fa σ H λx H1=>R x H1:=by
 refine⟨W₀,H₀,W,δ,st,?_⟩
 cases h1:fa δ with
 |stuck=>rw[h1]at q;exact q
 |ex c fs=>rw[h1]at q;exact q
 |ok d=>
  rw[h1]at q
  intro v H1 k1 hv
  exact h H1 d v k1 (st.fr.wl.same k1) (st.same k1) hv h1 (RE.same (r:=op d) q k1)
theorem NO(ha:DP X xw a fa):DE X xw (.UnaryOp .USub a pos) (λδ=>(fa δ).bind EB):=
 PE.weak (BW WT ha) λσ H Q ⟨W₀,H₀,W,δ,st,q⟩=>Mg st q λH2 d v k w st2 hv _ q2=>by
  unfold EB at q2
  split at q2
  .exact⟨_,hv.int,q2.int⟩
  .exact q2.elim
def CC(d e:D):Res D:=if(Kc 40 d&&Kc 40 e)=true then .ok (.bl (Jg d e)) else .stuck
def Uj(d e:D):Res D:=if(Kc 40 d&&Kc 40 e)=true then .ok (.bl (!Jg d e)) else .stuck
def IH:D->D->Res D
 | .int i,.int j=>.ok (.bl (decide (i<j)))
 |_,_=>.stuck
def SV:D->D->Res D
 | .int i,.int j=>.ok (.bl (decide (i<=j)))
 |_,_=>.stuck
def SJ:D->D->Res D
 | .int i,.int j=>.ok (.bl (decide (j<i)))
 |_,_=>.stuck
def M2:D->D->Res D
 | .int i,.int j=>.ok (.bl (decide (j<=i)))
 |_,_=>.stuck
structure CmpR(X:Cx)(xw:XW)(o:CmpOp)(op:D->D->Res D):Prop where
 ex:∃ r,OpR X (compareOp o) r/\XY X xw r op
 bl:∀ d e z,op d e=.ok z->∃ k,z=.bl k
 nm:o≠ .In/\o≠ .NotIn
theorem FR(hu:X.A.units+40<cLine):OpR X (compareOp .Eq) (λx y H Q=>∃ W d e,HasT X.K W H d x/\HasT X.K W H e y/\Kc 40 d=true/\Kc 40 e=true/\Q (.bl (Jg d e)) H):=by
 intro pins s σ H x y v u Q I rx ry h
 obtain⟨W,d,e,h1,h2,s1,s2,q⟩:=h
 exact(FD I 40 X.A hu h1 h2 rx ry s1 s2).2.1 _ _ _ _ ⟨.bl _,H,I,rfl,q⟩
theorem JR(hu:X.A.units+40<cLine):OpR X (compareOp .NotEq) (λx y H Q=>∃ W d e,HasT X.K W H d x/\HasT X.K W H e y/\Kc 40 d=true/\Kc 40 e=true/\Q (.bl (!Jg d e)) H):=by
 intro pins s σ H x y v u Q I rx ry h
 obtain⟨W,d,e,h1,h2,s1,s2,q⟩:=h
 exact(FD I 40 X.A hu h1 h2 rx ry s1 s2).2.2 _ _ _ _ ⟨.bl _,H,I,rfl,q⟩
theorem XU(hu:X.A.units+40<cLine):CmpR X xw .Eq CC:=⟨⟨_,FR hu,λW H d e v u Q w hv hu q=>by
  unfold CC at q
  split at q
  .rename_i hs
   rw[and_eq_true]at hs
   exact⟨W,d,e,hv,hu,hs.1,hs.2,q.bl⟩
  .exact q.elim⟩,λd e z h=>by unfold CC at h;split at h<;>cases h;exact⟨_,rfl⟩,by decide,by decide⟩
theorem Wz(hu:X.A.units+40<cLine):CmpR X xw .NotEq Uj:=⟨⟨_,JR hu,λW H d e v u Q w hv hu q=>by
  unfold Uj at q
  split at q
  .rename_i hs
   rw[and_eq_true]at hs
   exact⟨W,d,e,hv,hu,hs.1,hs.2,q.bl⟩
  .exact q.elim⟩,λd e z h=>by unfold Uj at h;split at h<;>cases h;exact⟨_,rfl⟩,by decide,by decide⟩
theorem YN:CmpR X xw .Lt IH:=⟨⟨_,YV,λW H d e v u Q w hv hu q=>by
  unfold IH at q
  split at q
  .exact⟨_,_,hv.int,hu.int,q.bl⟩
  .exact q.elim⟩,λd e z h=>by unfold IH at h;split at h<;>cases h;exact⟨_,rfl⟩,by decide,by decide⟩
theorem XN:CmpR X xw .Gt SJ:=⟨⟨_,XV,λW H d e v u Q w hv hu q=>by
  unfold SJ at q
  split at q
  .exact⟨_,_,hv.int,hu.int,q.bl⟩
  .exact q.elim⟩,λd e z h=>by unfold SJ at h;split at h<;>cases h;exact⟨_,rfl⟩,by decide,by decide⟩
def Oj(d:D):Res D:=match d with
 | .non=>.ok (.bl true)
 |_=>.ok (.bl false)
theorem HasT.isN{K:Frag}{W:WS}{H:Hp}{d:D}{v:V}(h:HasT K W H d v)(hd:d≠ .non):v≠ .non:=by
 rintro rfl
 rcases h with h|⟨ds,a,xs,h1,h2,_⟩
 .cases d with
  |non=>exact hd rfl
  |bl b=>rw[Has]at h;cases h
  |int b=>rw[Has]at h;cases h
  |str b=>rw[Has]at h;cases h
  |tup b=>rw[Has]at h;obtain⟨_,_,z,_⟩:=h;cases z
  |lst b=>rw[Has]at h;obtain⟨_,_,z,_⟩:=h;cases z
  |dct k b=>rw[Has]at h;obtain⟨_,_,z,_⟩:=h;cases z
  |exc k b=>rw[Has]at h;obtain⟨_,_,_,z,_⟩:=h;cases z
  |obj c k b=>rw[Has]at h;obtain⟨_,_,_,_,z,_⟩:=h;cases z
 .cases h2
theorem JO{j pos'}(ha:DP X xw a fa):DE X xw (.Compare a [.Is] [.Constant .none j pos'] pos) (λδ=>(fa δ).bind Oj):=
 PE.weak (PR (JF ha)) λσ H Q ⟨W₀,H₀,W,δ,st,q⟩=>Mg st q λH2 d v k w st2 hv _ q2=>by
  unfold Oj at q2
  split at q2
  .rw[hv.non];exact q2.bl
  .rename_i hd
   rw[decide_eq_false (hv.isN hd)];exact q2.bl
theorem FO{o:CmpOp}{op:D->D->Res D}(hc:CmpR X xw o op)(ha:DP X xw a fa)(hb:DP X xw b fb):DE X xw (.Compare a [o] [b] pos) (λδ=>(fa δ).bind λx=>(fb δ).bind λy=>op x y):=by
 obtain⟨⟨r,ho,hr⟩,_,h1,h2⟩:=hc
 exact PE.weak (Xy ho ha hb (FF b h1 h2)) λσ H Q ⟨W₀,H₀,W,δ,st,q⟩=>Cj st q λH2 d e v u k w hv hu _ _ q2=>hr W H2 d e v u Q w hv hu q2
def Cm:D->Res Bool
 | .bl k=>.ok k
 |_=>.stuck
theorem DE.t_of(ht:PT X e (tB (IN X.K xw f))):DT X xw e (λδ=>(f δ).bind Cm):=PT.weak ht λσ H Q ⟨W₀,H₀,W,δ,st,q⟩=>by
 dsimp only at q
 refine⟨W₀,H₀,W,δ,st,?_⟩
 cases h1:f δ with
 |stuck=>rw[h1]at q;exact q
 |ex c fs=>rw[h1]at q;exact q
 |ok d=>
  rw[h1]at q
  intro v H1 k1 hv
  have q':RT xw H (Cm d) Q:=q
  unfold Cm at q'
  split at q'
  .rw[Has]at hv
   exact⟨_,hv,q' H1 k1⟩
  .exact q'.elim
theorem DE.t(h:DE X xw e f)(he:∀ whole,isTrue e X.env whole=(do let v <-whole;standAt e.pos;holding [v] (truthy v)):=by intro _;rfl):DT X xw e (λδ=>(f δ).bind Cm):=DE.t_of (FS h he)
theorem NP{o:CmpOp}{op:D->D->Res D}(hc:CmpR X xw o op)(ha:DP X xw a fa)(hb:DP X xw b fb):DT X xw (.Compare a [o] [b] pos) (λδ=>((fa δ).bind λx=>(fb δ).bind λy=>op x y).bind Cm):=by
 obtain⟨⟨r,ho,hr⟩,_,h1,h2⟩:=hc
 refine DE.t_of (f:=λδ=>(fa δ).bind λx=>(fb δ).bind λy=>op x y) (PT.weak (Bn ho ha hb (FF b h1 h2)) λσ H Q q=>?_)
 obtain⟨W₀,H₀,W,δ,st,q⟩:=q
 exact Cj st q λH2 d e v u k w hv hu _ _ q2=>hr W H2 d e v u _ w hv hu q2
theorem OP{j pos'}(ha:DP X xw a fa):DT X xw (.Compare a [.Is] [.Constant .none j pos'] pos) (λδ=>((fa δ).bind Oj).bind Cm):=
 DE.t_of (f:=λδ=>(fa δ).bind Oj) (PT.weak (TF (JF ha)) λσ H Q q=>by
  obtain⟨W₀,H₀,W,δ,st,q⟩:=q
  exact Mg st q λH2 d v k w st2 hv _ q2=>by
   unfold Oj at q2
   split at q2
   .rw[hv.non];exact q2.bl
   .rename_i hd
    rw[decide_eq_false (hv.isN hd)];exact q2.bl)
theorem DW.t{g:Ba->Res Bool}(h:DW X xw e g):DT X xw e g:=PW.pt h
def Rn(op op':D->D->Res D)(x y:D)(z:Res D):Res D:=(op x y).bind λk=>match k with
 | .bl true=>z.bind λw=>op' y w
 | .bl false=>.ok (.bl false)
 |_=>.stuck
def TN(x:Res Bool)(y:Res Bool):Res Bool:=x.bind λk=>if k=true then y else .ok false
def ZZ(x:Res Bool)(y:Res Bool):Res Bool:=x.bind λk=>if k=true then .ok true else y
variable {ga gb:Ba->Res Bool}{rest:List Expr}
theorem Vl{σ:L2.St}{H:Hp}{W₀ W:WS}{H₀:Hp}{δ:Ba}{k:Bool->Res Bool}{Q:Bool->Hp->Prop}{R:Bool->Hp->Prop}(st:StHas X.K W₀ H₀ W H σ δ)(q:RT xw H ((ga δ).bind k) Q)(h:∀ H2 c,Same H H2->StHas X.K W₀ H₀ W H2 σ δ->ga δ= .ok c->RT xw H2 (k c) Q->R c H2):JT X.K xw ga σ H R:=by
 refine⟨W₀,H₀,W,δ,st,?_⟩
 cases h1:ga δ with
 |stuck=>rw[h1]at q;exact q
 |ex c fs=>rw[h1]at q;exact q
 |ok c=>
  rw[h1]at q
  exact λH1 k1=>h H1 c k1 (st.same k1) h1 (RT.same (r:=k c) q k1)
theorem FJ(ha:DT X xw a ga):DW X xw (.BoolOp .And [a] pos) ga:=RL ha
theorem UP(ha:DT X xw a ga):DW X xw (.BoolOp .Or [a] pos) ga:=IS ha
theorem QP(ha:DT X xw a ga)(hb:DW X xw (.BoolOp .And (b::rest) pos) gb):DW X xw (.BoolOp .And (a::b::rest) pos) (λδ=>TN (ga δ) (gb δ)):=
 PW.weak (HS ha hb) λσ H Q ⟨W₀,H₀,W,δ,st,q⟩=>Vl st q λH2 c k st2 _ q2=>by
  cases c with
  |true=>rw[if_pos rfl]at q2 ⊢;exact⟨W₀,H₀,W,δ,st2,q2⟩
  |false=>rw[if_neg Bool.false_ne_true]at q2 ⊢;exact q2 H2 (Same.refl _)
theorem GV(ha:DT X xw a ga)(hb:DW X xw (.BoolOp .Or (b::rest) pos) gb):DW X xw (.BoolOp .Or (a::b::rest) pos) (λδ=>ZZ (ga δ) (gb δ)):=
 PW.weak (HW ha hb) λσ H Q ⟨W₀,H₀,W,δ,st,q⟩=>Vl st q λH2 c k st2 _ q2=>by
  cases c with
  |true=>rw[if_pos rfl]at q2 ⊢;exact q2 H2 (Same.refl _)
  |false=>rw[if_neg Bool.false_ne_true]at q2 ⊢;exact⟨W₀,H₀,W,δ,st2,q2⟩
theorem PP(ha:DT X xw a ga):DT X xw (.UnaryOp .Not a pos) (λδ=>(ga δ).bind λk=>.ok (!k)):=
 PT.weak (ES ha) λσ H Q ⟨W₀,H₀,W,δ,st,q⟩=>Vl st q λH2 c k st2 _ q2=>q2 H2 (Same.refl _)
def UU(x:Res D)(y:Res D):Res D:=x.bind λk=>match k with
 | .bl true=>y
 | .bl false=>.ok (.bl false)
 |_=>.stuck
def Q1(x:Res D)(y:Res D):Res D:=x.bind λk=>match k with
 | .bl true=>.ok (.bl true)
 | .bl false=>y
 |_=>.stuck
def UZ:D->Res D
 | .bl k=>.ok (.bl (!k))
 |_=>.stuck
theorem IB{σ:L2.St}{H:Hp}{W₀ W:WS}{H₀:Hp}{δ:Ba}{op:D->Res D}{Q:VK}{R:V->Hp->Prop}(st:StHas X.K W₀ H₀ W H σ δ)(q:RE X.K xw W H ((fa δ).bind op) Q)(h:∀ H2 d v,Same H H2->WL W H2->StHas X.K W₀ H₀ W H2 σ δ->Has X.K W H2 d v->fa δ= .ok d->RE X.K xw W H2 (op d) Q->R v H2):
  IN X.K xw fa σ H λx H1=>R x H1:=by
 refine⟨W₀,H₀,W,δ,st,?_⟩
 cases h1:fa δ with
 |stuck=>rw[h1]at q;exact q
 |ex c fs=>rw[h1]at q;exact q
 |ok d=>
  rw[h1]at q
  intro v H1 k1 hv
  exact h H1 d v k1 (st.fr.wl.same k1) (st.same k1) hv h1 (RE.same (r:=op d) q k1)
variable {es:List Expr}{fs:Ba->Res (List D)}
theorem CO:DA X xw [] (λ_=>.ok []):=PA.weak Ck λσ H Q ⟨W₀,H₀,W,δ,st,q⟩=>q [] H (Same.refl H) HasL.nil
def Dy(x:Res D)(r:Res (List D)):Res (List D):=x.bind λd=>r.bind λds=>.ok (d::ds)
theorem BI(ha:DE X xw a fa)(hr:DA X xw es fs)(hs:starEach (a::es) X.env=(false,eval a X.env)::starEach es X.env:=by rfl):DA X xw (a::es) (λδ=>Dy (fa δ) (fs δ)):=
 PA.weak (Vg ha hr hs) λσ H Q ⟨W₀,H₀,W,δ,st,q⟩=>by
  refine⟨W₀,H₀,W,δ,st,?_⟩
  unfold Dy at q
  dsimp only at q
  cases h1:fa δ with
  |stuck=>rw[h1]at q;exact q
  |ex c fs=>rw[h1]at q;exact q
  |ok d=>
   rw[h1]at q
   intro v H1 k1 hv
   refine⟨W₀,H₀,W,δ,st.same k1,?_⟩
   have q':RA X.K xw W H ((fs δ).bind λds=>.ok (d::ds)) Q:=q
   cases h2:fs δ with
   |stuck=>rw[h2]at q';exact q'
   |ex c gs=>rw[h2]at q';exact λH2 k2=>q' H2 (k1.trans k2)
   |ok ds=>
    rw[h2]at q'
    intro vs H2 k2 hvs
    have q2:RA X.K xw W H (.ok (d::ds)) Q:=q'
    exact q2 (v::vs) H2 (k1.trans k2) (HasL.cons (hv.same k2 (st.fr.wl.same k1)) hvs)
theorem Kl{σ:L2.St}{H:Hp}{W₀ W:WS}{H₀:Hp}{δ:Ba}{op:List D->Res D}{Q:VK}{R:List V->Hp->Prop}(st:StHas X.K W₀ H₀ W H σ δ)(q:RE X.K xw W H ((fs δ).bind op) Q)(h:∀ H2 ds vs,Same H H2->WL W H2->StHas X.K W₀ H₀ W H2 σ δ->HasL X.K W H2 ds vs->fs δ= .ok ds->RE X.K xw W H2 (op ds) Q->R vs H2):
  X1 X.K xw fs σ H λx H1=>R x H1:=by
 refine⟨W₀,H₀,W,δ,st,?_⟩
 cases h1:fs δ with
 |stuck=>rw[h1]at q;exact q
 |ex c gs=>rw[h1]at q;exact q
 |ok d=>
  rw[h1]at q
  intro v H1 k1 hv
  exact h H1 d v k1 (st.fr.wl.same k1) (st.same k1) hv h1 (RE.same (r:=op d) q k1)
noncomputable def Rg(ds:List D):Res D:=@ite (Res D) (ds.length<=1000) (propDecidable _) (.ok (.tup ds)) .stuck
theorem Nu:(1000:Nat)<=sizeLine:=by rw[sizeLine_eq];decide
theorem UO{x1}(h:DA X xw es fs):DE X xw (.Tuple es x1 pos) (λδ=>(fs δ).bind Rg):=
 PE.weak (VR h) λσ H Q ⟨W₀,H₀,W,δ,st,q⟩=>Kl st q λH2 ds vs k w st2 hv _ q2=>by
  unfold Rg at q2
  split at q2
  .rename_i hz
   exact⟨by rw[<-hv.length];exact le_trans hz Nu,λp hp=>q2.newT w hp hv⟩
  .exact q2.elim
noncomputable def Xd(ds:List D):Res (List D):=@ite (Res (List D)) (ds.length<=1000) (propDecidable _) (.ok ds) .stuck
theorem YO(h:DA X xw es fs):DF X xw (.List es pos) (λδ=>(fs δ).bind Xd):=
 PE.weak (SR h) λσ H Q ⟨W₀,H₀,W,δ,st,q⟩=>by
  dsimp only at q
  refine⟨W₀,H₀,W,δ,st,?_⟩
  cases h1:fs δ with
  |stuck=>rw[h1]at q;exact q
  |ex c gs=>rw[h1]at q;exact q
  |ok ds=>
   rw[h1]at q
   intro vs H1 k1 hv
   have q':RF X.K xw W H (Xd ds) Q:=q
   unfold Xd at q'
   split at q'
   .rename_i hz
    exact⟨by rw[<-hv.length];exact le_trans hz Nu,λp hp=>q' p vs H1 k1 hp hv⟩
   .exact q'.elim
noncomputable def Wm:D->D->Res D
 | .tup ds,.int i=>match Xo ds i with
  |some d=>.ok d
  |none=>.stuck
 | .lst ds,.int i=>match Xo ds i with
  |some d=>.ok d
  |none=>.stuck
 | .str z,.int i=>@ite (Res D) (z.length<=sizeLine) (propDecidable _) (match Xo z.cps.toList i with
  |some c=>.ok (.str ⟨#[c]⟩)
  |none=>.stuck) .stuck
 |_,_=>.stuck
theorem Vx{K:Frag}{W:WS}{H:Hp}{ds:List D}{xs:List V}{i:Int}{d:D}(r:HasL K W H ds xs)(h:Xo ds i=some d):∃ x,Xo xs i=some x/\Has K W H d x:=by
 unfold Xo at h ⊢
 rw[r.length]at h
 cases e:ZJ xs.length i with
 |none=>rw[e]at h;cases h
 |some j=>
  rw[e]at h
  obtain⟨x,h1,h2⟩:=r.get (show ds[j]? =some d from h)
  exact⟨x,h1,h2⟩
theorem ZU(ha:DP X xw a fa)(hb:DP X xw b fb)(hs:Ej b:=by intro _ _;rfl):DE X xw (.Subscript a b pos) (λδ=>(fa δ).bind λx=>(fb δ).bind λy=>Wm x y):=
 PE.weak (AW IQ ha hb hs) λσ H Q ⟨W₀,H₀,W,δ,st,q⟩=>Cj st q λH2 d e v u k w hv hu _ _ q2=>by
  unfold Wm at q2
  split at q2
  .split at q2
   .rename_i d' hd
    obtain⟨p,xs,e1,sq,r⟩:=hv.tup
    obtain⟨x,h1,h2⟩:=Vx r hd
    exact .inr (.inl ⟨p,xs,_,x,e1,hu.int,sq,h1,q2 x H2 (Same.refl _) h2⟩)
   .exact q2.elim
  .split at q2
   .rename_i d' hd
    obtain⟨p,xs,e1,sq,r⟩:=hv.lst
    obtain⟨x,h1,h2⟩:=Vx r hd
    exact .inl ⟨p,xs,_,x,e1,hu.int,sq,h1,q2 x H2 (Same.refl _) h2⟩
   .exact q2.elim
  .split at q2
   .rename_i hz
    split at q2
    .rename_i cc hc
     exact .inr (.inr ⟨_,_,cc,hv.str,hu.int,hz,hc,q2.str⟩)
    .exact q2.elim
   .exact q2.elim
  .exact q2.elim
def DO(X:Cx)(xw:XW)(e:Option Expr)(f:Ba->Res (Option Int)):Prop:=PO X e (λσ H Q=>∃ W₀ H₀ W δ,StHas X.K W₀ H₀ W H σ δ/\match f δ with
 | .ok o=>∀ H',Same H H'->Q o H'
 | .ex c fs=>∀ H',Same H H'->xw c fs H'
 | .stuck=>False)
theorem PO.weak{X:Cx}{e:Option Expr}{t t':TO}(h:PO X e t)(k:∀ σ H Q,t' σ H Q->t σ H Q):PO X e t':=λpins s σ H Q I q=>h pins s σ H Q I (k σ H Q q)
theorem OI:DO X xw none (λ_=>.ok none):=PO.weak LL λσ H Q ⟨_,_,_,_,_,q⟩=>q H (Same.refl H)
def Wg:D->Res (Option Int)
 | .int i=>.ok (some i)
 |_=>.stuck
theorem QI(h:DE X xw e f):DO X xw (some e) (λδ=>(f δ).bind Wg):=PO.weak (ML h) λσ H Q ⟨W₀,H₀,W,δ,st,q⟩=>by
 dsimp only at q
 refine⟨W₀,H₀,W,δ,st,?_⟩
 cases h1:f δ with
 |stuck=>rw[h1]at q;exact q
 |ex c fs=>rw[h1]at q;exact q
 |ok d=>
  rw[h1]at q
  intro v H1 k1 hv
  cases d with
  |int i=>rw[Has]at hv;exact⟨i,hv,q H1 k1⟩
  |_=>exact q.elim
def cutD(xs:List D)(lo hi:Option Int):List D:=(xs.drop (HT.sIx xs.length 0 lo)).take (HT.sIx xs.length xs.length hi-HT.sIx xs.length 0 lo)
theorem AI{K:Frag}{W:WS}{H:Hp}{ds:List D}{xs:List V}(r:HasL K W H ds xs)(lo hi:Option Int):HasL K W H (cutD ds lo hi) (Yz xs lo hi):=by
 unfold cutD Yz
 rw[r.length]
 exact(r.drop _).take _
variable {lo hi:Option Expr}{fl fh:Ba->Res (Option Int)}{p2:Pos}
def whole(n:Nat)(lo hi:Option Int):Prop:=HT.sIx n 0 lo=0/\HT.sIx n n hi=n
instance {n:Nat}{lo hi:Option Int}:Decidable (whole n lo hi):=inferInstanceAs (Decidable (_/\_))
theorem Hz{σ:L2.St}{H:Hp}{W₀ W:WS}{H₀:Hp}{δ:Ba}{α:Type}{op:D->Option Int->Option Int->Res α}{R:V->Option Int->Option Int->Hp->Prop}{G:Hp->Res α->Prop}(st:StHas X.K W₀ H₀ W H σ δ)(hex:∀ H c gs,G H (.ex c gs)->∀ H',Same H H'->xw c gs H')(hst:∀ H,G H .stuck->False)(hG:∀ H H' r,Same H H'->G H r->G H' r)(q:G H ((fa δ).bind λx=>(fl δ).bind λl=>(fh δ).bind λu=>op x l u))(h:∀ H2 d v l u,Same H H2->WL W H2->HasT X.K W H2 d v->G H2 (op d l u)->R v l u H2):
  EM X.K xw fa σ H λx H1=>(λσ H Q=>∃ W₀ H₀ W δ,StHas X.K W₀ H₀ W H σ δ/\match fl δ with
 | .ok o=>∀ H',Same H H'->Q o H'
 | .ex c fs=>∀ H',Same H H'->xw c fs H'
 | .stuck=>False:TO) σ H1 λl H2=>(λσ H Q=>∃ W₀ H₀ W δ,StHas X.K W₀ H₀ W H σ δ/\match fh δ with
 | .ok o=>∀ H',Same H H'->Q o H'
 | .ex c fs=>∀ H',Same H H'->xw c fs H'
 | .stuck=>False:TO) σ H2 λu H3=>R x l u H3:=by
 refine⟨W₀,H₀,W,δ,st,?_⟩
 cases h1:fa δ with
 |stuck=>rw[h1]at q;exact hst _ q
 |ex c fs=>rw[h1]at q;exact hex _ _ _ q
 |ok d=>
  rw[h1]at q
  intro v H1 k1 hv
  refine⟨W₀,H₀,W,δ,st.same k1,?_⟩
  have q':G H ((fl δ).bind λl=>(fh δ).bind λu=>op d l u):=q
  cases h2:fl δ with
  |stuck=>rw[h2]at q';exact hst _ q'
  |ex c fs=>rw[h2]at q';exact λH2 k2=>hex _ _ _ q' H2 (k1.trans k2)
  |ok l=>
   rw[h2]at q'
   intro H2 k2
   refine⟨W₀,H₀,W,δ,(st.same k1).same k2,?_⟩
   have q2:G H ((fh δ).bind λu=>op d l u):=q'
   cases h3:fh δ with
   |stuck=>rw[h3]at q2;exact hst _ q2
   |ex c fs=>rw[h3]at q2;exact λH3 k3=>hex _ _ _ q2 H3 ((k1.trans k2).trans k3)
   |ok u=>
    rw[h3]at q2
    intro H3 k3
    have w1:=st.fr.wl.same k1
    exact h H3 d v l u ((k1.trans k2).trans k3) (st.fr.wl.same ((k1.trans k2).trans k3)) (hv.same (k2.trans k3) w1) (hG _ _ _ ((k1.trans k2).trans k3) q2)
def Cw(d:D)(lo hi:Option Int):Res (List D):=match d with
 | .lst ds=>.ok (cutD ds lo hi)
 |_=>.stuck
theorem ZO(ha:DP X xw a fa)(hl:DO X xw lo fl)(hh:DO X xw hi fh):DF X xw (.Subscript a (.Slice lo hi none p2) pos) (λδ=>(fa δ).bind λx=>(fl δ).bind λl=>(fh δ).bind λu=>Cw x l u):=
 PE.weak (NF DM ha hl hh) λσ H Q ⟨W₀,H₀,W,δ,st,q⟩=>Hz (G:=λH r=>RF X.K xw W H r Q) st (λ_ _ _ q=>q) (λ_ q=>q) (λ_ _ _ k q=>RF.same q k) q λH2 d v l u k w hv q2=>by
  unfold Cw at q2
  split at q2
  .obtain⟨a1,xs,e1,sq,r⟩:=hv.lst
   exact⟨a1,xs,e1,sq,λp hp=>q2 p _ H2 (Same.refl _) hp (AI r l u)⟩
  .exact q2.elim
end
inductive Out where
 |nx (δ:Ba)|rt (d:D)|bk (δ:Ba)|ct (δ:Ba)|ex (c:Str) (fs:List D)|stuck
structure Step(W:WS)(H:Hp)(W':WS)(H':Hp):Prop where
 keep:Hh W H H'
 new:∀ b,W' b->W b\/H b=none
section
variable {W W1 W2:WS}{H H1 H2:Hp}
theorem Step.refl:Step W H W H:=⟨λ_ _ e _=>e,λ_ z=>.inl z⟩
theorem Step.same(k:Same H H1):Step W H W H1:=⟨Same.keep k,λ_ z=>.inl z⟩
theorem Step.trans(a:Step W H W1 H1)(b:Step W1 H1 W2 H2):Step W H W2 H2:=by
 refine⟨λc o e n=>b.keep c o (a.keep c o e n) λz=>?_,λc z=>?_⟩
 .rcases a.new c z with q|q
  .exact n q
  .rw[e]at q;cases q
 .rcases b.new c z with q|q
  .exact a.new c q
  .by_cases hw:W c
   .exact .inl hw
   .right
    cases e:H c with
    |none=>rfl
    |some o=>rw[a.keep c o e hw]at q;cases q
end
section
variable (K:Frag)(xw:XW)
def RS(W₀:WS)(H₀:Hp)(W:WS)(H:Hp)(o:Out)(Dn:Ends):Prop:=match o with
 | .nx δ=>∀ W' H' σ,Step W H W' H'->StHas K W₀ H₀ W' H' σ δ->Dn.nx σ H'
 | .bk δ=>∀ W' H' σ,Step W H W' H'->StHas K W₀ H₀ W' H' σ δ->Dn.bk σ H'
 | .ct δ=>∀ W' H' σ,Step W H W' H'->StHas K W₀ H₀ W' H' σ δ->Dn.ct σ H'
 | .rt d=>∀ v H',Same H₀ H'->Has K W₀ H' d v->Dn.rt v H'
 | .ex c fs=>∀ H',Same H₀ H'->xw c fs H'
 | .stuck=>False
def IT(g:Ba->Out):TS:=λDn σ H=>∃ W₀ H₀ W δ,StHas K W₀ H₀ W H σ δ/\RS K xw W₀ H₀ W H (g δ) Dn
end
def DS(X:Cx)(xw:XW)(st:Stmt)(g:Ba->Out):Prop:=PS X st (IT X.K xw g)
def AC(X:Cx)(xw:XW)(sts:List Stmt)(g:Ba->Out):Prop:=PSs X sts (IT X.K xw g)
theorem PS.weak{X:Cx}{st:Stmt}{t t':TS}(h:PS X st t)(k:∀ Dn σ H,t' Dn σ H->t Dn σ H):PS X st t':=λpins s σ H Dn I q=>h pins s σ H Dn I (k Dn σ H q)
theorem PSs.weak{X:Cx}{st:List Stmt}{t t':TS}(h:PSs X st t)(k:∀ Dn σ H,t' Dn σ H->t Dn σ H):PSs X st t':=λpins s σ H Dn I q=>h pins s σ H Dn I (k Dn σ H q)
section
variable {K:Frag}{xw:XW}{W₀ W W1:WS}{H₀ H H1:Hp}{o:Out}{Dn:Ends}
theorem RS.step(h:RS K xw W₀ H₀ W H o Dn)(k:Step W H W1 H1):RS K xw W₀ H₀ W1 H1 o Dn:=by
 cases o with
 |nx δ=>exact λW' H' σ k' st=>h W' H' σ (k.trans k') st
 |bk δ=>exact λW' H' σ k' st=>h W' H' σ (k.trans k') st
 |ct δ=>exact λW' H' σ k' st=>h W' H' σ (k.trans k') st
 |rt d=>exact h
 |ex c fs=>exact h
 |stuck=>exact h
end
def Ul{α:Type}(r:Res α)(k:α->Out):Out:=match r with
 | .ok a=>k a
 | .ex c fs=>.ex c fs
 | .stuck=>.stuck
def Ro(o:Out)(g:Ba->Out):Out:=match o with
 | .nx δ=>g δ
 |o=>o
section
variable {X:Cx}{xw:XW}{e:Expr}{f:Ba->Res D}{pos:Pos}{st:Stmt}{sts:List Stmt}{g g1 g2:Ba->Out}
theorem BJ:AC X xw [] .nx:=PSs.weak Zy λDn σ H ⟨W₀,H₀,W,δ,st,q⟩=>q W H σ Step.refl st
theorem CD(h1:DS X xw st g1)(h2:AC X xw sts g2):AC X xw (st::sts) (λδ=>Ro (g1 δ) g2):=PSs.weak (Iv h1 h2) λDn σ H ⟨W₀,H₀,W,δ,st,q⟩=>by
 refine⟨W₀,H₀,W,δ,st,?_⟩
 dsimp only at q
 cases h:g1 δ with
 |nx δ'=>
  rw[h]at q
  exact λW' H' σ' k st'=>⟨W₀,H₀,W',δ',st',RS.step (o:=g2 δ') q k⟩
 |bk δ'=>rw[h]at q;exact q
 |ct δ'=>rw[h]at q;exact q
 |rt d=>rw[h]at q;exact q
 |ex c fs=>rw[h]at q;exact q
 |stuck=>rw[h]at q;exact q
theorem CJ(h1:DS X xw st g1):AC X xw [st] g1:=OL h1
theorem Ph{σ:L2.St}{H:Hp}{W₀ W:WS}{H₀:Hp}{δ:Ba}{k:D->Out}{Dn:Ends}{R:V->Hp->Prop}(st:StHas X.K W₀ H₀ W H σ δ)(q:RS X.K xw W₀ H₀ W H (Ul (f δ) k) Dn)(h:∀ H2 d v,StHas X.K W₀ H₀ W H2 σ δ->Has X.K W H2 d v->RS X.K xw W₀ H₀ W H2 (k d) Dn->R v H2):IN X.K xw f σ H R:=by
 refine⟨W₀,H₀,W,δ,st,?_⟩
 cases h1:f δ with
 |stuck=>rw[h1]at q;exact q
 |ex c fs=>rw[h1]at q;exact λH' k'=>q H' (st.fr.ext.trans k')
 |ok d=>
  rw[h1]at q
  exact λv H1 k1 hv=>h H1 d v (st.same k1) hv (RS.step (o:=k d) q (Step.same k1))
theorem VI(he:DE X xw e f)(hs:swapsWith e none pos.line X.env=pure false:=by rfl):DS X xw (.Expr e pos) (λδ=>Ul (f δ) λ_=>.nx δ):=PS.weak (Hs he hs) λDn σ H ⟨W₀,H₀,W,δ,st,q⟩=>
 Ph st q λH2 d v st2 hv q2=>q2 W H2 σ Step.refl st2
theorem LP(he:DE X xw e f):DS X xw (.Return (some e) pos) (λδ=>Ul (f δ) λd=>.rt d):=PS.weak (QF he) λDn σ H ⟨W₀,H₀,W,δ,st,q⟩=>
 Ph st q λH2 d v st2 hv q2=>q2 v H2 st2.fr.ext (Has.keep (λ_ _ e _=>e) st2.fr.wl (λb z=>.inl (st2.fr.sub b z)) hv)
theorem ZI(i:Nat){x:Str}{pos':Pos}(hN:X.N[i]? =some x:=by rfl)(hv:Bw X.env.scope x:=by first|exact Or.inl rfl|exact Or.inr (Or.inl rfl)|exact Or.inr (Or.inr rfl))(hd:(x==("__debug__":Str))=false:=by decide)(hcd:(x==("__classdict__":Str))=false:=by decide):DS X xw (.Return (some (.Name x pos')) pos) (λδ=>Ul (Fa i δ) λd=>.rt d):=PS.weak (QF (Fh hN hv hd hcd)) λDn σ H ⟨W₀,H₀,W,δ,st,q⟩=>by
 have up:∀ b,W₀ b->W b\/H b=none:=λb z=>.inl (st.fr.sub b z)
 unfold Fa at q
 dsimp only at q
 split at q
 .rename_i d h
  obtain⟨v,e,r⟩:=st.at' i _ h
  exact⟨v,e,q v H st.fr.ext (Has.keep (λ_ _ e _=>e) st.fr.wl up r)⟩
 .rename_i ds h
  obtain⟨v,e,a,xs,r1,r2,r3,r4,r5⟩:=st.at' i _ h
  refine⟨v,e,q v H st.fr.ext ?_⟩
  rw[Has]
  refine⟨a,xs,r1,.inl ⟨r4,λz=>?_⟩,HasL.keep (λ_ _ e _=>e) st.fr.wl up r5⟩
  obtain⟨ys,z',_⟩:=st.fr.wl0 a z
  rw[r3]at z';cases z'
 .exact q.elim
theorem MP(i:Nat){x:Str}{pos':Pos}(hN:X.N.Nodup)(he:DE X xw e f)(hi:X.N[i]? =some x:=by rfl)(hx:Ew X.env.scope x:=by first|exact Or.inl rfl|exact Or.inr rfl)(hs:swapsWith e (some (.Name x pos')) pos.line X.env=pure false:=by rfl)(hf:X.fn x=true\/X.env.scope.names.lookup x=some .local:=by first|exact .inl rfl|exact .inr rfl|assumption):DS X xw (.Assign [.Name x pos'] e pos) (λδ=>Ul (f δ) λd=>.nx (δ.set i (some (.d d)))):=
 PS.weak (Js hN hi hx he hs hf) λDn σ H ⟨W₀,H₀,W,δ,st,q⟩=>Ph st q λH2 d v st2 hv q2=>q2 W H2 _ Step.refl (st2.set hv)
theorem Xu{σ:L2.St}{H:Hp}{W₀ W:WS}{H₀:Hp}{δ:Ba}{ff:Ba->Res (List D)}{i:Nat}{Dn:Ends}(st:StHas X.K W₀ H₀ W H σ δ)(q:RS X.K xw W₀ H₀ W H (Ul (ff δ) λds=>.nx (δ.set i (some (.o ds)))) Dn):
  R0 X.K xw ff σ H λx H1=>Fu i x σ H1 Dn.nx:=by
 refine⟨W₀,H₀,W,δ,st,?_⟩
 cases h1:ff δ with
 |stuck=>rw[h1]at q;exact q
 |ex c fs=>rw[h1]at q;exact λH' k'=>q H' (st.fr.ext.trans k')
 |ok ds=>
  rw[h1]at q
  intro a xs H1 k n r
  have st1:=(st.same k).own (i:=i) n r
  refine q _ _ _ ⟨λb o e nb=>?_,λb z=>z.elim .inl λz=>.inr (by rw[z];exact Same.free k n)⟩ st1
  rw[Da (Ka (k b o e) n)];exact k b o e
theorem KP(i:Nat){x:Str}{pos':Pos}{ff:Ba->Res (List D)}(hN:X.N.Nodup)(he:DF X xw e ff)(hi:X.N[i]? =some x:=by rfl)(hx:Ew X.env.scope x:=by first|exact Or.inl rfl|exact Or.inr rfl)(hs:swapsWith e (some (.Name x pos')) pos.line X.env=pure false:=by rfl)(hf:X.fn x=true\/X.env.scope.names.lookup x=some .local:=by first|exact .inl rfl|exact .inr rfl|assumption):DS X xw (.Assign [.Name x pos'] e pos) (λδ=>Ul (ff δ) λds=>.nx (δ.set i (some (.o ds)))):=
 PS.weak (Js hN hi hx he hs hf) λDn σ H ⟨W₀,H₀,W,δ,st,q⟩=>Xu st q
def YX(c:Res Bool)(a b:Out):Out:=Ul c λk=>if k=true then a else b
variable {c:Expr}{ga:Ba->Res Bool}{as bs:List Stmt}
theorem DV(hc:DT X xw c ga)(ha:AC X xw as g1)(hb:AC X xw bs g2):DS X xw (.If c as bs pos) (λδ=>YX (ga δ) (g1 δ) (g2 δ)):=PS.weak (FW hc ha hb) λDn σ H ⟨W₀,H₀,W,δ,st,q⟩=>by
 refine⟨W₀,H₀,W,δ,st,?_⟩
 unfold YX at q
 dsimp only at q
 cases h1:ga δ with
 |stuck=>rw[h1]at q;exact q
 |ex c fs=>rw[h1]at q;exact λH' k'=>q H' (st.fr.ext.trans k')
 |ok k=>
  rw[h1]at q
  intro H1 k1
  have q':RS X.K xw W₀ H₀ W H (if k=true then g1 δ else g2 δ) Dn:=q
  cases k with
  |true=>rw[if_pos rfl]at q' ⊢;exact⟨W₀,H₀,W,δ,st.same k1,q'.step (Step.same k1)⟩
  |false=>rw[if_neg Bool.false_ne_true]at q' ⊢;exact⟨W₀,H₀,W,δ,st.same k1,q'.step (Step.same k1)⟩
def EY(K:Frag)(t:D->Ba->Res Ba):TG:=λv σ H Q=>∃ W₀ H₀ W δ d,StHas K W₀ H₀ W H σ δ/\Has K W H d v/\match t d δ with
 | .ok δ'=>∀ σ',StHas K W₀ H₀ W H σ' δ'->Q σ' H
 |_=>False
def DG(X:Cx)(tg:Expr)(t:D->Ba->Res Ba):Prop:=PG X tg (EY X.K t)
theorem PG.weak{X:Cx}{tg:Expr}{t t':TG}(h:PG X tg t)(k:∀ v σ H Q,t' v σ H Q->t v σ H Q):PG X tg t':=λpins s σ H v u Q I r q=>h pins s σ H v u Q I r (k v σ H Q q)
def Nb(i:Nat)(d:D)(δ:Ba):Res Ba:=.ok (δ.set i (some (.d d)))
theorem KI(i:Nat){x:Str}(hN:X.N.Nodup)(hi:X.N[i]? =some x:=by rfl)(hx:Ew X.env.scope x:=by first|exact Or.inl rfl|exact Or.inr rfl)(hf:X.fn x=true\/X.env.scope.names.lookup x=some .local:=by first|exact .inl rfl|exact .inr rfl|assumption):
  DG X (.Name x pos) (Nb i):=PG.weak (IL hN hi hx hf) λv σ H Q ⟨W₀,H₀,W,δ,d,st,hv,q⟩=>q _ (st.set hv)
def S0(K:Frag)(t:List D->Ba->Res Ba):LH:=λvs σ H Q=>∃ W₀ H₀ W δ ds,StHas K W₀ H₀ W H σ δ/\HasL K W H ds vs/\match t ds δ with
 | .ok δ'=>∀ σ',StHas K W₀ H₀ W H σ' δ'->Q σ' H
 |_=>False
def KU(X:Cx)(tgs:List Expr)(t:List D->Ba->Res Ba):Prop:=PGs X tgs (S0 X.K t)
theorem PGs.weak{X:Cx}{tg:List Expr}{t t':LH}(h:PGs X tg t)(k:∀ v σ H Q,t' v σ H Q->t v σ H Q):PGs X tg t':=λpins s σ H v u Q I r q=>h pins s σ H v u Q I r (k v σ H Q q)
def We(ds:List D)(δ:Ba):Res Ba:=match ds with
 | []=>.ok δ
 |_=>.stuck
def Lb(t:D->Ba->Res Ba)(r:List D->Ba->Res Ba)(ds:List D)(δ:Ba):Res Ba:=match ds with
 |d::ds=>(t d δ).bind λδ'=>r ds δ'
 | []=>.stuck
variable {tg:Expr}{tgs:List Expr}{t:D->Ba->Res Ba}{ts:List D->Ba->Res Ba}
theorem LI:KU X [] We:=PGs.weak JL λvs σ H Q ⟨W₀,H₀,W,δ,ds,st,hv,q⟩=>by
 unfold We at q
 cases ds with
 |nil=>rw[HasL]at hv;exact⟨hv,q σ st⟩
 |cons=>exact q.elim
theorem WC(h1:DG X tg t)(h2:KU X tgs ts)(hs:(assignEach (tg::tgs) X.env).map (·.2)=assign tg X.env::(assignEach tgs X.env).map (·.2):=by rfl):KU X (tg::tgs) (Lb t ts):=
 PGs.weak (OF h1 h2 hs) λvs σ H Q ⟨W₀,H₀,W,δ,ds,st,hv,q⟩=>by
  unfold Lb at q
  cases ds with
  |nil=>exact q.elim
  |cons d ds=>
   rw[HasL]at hv
   obtain⟨x,r,e,h,hr⟩:=hv
   refine⟨x,r,e,W₀,H₀,W,δ,d,st,h,?_⟩
   dsimp only at q
   cases h1:t d δ with
   |stuck=>rw[h1]at q;exact q
   |ex c fs=>rw[h1]at q;exact q
   |ok δ'=>
    rw[h1]at q
    exact λσ' st'=>⟨W₀,H₀,W,δ',ds,st',hr,q⟩
def Xe(n:Nat)(ts:List D->Ba->Res Ba)(d:D)(δ:Ba):Res Ba:=match d with
 | .tup ds=>if ds.length=n then ts ds δ else .stuck
 |_=>.stuck
theorem BP{k:Nat}{n:Nat}(hc:X.calm=true)(h:KU X tgs ts)(hn:(assignEach tgs X.env).length=n:=by rfl)(hst:(assignEach tgs X.env).findIdx? (·.1)=none:=by rfl):DG X (.Tuple tgs k pos) (Xe n ts):=
 PG.weak (XR hc h hn hst) λv σ H Q ⟨W₀,H₀,W,δ,d,st,hv,q⟩=>by
  unfold Xe at q
  cases d with
  |tup ds=>
   dsimp only at q
   split at q
   .rename_i hl
    split at hl
    .rename_i hl'
     rw[Has]at hv
     obtain⟨a,xs,e,sq,r⟩:=hv
     refine⟨a,xs,e,sq,by rw[<-r.length];exact hl',W₀,H₀,W,δ,ds,st,r,?_⟩
     rw[hl]
     exact q
    .cases hl
   .exact q.elim
  |_=>exact q.elim
def FC(K:Frag)(W:WS)(H:Hp)(J:It)(ds:List D):Prop:=∀ W' H2,Step W H W' H2->WL W' H2->
 (∀ i d,ds[i]? =some d->J.go i H2/\∀ x H3,J.yld i H2 x H3->Same H2 H3/\Has K W' H3 d x)/\J.stop ds.length H2
def Y1(K:Frag)(xw:XW)(f:Ba->Res (List D)):TI:=λσ H R=>∃ W₀ H₀ W δ,StHas K W₀ H₀ W H σ δ/\match f δ with
 | .ok ds=>∀ J H',Same H H'->FC K W H' J ds->R J H'
 | .ex c fs=>∀ H',Same H H'->xw c fs H'
 | .stuck=>False
def DI(X:Cx)(xw:XW)(tg iter:Expr)(f:Ba->Res (List D)):Prop:=PI X tg iter (Y1 X.K xw f)
theorem PI.weak{X:Cx}{tg iter:Expr}{t t':TI}(h:PI X tg iter t)(k:∀ σ H R,t' σ H R->t σ H R):PI X tg iter t':=λpins s σ H R I q=>h pins s σ H R I (k σ H R q)
theorem SqL.lr{K:Frag}{W W':WS}{H H2:Hp}{a:Addr}{xs:List V}(h:LR K W H a xs)(k:Step W H W' H2)(w:WL W H):LR K W' H2 a xs:=h.keep k.keep w k.new
theorem GQ{K:Frag}{W:WS}{H:Hp}{a:Addr}{xs:List V}{ds:List D}(w:WL W H)(h:LR K W H a xs)(r:HasL K W H ds xs):FC K W H (SY K a) ds:=by
 intro W' H2 k w2
 have h2:=(SqL.lr h k w).sq
 refine⟨λi d e=>?_,xs,h2,by rw[r.length];exact le_refl _⟩
 obtain⟨x,e1,hx⟩:=r.get e
 refine⟨⟨xs,x,h2,e1⟩,λy H3 z=>?_⟩
 obtain⟨rfl,z⟩:=z
 have:y=x:=by
  have q:=z xs h2
  rw[e1]at q;exact(Option.some.inj q).symm
 subst this
 exact⟨Same.refl _,Has.keep k.keep w k.new hx⟩
theorem HQ{K:Frag}{W:WS}{H:Hp}{a:Addr}{xs:List V}{ds:List D}(w:WL W H)(h:SqT K H a xs)(r:HasL K W H ds xs):FC K W H (TY K a) ds:=by
 intro W' H2 k w2
 have h2:=So k.keep w h
 refine⟨λi d e=>?_,xs,h2,by rw[r.length];exact le_refl _⟩
 obtain⟨x,e1,hx⟩:=r.get e
 refine⟨⟨xs,x,h2,e1⟩,λy H3 z=>?_⟩
 obtain⟨rfl,z⟩:=z
 have:y=x:=by
  have q:=z xs h2
  rw[e1]at q;exact(Option.some.inj q).symm
 subst this
 exact⟨Same.refl _,Has.keep k.keep w k.new hx⟩
def Dk(lo:Int)(n:Nat):List D:=(range n).map λ(i:Nat)=>D.int (lo+i)
theorem BE{K:Frag}{W:WS}{H:Hp}(lo:Int)(n:Nat):FC K W H (Itr lo n) (Dk lo n):=by
 intro W' H2 k w2
 unfold Dk
 refine⟨λi d e=>?_,by simp[Itr]⟩
 rw[getElem?_map]at e
 have hi:i<n:=by
  refine Nat.lt_of_not_le λz=>?_
  rw[List.getElem?_eq_none (by simpa using z)]at e;cases e
 rw[List.getElem?_range hi]at e
 have e':D.int (lo+(i:Nat))=d:=Option.some.inj e
 subst e'
 refine⟨hi,λx H3 z=>?_⟩
 obtain⟨rfl,rfl⟩:=z
 exact⟨Same.refl _,by rw[Has]⟩
noncomputable def Aj(ds:List D):Res (List D):=match ds with
 | [.int j]=>@ite (Res (List D)) (-(2^62)<=j/\j<2^62) (propDecidable _) (.ok (Dk 0 j.toNat)) .stuck
 |_=>.stuck
noncomputable def Oo(ds:List D):Res (List D):=match ds with
 | [.int i,.int j]=>@ite (Res (List D)) ((-(2^62)<=i/\i<2^62)/\ -(2^62)<=j/\j<2^62) (propDecidable _) (.ok (Dk i (j-i).toNat)) .stuck
 |_=>.stuck
theorem HasL.one{K:Frag}{W:WS}{H:Hp}{i:Int}{vs:List V}(h:HasL K W H [.int i] vs):vs= [.int i]:=by
 rw[HasL]at h
 obtain⟨x,r,rfl,h1,h2⟩:=h
 rw[HasL]at h2
 rw[Has]at h1
 rw[h1,h2]
theorem HasL.two{K:Frag}{W:WS}{H:Hp}{i j:Int}{vs:List V}(h:HasL K W H [.int i,.int j] vs):vs= [.int i,.int j]:=by
 rw[HasL]at h
 obtain⟨x,r,rfl,h1,h2⟩:=h
 rw[Has]at h1
 rw[h1,h2.one]
variable {a b:Expr}{fs:Ba->Res (List D)}{p:Pos}
theorem EA(hm:X.mg "range"=none)(ha:DA X xw [a] fs)(hg:Gl X "range":=by rfl)(hs:starEach [a] X.env= [(false,eval a X.env)]:=by rfl):DI X xw tg (.Call (.Name "range" p) [a] [] pos) (λδ=>(fs δ).bind Aj):=
 PI.weak (MB hg hm ha hs) λσ H R ⟨W₀,H₀,W,δ,st,q⟩=>by
  refine⟨W₀,H₀,W,δ,st,?_⟩
  dsimp only at q
  cases h1:fs δ with
  |stuck=>rw[h1]at q;exact q
  |ex c fs=>rw[h1]at q;exact q
  |ok ds=>
   rw[h1]at q
   intro vs H1 k1 hv
   dsimp only[Res.bind]at q
   unfold Aj at q
   split at q
   .rename_i ds' hq
    split at hq
    .rename_i j
     split at hq
     .rename_i hj
      have e':Dk 0 j.toNat=ds':=by cases hq;rfl
      subst e'
      exact⟨j,hv.one,hj.1,hj.2,q _ H1 k1 (BE 0 _)⟩
     .cases hq
    .cases hq
   .rename_i hq
    split at hq
    .split at hq<;>cases hq
    .cases hq
   .exact q.elim
theorem FA(hm:X.mg "range"=none)(ha:DA X xw [a,b] fs)(hg:Gl X "range":=by rfl)(hs:starEach [a,b] X.env= [(false,eval a X.env),(false,eval b X.env)]:=by rfl)(hs2:starEach [b] X.env= [(false,eval b X.env)]:=by rfl):
  DI X xw tg (.Call (.Name "range" p) [a,b] [] pos) (λδ=>(fs δ).bind Oo):=
 PI.weak (NB hg hm ha hs hs2) λσ H R ⟨W₀,H₀,W,δ,st,q⟩=>by
  refine⟨W₀,H₀,W,δ,st,?_⟩
  dsimp only at q
  cases h1:fs δ with
  |stuck=>rw[h1]at q;exact q
  |ex c fs=>rw[h1]at q;exact q
  |ok ds=>
   rw[h1]at q
   intro vs H1 k1 hv
   dsimp only[Res.bind]at q
   unfold Oo at q
   split at q
   .rename_i ds' hq
    split at hq
    .rename_i i j
     split at hq
     .rename_i hj
      have e':Dk i (j-i).toNat=ds':=by cases hq;rfl
      subst e'
      exact⟨i,j,hv.two,⟨hj.1.1,hj.1.2,hj.2.1,hj.2.2⟩,q _ H1 k1 (BE i _)⟩
     .cases hq
    .cases hq
   .rename_i hq
    split at hq
    .split at hq<;>cases hq
    .cases hq
   .exact q.elim
def Jh(t:D->Ba->Res Ba)(body:Ba->Out):List D->Ba->Out
 | [],δ=>.nx δ
 |d::ds,δ=>match t d δ with
  | .ok δ'=>match body δ' with
   | .nx δ2=>Jh t body ds δ2
   | .ct δ2=>Jh t body ds δ2
   | .bk δ2=>.nx δ2
   | .rt d=>.rt d
   | .ex c fs=>.ex c fs
   | .stuck=>.stuck
  |_=>.stuck
theorem IP{iter:Expr}{fi:Ba->Res (List D)}(hp:PassesOwn (model X.prog X.w) X.A X.env X.xe)(hc:X.calm=true)(hi:DI X xw tg iter fi)(hg:DG X tg t)(hb:AC X xw sts g)(hs:∀ x,foldedSetIterable iter X.env x=pure x:=by intro _;rfl):DS X xw (.For tg iter sts [] pos) (λδ=>Ul (fi δ) λds=>Jh t g ds δ):=
 PS.weak (CS hp hc hi hg hb hs) λDn σ H ⟨W₀,H₀,W,δ,st,q⟩=>by
  refine⟨W₀,H₀,W,δ,st,?_⟩
  dsimp only at q
  cases h1:fi δ with
  |stuck=>rw[h1]at q;exact q
  |ex c fs=>rw[h1]at q;exact λH' k'=>q H' (st.fr.ext.trans k')
  |ok ds=>
   rw[h1]at q
   intro J H1 k1 it
   have q1:RS X.K xw W₀ H₀ W H1 (Jh t g ds δ) Dn:=RS.step (o:=Jh t g ds δ) q (Step.same k1)
   refine⟨λi m σ' H'=>∃ W' δ',m=ds.length-i/\i<=ds.length/\StHas X.K W₀ H₀ W' H' σ' δ'/\Step W H1 W' H'/\RS X.K xw W₀ H₀ W' H' (Jh t g (ds.drop i) δ') Dn,
    ⟨_,W,δ,rfl,zero_le _,st.same k1,Step.refl,q1⟩,?_⟩
   rintro i m σ' H' ⟨W',δ',rfl,hi,st',k',q'⟩
   obtain⟨items,stop⟩:=it W' H' k' st'.fr.wl
   by_cases hl:i<ds.length
   .right
    have e:ds[i]? =some ds[i]:=getElem?_eq_getElem hl
    obtain⟨go,yld⟩:=items i _ e
    have ed:ds.drop i=ds[i]::ds.drop (i+1):=List.drop_eq_getElem_cons hl
    rw[ed]at q'
    unfold Jh at q'
    refine⟨go,λσ2 H2=>∃ W2 δ2,StHas X.K W₀ H₀ W2 H2 σ2 δ2/\Step W H1 W2 H2/\RS X.K xw W₀ H₀ W2 H2 (Jh t g (ds.drop (i+1)) δ2) Dn,λσ2 H2 ⟨W2,δ2,a1,a2,a3⟩=>⟨ds.length-(i+1),by omega,W2,δ2,rfl,hl,a1,a2,a3⟩,λx H3 z=>?_⟩
    obtain⟨k3,hx⟩:=yld x H3 z
    refine⟨W₀,H₀,W',δ',ds[i],st'.same k3,hx,?_⟩
    cases h2:t ds[i] δ' with
    |stuck=>rw[h2]at q';exact q'
    |ex c fs=>rw[h2]at q';exact q'
    |ok δ2=>
     rw[h2]at q'
     intro σ2 st2
     refine⟨W₀,H₀,W',δ2,st2,?_⟩
     dsimp only at q'
     have kk:Step W' H' W' H3:=Step.same k3
     cases h3:g δ2 with
     |nx δ3=>rw[h3]at q';exact λW3 H4 σ3 k4 st3=>⟨W3,δ3,st3,(k'.trans kk).trans k4,RS.step (o:=Jh t g (ds.drop (i+1)) δ3) q' (kk.trans k4)⟩
     |ct δ3=>rw[h3]at q';exact λW3 H4 σ3 k4 st3=>⟨W3,δ3,st3,(k'.trans kk).trans k4,RS.step (o:=Jh t g (ds.drop (i+1)) δ3) q' (kk.trans k4)⟩
     |bk δ3=>rw[h3]at q';exact λW3 H4 σ3 k4 st3=>q' W3 H4 σ3 (kk.trans k4) st3
     |rt d=>rw[h3]at q';exact q'
     |ex c fs=>rw[h3]at q';exact q'
     |stuck=>rw[h3]at q';exact q'
   .left
    have ei:i=ds.length:=by omega
    subst ei
    rw[List.drop_length]at q'
    exact⟨stop,q' W' H' σ' Step.refl st'⟩
def Wd(c:Ba->Res Bool)(body:Ba->Out):Nat->Ba->Out
 |0,_=>.stuck
 |n+1,δ=>match c δ with
  | .ok true=>match body δ with
   | .nx δ2=>Wd c body n δ2
   | .ct δ2=>Wd c body n δ2
   | .bk δ2=>.nx δ2
   | .rt d=>.rt d
   | .ex c fs=>.ex c fs
   | .stuck=>.stuck
  | .ok false=>.nx δ
  | .ex c fs=>.ex c fs
  | .stuck=>.stuck
theorem BD(n:Nat)(hp:PassesOwn (model X.prog X.w) X.A X.env X.xe)(hc:DT X xw c ga)(hb:AC X xw sts g):DS X xw (.While c sts [] pos) (λδ=>Wd ga g n δ):=
 PS.weak (SF hp hc hb) λDn σ H ⟨W₀,H₀,W,δ,st,q⟩=>by
  refine⟨λm σ' H'=>∃ W' δ',StHas X.K W₀ H₀ W' H' σ' δ'/\RS X.K xw W₀ H₀ W' H' (Wd ga g m δ') Dn,⟨n,W,δ,st,q⟩,?_⟩
  rintro m σ' H' ⟨W',δ',st',q'⟩
  cases m with
  |zero=>exact q'.elim
  |succ m=>
   unfold Wd at q'
   refine⟨W₀,H₀,W',δ',st',?_⟩
   cases h1:ga δ' with
   |stuck=>rw[h1]at q';exact q'
   |ex c fs=>rw[h1]at q';exact λH2 k2=>q' H2 (st'.fr.ext.trans k2)
   |ok k=>
    rw[h1]at q'
    intro H2 k2
    cases k with
    |false=>rw[if_neg Bool.false_ne_true];exact q' W' H2 σ' (Step.same k2) (st'.same k2)
    |true=>
     rw[if_pos rfl]
     refine⟨λσ3 H3=>∃ W3 δ3,StHas X.K W₀ H₀ W3 H3 σ3 δ3/\RS X.K xw W₀ H₀ W3 H3 (Wd ga g m δ3) Dn,λσ3 H3 z=>⟨m,Nat.lt_succ_self m,z⟩,W₀,H₀,W',δ',st'.same k2,?_⟩
     dsimp only at q'
     have kk:Step W' H' W' H2:=Step.same k2
     cases h3:g δ' with
     |nx δ3=>rw[h3]at q';exact λW3 H4 σ3 k4 st3=>⟨W3,δ3,st3,RS.step (o:=Wd ga g m δ3) q' (kk.trans k4)⟩
     |ct δ3=>rw[h3]at q';exact λW3 H4 σ3 k4 st3=>⟨W3,δ3,st3,RS.step (o:=Wd ga g m δ3) q' (kk.trans k4)⟩
     |bk δ3=>rw[h3]at q';exact λW3 H4 σ3 k4 st3=>q' W3 H4 σ3 (kk.trans k4) st3
     |rt d=>rw[h3]at q';exact q'
     |ex c fs=>rw[h3]at q';exact q'
     |stuck=>rw[h3]at q';exact q'
end
def noex{α:Type}:Res α->Res α
 | .ok a=>.ok a
 |_=>.stuck
def Qe(t:D->Ba->Res Ba)(c:Ba->Res Bool)(fe:Ba->Res D):List D->Ba->Res (List D)
 | [],_=>.ok []
 |d::ds,δ=>match t d δ with
  | .ok δ'=>(noex (c δ')).bind λk=>if k=true then(noex (fe δ')).bind λx=>(Qe t c fe ds δ').bind λr=>.ok (x::r) else Qe t c fe ds δ'
  |_=>.stuck
abbrev Vq:XW:=λ_ _ _=>False
section
variable {K:Frag}{W₀ W:WS}{H₀ H:Hp}{σ:L2.St}{δ:Ba}{a:Addr}
theorem StHas.acc{xs ys:List V}(h:StHas K W₀ (Ib H₀ a (.lst xs)) W H σ δ)(ha:H a=some (.lst xs))(hW:W a):StHas K W₀ (Ib H₀ a (.lst ys)) W (Ib H a (.lst ys)) σ δ:=by
 have kk:Hh W H (Ib H a (.lst ys)):=λb o e n=>by
  rw[Da (λz=>n (by rw[z];exact hW))];exact e
 have hw:∀ b,W b->W b\/H b=none:=λb z=>.inl z
 have fr':FrOk W₀ (Ib H₀ a (.lst ys)) W (Ib H a (.lst ys)):=by
  refine⟨λb o e=>?_,h.fr.sub,⟨λb z=>?_,λq hq=>by rw[Da (h.fr.wl.noW hW hq)];exact h.fr.wl.tab q hq⟩,⟨λb z=>?_,λq hq=>by have:=h.fr.wl0.tab q hq;rw[Da (h.fr.wl.noW hW hq)]at this ⊢;exact this⟩⟩
  .by_cases hb:b=a
   .subst hb;rw[Ra]at e ⊢;exact e
   .rw[Da hb]at e ⊢
    exact h.fr.ext b o (by rw[Da hb];exact e)
  .by_cases hb:b=a
   .rw[hb];exact⟨_,Ra,trivial⟩
   .rw[Da hb];exact h.fr.wl b z
  .by_cases hb:b=a
   .rw[hb];exact⟨_,Ra,trivial⟩
   .have:=h.fr.wl0 b z
    rw[Da hb]at this ⊢;exact this
 have na:∀ (j:Nat) (s:S) (v:V) (b:Addr),δ[j]? =some (some s)->σ[j]? =some (some v)->Owns H s v b->b≠a:=λj s v b e e' o z=>by
  obtain⟨v',h1,h2⟩:=h.at' j s e
  rw[e']at h1;cases h1
  obtain⟨_,g,_⟩:=h2.owns o
  rw[z,Ra]at g;cases g
 have bk:∀ (j:Nat) (s:S) (v:V) (b:Addr),δ[j]? =some (some s)->σ[j]? =some (some v)->Owns (Ib H a (.lst ys)) s v b->Owns H s v b:=λj s v b e e' o=>by
  obtain⟨v',h1,h2⟩:=h.at' j s e
  rw[e']at h1;cases h1
  refine Owns.back h2 (λc o ec z y=>?_) o
  rcases y with⟨y,_⟩|⟨zs,y⟩
  .rw[Da (na j _ _ c e e' y)];exact z
  .rw[Da (λq=>by rw[q,ha]at z;cases z;cases y)];exact z
 refine⟨fr',h.len,λj s e=>?_,λi j s t u v b ij e1 e2 e3 e4 o1 o2=>h.ap i j s t u v b ij e1 e2 e3 e4 (bk i s u b e1 e3 o1) (bk j t v b e2 e4 o2)⟩
 obtain⟨v,h1,h2⟩:=h.at' j s e
 refine⟨v,h1,?_⟩
 cases s with
 |d x=>exact Has.keep kk h.fr.wl hw h2
 |o ds'=>
  obtain⟨b,zs,e',g1,g2,g3,g4⟩:=h2
  have hb:b≠a:=λz=>by
   rw[z,Ra]at g2;cases g2
  rw[Da hb]at g2
  exact⟨b,zs,e',g1,by rw[Da hb];exact g2,by rw[Da hb];exact g3,HasL.keep kk h.fr.wl hw g4⟩
 |q ks' ds'=>
  obtain⟨b,zs,e',g1,g2,g3,g4,g5⟩:=h2
  have hb:b≠a:=λz=>by
   rw[z,Ra]at g2;cases g2
  rw[Da hb]at g2
  exact⟨b,zs,e',g1,by rw[Da hb];exact g2,by rw[Da hb];exact g3,g4,HasL.keep kk h.fr.wl hw g5⟩
 |w dss=>
  obtain⟨b,bs,e',g1,g2,g3,g4,g5,g6,g7⟩:=h2
  have hb:b≠a:=λz=>by
   rw[z,Ra]at g2;cases g2
  rw[Da hb]at g2
  refine⟨b,bs,e',g1,by rw[Da hb];exact g2,by rw[Da hb];exact g3,g4,g5,g6,λi c ds e1 e2=>?_⟩
  obtain⟨f1,f2,xs',f3,f4⟩:=g7 i c ds e1 e2
  have hc:c≠a:=λz=>by
   rw[z,Ra]at f2;cases f2
  rw[Da hc]at f2
  exact⟨f1,by rw[Da hc];exact f2,xs',by rw[Da hc];exact f3,HasL.keep kk h.fr.wl hw f4⟩
 |k t cs=>
  obtain⟨b,ob,e',g1,g2,g3,g4,g5,g6⟩:=h2
  have hb:b≠a:=λz=>by
   by_cases m:MH t
   .have:=(g3 m).2
    rw[z,Ra]at this;cases this
   .obtain⟨zs,rfl⟩:=g2.tup m
    rw[z,ha]at g1;cases g1
  refine⟨b,ob,e',by rw[Da hb];exact g1,g2,λm=>⟨(g3 m).1,by have:=(g3 m).2;rw[Da hb]at this ⊢;exact this⟩,g4,g5,λi c x e1 e2=>?_⟩
  have hc:=g6 i c x e1 e2
  cases c with
  |d y=>exact Has.keep kk h.fr.wl hw hc
  |l ds'=>
   obtain⟨b,zs,e',g1,g2,g3,g4⟩:=hc
   have hb:b≠a:=λz=>by
    rw[z,Ra]at g2;cases g2
   rw[Da hb]at g2
   exact⟨b,zs,e',g1,by rw[Da hb];exact g2,by rw[Da hb];exact g3,HasL.keep kk h.fr.wl hw g4⟩
  |q ks' ds'=>
   obtain⟨b,zs,e',g1,g2,g3,g4,g5⟩:=hc
   have hb:b≠a:=λz=>by
    rw[z,Ra]at g2;cases g2
   rw[Da hb]at g2
   exact⟨b,zs,e',g1,by rw[Da hb];exact g2,by rw[Da hb];exact g3,g4,HasL.keep kk h.fr.wl hw g5⟩
theorem StHas.block(n:Nat)(h:StHas K W₀ H₀ W H σ δ)(ha:H a=none):StHas K W₀ (Ib H₀ a (.lst [])) (λb=>W b\/b=a) (Ib H a (.lst [])) (replicate n none++σ) (replicate n none++δ):=by
 have hw:∀ b,(W b\/b=a)->W b\/H b=none:=λb z=>z.elim .inl λz=>.inr (by rw[z];exact ha)
 have k:Same H (Ib H a (.lst [])):=Jd ha
 have kk:Hh W H (Ib H a (.lst [])):=Same.keep k
 have ha0:H₀ a=none:=Same.free h.fr.ext ha
 have fr':FrOk W₀ (Ib H₀ a (.lst [])) (λb=>W b\/b=a) (Ib H a (.lst [])):=by
  refine⟨λb o e=>?_,λb z=>.inl (h.fr.sub b z),⟨λb z=>z.elim ((h.fr.wl.same k).own b) λz=>by rw[z];exact⟨_,Ra,trivial⟩,(h.fr.wl.same k).tab⟩,h.fr.wl0.same (Jd ha0)⟩
  by_cases hb:b=a
  .subst hb;rw[Ra]at e ⊢;exact e
  .rw[Da hb]at e ⊢
   exact h.fr.ext b o e
 have idx:∀ {α:Type} (l:List (Option α)) (j:Nat) (x:α),(replicate n none++l)[j]? =some (some x)->n<=j/\l[j-n]? =some (some x):=λl j x e=>by
  by_cases hj:j<n
  .rw[List.getElem?_append_left (by simpa using hj),List.getElem?_replicate]at e
   split at e<;>cases e
  .refine⟨Nat.le_of_not_lt hj,?_⟩
   rw[getElem?_append_right (by simpa using hj),length_replicate]at e;exact e
 have back:∀ {α:Type} (l:List (Option α)) (j:Nat) (x:Option α),n<=j->l[j-n]? =some x->(replicate n none++l)[j]? =some x:=λl j x hj e=>by
  rw[getElem?_append_right (by simpa using hj),length_replicate];exact e
 refine⟨fr',by simp[h.len],λj s e=>?_,λi j s1 s2 u u' b hij e1 e2 e3 e4 os ot=>?_⟩
 .obtain⟨hj,e⟩:=idx _ _ _ e
  obtain⟨v,h1,h2⟩:=h.at' _ s e
  refine⟨v,back _ _ _ hj h1,?_⟩
  cases s with
  |d x=>exact Has.keep kk h.fr.wl hw h2
  |o ds'=>
   obtain⟨b,ys,e',g1,g2,g3,g4⟩:=h2
   have hb:b≠a:=Ka g3 ha
   exact⟨b,ys,e',.inl g1,by rw[Da hb];exact g2,k _ _ g3,HasL.keep kk h.fr.wl hw g4⟩
  |q ks' ds'=>
   obtain⟨b,ys,e',g1,g2,g3,g4,g5⟩:=h2
   have hb:b≠a:=Ka g3 ha
   exact⟨b,ys,e',.inl g1,by rw[Da hb];exact g2,k _ _ g3,g4,HasL.keep kk h.fr.wl hw g5⟩
  |w dss=>
   obtain⟨b,bs,e',g1,g2,g3,g4,g5,g6,g7⟩:=h2
   have hb:b≠a:=Ka g3 ha
   refine⟨b,bs,e',.inl g1,by rw[Da hb];exact g2,k _ _ g3,g4,g5,g6,λi c ds e1 e2=>?_⟩
   obtain⟨f1,f2,xs',f3,f4⟩:=g7 i c ds e1 e2
   have hc:c≠a:=Ka f3 ha
   exact⟨.inl f1,by rw[Da hc];exact f2,xs',k _ _ f3,HasL.keep kk h.fr.wl hw f4⟩
  |k t cs=>
   obtain⟨b,ob,e',g1,g2,g3,g4,g5,g6⟩:=h2
   have hb:b≠a:=Ka g1 ha
   refine⟨b,ob,e',k _ _ g1,g2,λm=>⟨.inl (g3 m).1,by rw[Da hb];exact(g3 m).2⟩,g4,g5,λi c x e1 e2=>?_⟩
   have hc:=g6 i c x e1 e2
   cases c with
   |d y=>exact Has.keep kk h.fr.wl hw hc
   |l ds'=>
    obtain⟨b,ys,e',g1,g2,g3,g4⟩:=hc
    have hb:b≠a:=Ka g3 ha
    exact⟨b,ys,e',.inl g1,by rw[Da hb];exact g2,k _ _ g3,HasL.keep kk h.fr.wl hw g4⟩
   |q ks' ds'=>
    obtain⟨b,ys,e',g1,g2,g3,g4,g5⟩:=hc
    have hb:b≠a:=Ka g3 ha
    exact⟨b,ys,e',.inl g1,by rw[Da hb];exact g2,k _ _ g3,g4,HasL.keep kk h.fr.wl hw g5⟩
 .obtain⟨hi,e1⟩:=idx _ _ _ e1
  obtain⟨hj,e2⟩:=idx _ _ _ e2
  obtain⟨_,e3⟩:=idx _ _ _ e3
  obtain⟨_,e4⟩:=idx _ _ _ e4
  have bk:∀ (j:Nat) (s:S) (v:V),δ[j]? =some (some s)->σ[j]? =some (some v)->Owns _ s v b->Owns H s v b:=λj s v e e' o=>by
   obtain⟨v',h1,h2⟩:=h.at' j s e
   rw[e']at h1;cases h1
   exact Owns.back h2 (λc o _ z _=>k _ _ z) o
  exact h.ap (i-n) (j-n) s1 s2 u u' b (by omega) e1 e2 e3 e4 (bk _ _ _ e1 e3 os) (bk _ _ _ e2 e4 ot)
end
section
variable {X:Cx}{xw:XW}{scope:Scope}{elt tg iter e:Expr}{ifs:List Expr}{pos:Pos}{fi:Ba->Res (List D)}{t:D->Ba->Res Ba}{gc:Ba->Res Bool}{fe f:Ba->Res D}
noncomputable def Yf(n:Nat)(t:D->Ba->Res Ba)(gc:Ba->Res Bool)(fe:Ba->Res D)(δ:Ba)(ds:List D):Res (List D):=@ite (Res (List D)) (ds.length<=100000) (propDecidable _) (noex (Qe t gc fe ds (replicate n none++δ))) .stuck
def LU(X:Cx)(ifs:List Expr)(g:Ba->Res Bool):Prop:=FU X ifs (JT X.K Vq g)
theorem DJ:LU X [] (λ_=>.ok true):=λpins s σ H Q I ⟨_,_,_,_,_,q⟩=>PL pins s σ H Q I (q H (Same.refl H))
theorem EJ{c:Expr}(h:DT X Vq c gc):LU X [c] gc:=QL h
theorem Vp{Nc:Nat}{σ:L2.St}{H:Hp}{Q:VK}(q:R0 X.K xw (λδ=>(fi δ).bind λds=>Yf Nc t gc fe δ ds) σ H Q):
  FG Nc (Y1 X.K xw fi) (EY X.K t) (JT X.K Vq gc) (IN X.K Vq fe) σ H Q:=by
 obtain⟨W₀,H₀,W,δ,st,q⟩:=q
 refine⟨W₀,H₀,W,δ,st,?_⟩
 dsimp only at q
 cases h1:fi δ with
 |stuck=>rw[h1]at q;exact q
 |ex c fs=>rw[h1]at q;exact q
 |ok ds=>
  rw[h1]at q
  intro J H1 k1 it a ha
  have q1:RF X.K xw W H (Yf Nc t gc fe δ ds) Q:=q
  unfold Yf at q1
  split at q1
  case isFalse=>exact q1.elim
  rename_i hlen
  have st1:=st.same k1
  cases hc:Qe t gc fe ds (replicate Nc none++δ) with
  |stuck=>rw[hc]at q1;exact q1.elim
  |ex c fs=>rw[hc]at q1;exact q1.elim
  |ok all=>
  rw[hc]at q1
  have q2:∀ a xs H1,Same H H1->H1 a=none->HasL X.K W H1 all xs->Q (.ref a) (Ib H1 a (.lst xs)):=q1
  refine⟨λi m xs σ' H'=>∃ δ' acc rest,m=ds.length-i/\i<=ds.length/\StHas X.K W₀ (Ib H₀ a (.lst xs)) (λb=>W b\/b=a) H' σ' δ'/\H' a=some (.lst xs)/\(∀ b o,H1 b=some o->H' b=some o)/\
    HasL X.K (λb=>W b\/b=a) H' acc xs/\Qe t gc fe (ds.drop i) δ'=.ok rest/\acc++rest=all/\xs.length<=i,
   ⟨_,replicate Nc none++δ,[],all,rfl,zero_le _,st1.block Nc ha,Ra,λb o e=>by rw[Da (Ka e ha)];exact e,HasL.nil,hc,rfl,zero_le _⟩,?_⟩
  rintro i m xs σ' H' ⟨δ',acc,rest,rfl,hi,st',hxs,ks,hacc,hrest,hall,hxl⟩
  refine⟨hxs,?_⟩
  have k':Step W H1 (λb=>W b\/b=a) H':=⟨λb o e _=>ks b o e,λb z=>z.elim .inl λz=>.inr (by rw[z];exact ha)⟩
  obtain⟨items,stop⟩:=it _ H' k' st'.fr.wl
  by_cases hl:i<ds.length
  .right
   have e:ds[i]? =some ds[i]:=getElem?_eq_getElem hl
   obtain⟨go,yld⟩:=items i _ e
   have ed:ds.drop i=ds[i]::ds.drop (i+1):=List.drop_eq_getElem_cons hl
   rw[ed]at hrest
   unfold Qe at hrest
   refine⟨go,λx H3 z=>?_⟩
   obtain⟨k3,hx⟩:=yld x H3 z
   refine⟨W₀,_,_,δ',ds[i],st'.same k3,hx,?_⟩
   cases h2:t ds[i] δ' with
   |stuck=>rw[h2]at hrest;cases hrest
   |ex c fs=>rw[h2]at hrest;cases hrest
   |ok δ2=>
    rw[h2]at hrest
    dsimp only at hrest
    intro σ2 st2
    refine⟨W₀,_,_,δ2,st2,?_⟩
    cases h3:gc δ2 with
    |stuck=>rw[h3]at hrest;cases hrest
    |ex c fs=>rw[h3]at hrest;cases hrest
    |ok k=>
     rw[h3]at hrest
     intro H4 k4
     cases k with
     |false=>
      rw[if_neg Bool.false_ne_true]
      have hr':Qe t gc fe (ds.drop (i+1)) δ2=.ok rest:=hrest
      exact⟨ds.length-(i+1),by omega,δ2,acc,rest,rfl,hl,st2.same k4,k4 _ _ (k3 _ _ hxs),λb o e=>k4 _ _ (k3 _ _ (ks b o e)),(hacc.same k3 st'.fr.wl).same k4 (st'.fr.wl.same k3),hr',hall,by omega⟩
     |true=>
      rw[if_pos rfl]
      have hr':(noex (fe δ2)).bind (λx=>(Qe t gc fe (ds.drop (i+1)) δ2).bind λr=>.ok (x::r))=.ok rest:=hrest
      refine⟨W₀,_,_,δ2,st2.same k4,?_⟩
      cases h5:fe δ2 with
      |stuck=>rw[h5]at hr';cases hr'
      |ex c fs=>rw[h5]at hr';cases hr'
      |ok y=>
       rw[h5]at hr'
       intro v H5 k5 hv
       have hr2:(Qe t gc fe (ds.drop (i+1)) δ2).bind (λr=>.ok (y::r))=.ok rest:=hr'
       cases h6:Qe t gc fe (ds.drop (i+1)) δ2 with
       |stuck=>rw[h6]at hr2;cases hr2
       |ex c fs=>rw[h6]at hr2;cases hr2
       |ok r=>
        rw[h6]at hr2
        have er:y::r=rest:=by cases hr2;rfl
        have h5a:H5 a=some (.lst xs):=k5 _ _ (k4 _ _ (k3 _ _ hxs))
        have w3:=st'.fr.wl.same k3
        have w4:=w3.same k4
        have w5:=w4.same k5
        have acc5:=((hacc.same k3 st'.fr.wl).same k4 w3).same k5 w4
        have kk:Hh (λb=>W b\/b=a) H5 (Ib H5 a (.lst (xs++ [v]))):=λb o e n=>by
         rw[Da (λz=>n (.inr z))];exact e
        have sz:sizeLine=16777216:=sizeLine_eq
        refine⟨h5a,by omega,ds.length-(i+1),by omega,δ2,acc++ [y],r,rfl,hl,((st2.same k4).same k5).acc h5a (.inr rfl),Ra,λb o e=>?_,HasL.keep kk w5 (λb z=>.inl z) (acc5.snoc hv),h6,?_,?_⟩
        .rw[Da (Ka e ha)];exact k5 _ _ (k4 _ _ (k3 _ _ (ks b o e)))
        .rw[append_assoc];show acc++(y::r)=all;rw[er];exact hall
        .rw[length_append,length_singleton];omega
  .left
   have ei:i=ds.length:=by omega
   subst ei
   rw[List.drop_length]at hrest
   unfold Qe at hrest
   have er:rest= []:=by cases hrest;rfl
   subst er
   rw[append_nil]at hall
   subst hall
   refine⟨stop,?_⟩
   have hm:(λb=>if b=a then none else H' b:Hp) a=none:=if_pos rfl
   have eu:Ib (λb=>if b=a then none else H' b:Hp) a (.lst xs)=H':=by
    funext b
    by_cases hb:b=a
    .rw[hb,Ra,hxs]
    .rw[Da hb,if_neg hb]
   have r:=q2 a xs (λb=>if b=a then none else H' b) (λb o e=>by
    have e1:=k1 b o e
    show(if b=a then none else H' b)=some o
    rw[if_neg (Ka e1 ha)];exact ks b o e1) hm (HasL.keep (W:=λb=>W b\/b=a) (W':=W) (λb o e n=>by show(if b=a then none else H' b)=some o;rw[if_neg (λz=>n (.inr z))];exact e) st'.fr.wl (λb z=>.inl (.inl z)) hacc)
   rw[eu]at r
   exact r
theorem JI(Nc Nx:List Str)(c:CompOk X scope Nc Nx)(hcalm:X.calm=true)(hi:DI X xw tg iter fi)(hY:∀ (C:Addr) (fp:List Addr) (pins:List (Addr×Obj)) (s:Shared) (H:Hp),DG (Ob X scope Nc Nx C fp pins s H) tg t/\LU (Ob X scope Nc Nx C fp pins s H) ifs gc/\DE (Ob X scope Nc Nx C fp pins s H) Vq elt fe)(hs:∀ x,foldedSetIterable iter X.env x=pure x:=by intro _;rfl):
  DF X xw (.ListComp elt [⟨tg,iter,ifs,0⟩] scope pos) (λδ=>(fi δ).bind λds=>Yf Nc.length t gc fe δ ds):=
 PE.weak (BL (g:=EY X.K t) (tt:=JT X.K Vq gc) (te:=IN X.K Vq fe) c hcalm hi hY hs) λσ H Q q=>Vp q
theorem YI(i:Nat){x:Str}{py:Pos}(hN:X.N.Nodup)(Nc Nx:List Str)(c:CompOk X scope Nc Nx)(hcalm:X.calm=true)(hi:DI X xw tg iter fi)(hY:∀ (C:Addr) (fp:List Addr) (pins:List (Addr×Obj)) (s:Shared) (H:Hp),DG (Ob X scope Nc Nx C fp pins s H) tg t/\LU (Ob X scope Nc Nx C fp pins s H) ifs gc/\DE (Ob X scope Nc Nx C fp pins s H) Vq elt fe){spos:Pos}(hiN:X.N[i]? =some x:=by rfl)(hx:Ew X.env.scope x:=by first|exact Or.inl rfl|exact Or.inr rfl)(hsw:swapsWith (.ListComp elt [⟨tg,iter,ifs,0⟩] scope pos) (some (.Name x py)) spos.line X.env=pure true:=by rfl)(hf:X.fn x=true\/X.env.scope.names.lookup x=some .local:=by first|exact .inl rfl|exact .inr rfl|assumption)(hs:∀ x,foldedSetIterable iter X.env x=pure x:=by intro _;rfl):
  DS X xw (.Assign [.Name x py] (.ListComp elt [⟨tg,iter,ifs,0⟩] scope pos) spos) (λδ=>Ul ((fi δ).bind λds=>Yf Nc.length t gc fe δ ds) λds=>.nx (δ.set i (some (.o ds)))):=
 PS.weak (NL (g:=EY X.K t) (tt:=JT X.K Vq gc) (te:=IN X.K Vq fe) c hcalm hi hY hN hiN hx hsw hf hs) λDn σ H ⟨W₀,H₀,W,δ,st,q⟩=>Vp (Xu st q)
noncomputable def Yq(i:Nat)(δ:Ba)(r:Res D):Out:=match δ[i]? with
 |some (some (.o ds))=>@ite Out (ds.length<=100000) (propDecidable _) (Ul r λd=>.nx (δ.set i (some (.o (ds++ [d]))))) .stuck
 |_=>.stuck
theorem HA(i:Nat){x:Str}{p1 p2 p3:Pos}(he:DE X xw e f)(hN:X.N[i]? =some x:=by rfl)(hv:Bw X.env.scope x:=by first|exact Or.inl rfl|exact Or.inr (Or.inl rfl)|exact Or.inr (Or.inr rfl))(hd:(x==("__debug__":Str))=false:=by decide)(hcd:(x==("__classdict__":Str))=false:=by decide)(hsE:starEach [e] X.env=(false,eval e X.env)::starEach [] X.env:=by rfl)(hbase:attributeBase (.Name x p1) "append" X.env (eval (.Name x p1) X.env)=eval (.Name x p1) X.env:=by rfl)(hfew:((backTo p3 (starEach [e] X.env)).all (λx=> !x.1)&&(backToKw p3 (keywordEach [] X.env)).all (λx=>x.1.isSome)
   &&decide (([e]:List Expr).length+([]:List Keyword).length+(if([]:List Keyword).isEmpty then 0 else 1)<30))=true:=by rfl)(hline:(p2.endLine==p3.line)=true:=by rfl)(hplain:(backTo p3 (starEach [] X.env)).any (·.1)=false:=by rfl)(hsw:swapsWith (.Call (.Attribute (.Name x p1) "append" p2) [e] [] p3) none pos.line X.env=pure false:=by rfl):
  DS X xw (.Expr (.Call (.Attribute (.Name x p1) "append" p2) [e] [] p3) pos) (λδ=>Yq i δ (f δ)):=
 PS.weak (Hs (FN PySem.F.plainAttrs_list PySem.F.slot_list_append PySem.F.type_list_append Kq (Fh hN hv hd hcd) (Vg he Ck hsE) hbase hfew hline hsE hplain) hsw) λDn σ H ⟨W₀,H₀,W,δ,st,q⟩=>by
  unfold Yq at q
  dsimp only at q
  split at q
  .rename_i ds h
   split at q
   .rename_i hlen
    obtain⟨v,e1,a,xs,rfl,r2,r3,r4,r5⟩:=st.at' i _ h
    refine⟨_,e1,.inl ⟨rfl,xs,.of r4⟩,?_⟩
    refine Ph st q λH2 d u st2 hu q2=>?_
    obtain⟨v',e1',a',ys,e',r2',r3',r4',r5'⟩:=st2.at' i _ h
    rw[e1]at e1'
    cases e1'
    cases e'
    have sz:sizeLine=16777216:=sizeLine_eq
    refine⟨a,ys,u,rfl,rfl,r4',?_,?_⟩
    .rw[<-r5'.length];omega
    .refine q2 W _ σ ⟨λb o e n=>?_,λ_ z=>.inl z⟩ (st2.change h e1 r4' r2' (r5'.snoc hu))
     rw[Da (λz=>n (by rw[z];exact r2'))];exact e
   .exact q.elim
  .exact q.elim
def ET(K:Frag)(n:Nat)(m:List D->Res D):Sp:=λvs H Q _=>vs.length=n/\∃ W ds,WL W H/\HasL K W H ds vs/\match m ds with
 | .ok d=>∀ v H',Same H H'->Has K W H' d v->Q v H'
 |_=>False
structure Fn(P:Program)(w:World)(K:Frag)(mg:Str->Option Value)(base:Heap)(k:Nat)(x:Str)(n:Nat)(m:List D->Res D):Prop where
 ex:∃ f fd ps,FnOk P w K mg base Qm k f fd ps (ET K n m)/\mg x=some (.ref f)/\keepIn K (.ref f)=true/\Binds K fd ps []
theorem Fn.mono{P:Program}{w:World}{K:Frag}{mg:Str->Option Value}{base:Heap}{j k n:Nat}{x:Str}{m:List D->Res D}(F:Fn P w K mg base j x n m)(h:j<=k):Fn P w K mg base k x n m:=by
 obtain⟨f,fd,ps,a,b⟩:=F.ex
 exact⟨f,fd,ps,a.mono h,b⟩
def Sa(n:Nat)(ds:List D):Ba:=ds.map (λd=>some (.d d))++replicate (n-ds.length) none
def Ud(n:Nat)(g:Ba->Out)(ds:List D):Res D:=match g (Sa n ds) with
 | .rt d=>.ok d
 | .nx _=>.ok .non
 |_=>.stuck
theorem Lj{K:Frag}{W:WS}{H:Hp}{N:List Str}{ds:List D}{vs:List V}(w:WL W H)(r:HasL K W H ds vs):StHas K W H W H (L2.start N vs) (Sa N.length ds):=by
 have hl:=r.length
 have idx:∀ {α:Type} (l:List α) (j:Nat) (x:α) (m:Nat),(l.map some++replicate m none)[j]? =some (some x)->l[j]? =some x:=λl j x m e=>by
  by_cases hj:j<l.length
  .rw[List.getElem?_append_left (by simpa using hj),getElem?_map]at e
   cases q:l[j]? with
   |none=>rw[q]at e;cases e
   |some z=>rw[q]at e;cases e;rfl
  .rw[getElem?_append_right (by simpa using hj),List.getElem?_replicate]at e
   split at e<;>cases e
 have eS:Sa N.length ds=(ds.map S.d).map some++replicate (N.length-ds.length) none:=by
  unfold Sa;rw[map_map];rfl
 refine⟨⟨Same.refl _,λ_ z=>z,w,w⟩,?_,λi s e=>?_,λi j s1 s2 u u' a _ e1 _ _ _ os _=>?_⟩
 .unfold L2.start Sa;simp[hl]
 .rw[eS]at e
  have e':=idx _ _ _ _ e
  rw[getElem?_map]at e'
  cases q:ds[i]? with
  |none=>rw[q]at e';cases e'
  |some d=>
   rw[q]at e'
   cases e'
   obtain⟨x,h1,h2⟩:=r.get q
   refine⟨x,?_,h2⟩
   unfold L2.start
   have hi:i<vs.length:=(List.getElem?_eq_some_iff.mp h1).1
   rw[List.getElem?_append_left (by simpa using hi),getElem?_map,h1];rfl
 .rw[eS]at e1
  have e':=idx _ _ _ _ e1
  rw[getElem?_map]at e'
  cases q:ds[i]? with
  |none=>rw[q]at e';cases e'
  |some d=>rw[q]at e';cases e';exact os
theorem KJ{P:Program}{w:World}{K:Frag}{mg:Str->Option Value}{base:Heap}{k:Nat}{x qual:Str}{st:Stmt}{fa:Addr}{fd:FuncData}{N ps:List Str}{g:Ba->Out}(F:Fun K x qual st fa fd)(S:FnScope N ps (Ca st))(hm:mg x=some (.ref fa))(hb:Binds K fd ps [])(body:∀ (cdv:Value) (A:Around) (outer:List Env) (s:Shared) (H:Hp) (E:XK),Room k (A.deeper (envOfC qual (Ca st) s.heap.objs.size fa cdv))->
   AC (Km Qm P w K mg base N qual (Ca st) fa cdv A outer s H E).nox Vq (Bb st) g):Fn P w K mg base (k+1) x ps.length (Ud N.length g):=by
 refine⟨fa,fd,ps,F.ok S (λvs H Q E h=>h.1) (λcdv A outer s H vs Q E hr h=>?_),hm,F.kp,hb⟩
 obtain⟨hl,W,ds,hw,hd,q⟩:=h
 refine⟨_,body cdv A outer s H E hr,W,H,W,Sa N.length ds,Lj hw hd,?_⟩
 unfold Ud at q
 cases h:g (Sa N.length ds) with
 |rt d=>rw[h]at q;exact λv H' k hv=>q v H' k hv
 |nx δ=>rw[h]at q;exact λW' H' σ' k st'=>q .non H' st'.fr.ext (by rw[Has])
 |bk δ=>rw[h]at q;exact q.elim
 |ct δ=>rw[h]at q;exact q.elim
 |ex c fs=>rw[h]at q;exact q.elim
 |stuck=>rw[h]at q;exact q.elim
def Ha(n:Nat)(m:List D->Res D)(ds:List D):Res D:=if ds.length=n then noex (m ds) else .stuck
theorem EI{a:Expr}{es:List Expr}{k n:Nat}{x:Str}{m:List D->Res D}{fs:Ba->Res (List D)}{p:Pos}(F:Fn X.prog X.w X.K X.mg X.base k x n m)(hr:Room k X.A)(ha:DA X xw (a::es) fs)(hg:Gl X x:=by rfl)(hdb:(x==("__debug__":Str))=false:=by decide)(he:starEach (a::es) X.env=(false,eval a X.env)::starEach es X.env:=by rfl)(hpl:(backTo pos (starEach es X.env)).any (·.1)=false:=by rfl):
  DE X xw (.Call (.Name x p) (a::es) [] pos) (λδ=>(fs δ).bind λds=>Ha n m ds):=by
 obtain⟨fa,fd,ps,G,hm,hk,hb⟩:=F.ex
 refine PE.weak (AL G hr hg hm hk hb .nil EN ha hdb he hpl) λσ H Q ⟨W₀,H₀,W,δ,st,q⟩=>?_
 refine Kl st q λH2 ds vs k w st2 hv _ q2=>?_
 unfold Ha at q2
 split at q2
 .rename_i hn
  rw[append_nil]
  refine⟨by rw[<-hv.length];exact hn,W,ds,w,hv,?_⟩
  cases h:m ds with
  |ok d=>rw[h]at q2;exact q2
  |ex c fs=>rw[h]at q2;exact q2
  |stuck=>rw[h]at q2;exact q2
 .exact q2.elim
theorem AA{a:Expr}{fa:Ba->Res D}{x:Str}{id:String}{r:List V->Hp->VK->Prop}{op:D->Res D}{p:Pos}(hc:Xl X (.builtin id) r)(hop:∀ W H d v Q,WL W H->HasT X.K W H d v->RE X.K xw W H (op d) Q->r [v] H Q)(hm:X.mg x=none)(hv:bootBuiltins x=some (.builtin id))(ha:DP X xw a fa)(hg:Gl X x)(hn:x≠"__name__")(hdb:(x==("__debug__":Str))=false)(he:starEach [a] X.env=(false,eval a X.env)::starEach [] X.env)(hpl:(backTo pos (starEach [] X.env)).any (·.1)=false):DE X xw (.Call (.Name x p) [a] [] pos) (λδ=>(fa δ).bind op):=
 PE.weak (Gv hc hg hm hv (Vg ha Ck he) hn hdb he hpl) λσ H Q ⟨W₀,H₀,W,δ,st,q⟩=>Mg st q λH2 d v k w st2 hv _ q2=>hop W H2 d v Q w hv q2
theorem BA{a:Expr}{fa:Ba->Res D}{x:Str}{id:String}{r:List V->Hp->VK->Prop}{op:D->Res D}{p:Pos}(hc:Xl X (.type id) r)(hop:∀ W H d v Q,WL W H->HasT X.K W H d v->RE X.K xw W H (op d) Q->r [v] H Q)(hm:X.mg x=none)(hv:bootBuiltins x=some (.type id))(ha:DP X xw a fa)(hg:Gl X x)(hn:x≠"__name__")(hdb:(x==("__debug__":Str))=false)(he:starEach [a] X.env=(false,eval a X.env)::starEach [] X.env)(hpl:(backTo pos (starEach [] X.env)).any (·.1)=false):DE X xw (.Call (.Name x p) [a] [] pos) (λδ=>(fa δ).bind op):=
 PE.weak (Oq hc hg hm hv (Vg ha Ck he) hn hdb he hpl) λσ H Q ⟨W₀,H₀,W,δ,st,q⟩=>Mg st q λH2 d v k w st2 hv _ q2=>hop W H2 d v Q w hv q2
noncomputable def Pf:D->Res D
 | .tup ds=>.ok (.int ds.length)
 | .lst ds=>.ok (.int ds.length)
 | .str z=>@ite (Res D) (z.length<=sizeLine) (propDecidable _) (.ok (.int z.length)) .stuck
 |_=>.stuck
variable {a b:Expr}{fa fb:Ba->Res D}{p:Pos}
theorem LO(hm:X.mg "len"=none)(ha:DP X xw a fa)(hg:Gl X "len":=by rfl)(he:starEach [a] X.env=(false,eval a X.env)::starEach [] X.env:=by rfl)(hpl:(backTo pos (starEach [] X.env)).any (·.1)=false:=by rfl):
  DE X xw (.Call (.Name "len" p) [a] [] pos) (λδ=>(fa δ).bind Pf):=
 AA QC (λW H d v Q w hv q=>by
  unfold Pf at q
  split at q
  .obtain⟨p,xs,e,sq,r⟩:=hv.tup
   rw[e]
   exact⟨_,xs.length,rfl,.inr ⟨xs,sq,rfl⟩,by rw[<-r.length];exact q.int⟩
  .obtain⟨p,xs,e,sq,r⟩:=hv.lst
   rw[e]
   exact⟨_,xs.length,rfl,.inl ⟨xs,sq,rfl⟩,by rw[<-r.length];exact q.int⟩
  .split at q
   .rename_i hz
    rw[hv.str]
    exact⟨_,_,rfl,⟨hz,rfl⟩,q.int⟩
   .exact q.elim
  .exact q.elim) hm PySem.boot_len ha hg (by decide) (by decide) he hpl
def A2:D->Option String
 | .non=>some "NoneType"
 | .bl _=>some "bool"
 | .int _=>some "int"
 | .str _=>some "str"
 | .tup _=>some "tuple"
 | .lst _=>some "list"
 | .dct _ _=>some "dict"
 | .exc _ _=>none
 | .obj _ _ _=>none
def YJ(T C:String):Bool:=T==C||(T=="bool"&&C=="int")
def Tr(C:String)(d:D):Res D:=match A2 d with
 |some T=>.ok (.bl (YJ T C))
 |none=>.stuck
def Mu(C:String):Prop:=∀ (K:Frag),∀ T∈ ["NoneType","bool","int","str","tuple","list","dict"],PySem.W.kitOne K (.type T) (.type C)=some (YJ T C)
theorem XD:Mu "bool":=by intro K T hT;simp only[mem_cons,not_mem_nil,or_false]at hT;rcases hT with rfl|rfl|rfl|rfl|rfl|rfl|rfl<;>kernel_rfl
theorem OC{C:String}(hC:Mu C):Xl X (.builtin "isinstance") (λxs H Q=>∃ W d x T,xs= [x,.ty C]/\HasT X.K W H d x/\A2 d=some T/\Q (.bl (YJ T C)) H):=by
 intro pins s σ H xs us Q I r h
 obtain⟨W,d,x,T,rfl,hd,ht,q⟩:=h
 obtain⟨u,u2,rfl,rx,rc⟩:=r.two
 obtain rfl:u2=Value.type C:=rc
 have hk:=hC X.K T (by cases d<;>cases ht<;>simp)
 have fin:∀ tk,EP X pins σ Q (.bool (YJ T C)) {s with toks:=tk}:=λtk=>⟨.bl _,H,I.tok tk,rfl,q⟩
 cases d with
 |non=>
  cases ht
  have:=hd.non;subst this
  cases (show u=Value.none from rx)
  exact kia_one PySem.W.kitx_none I.kIn True.intro hk (λz=>nomatch z) fin
 |bl b=>
  cases ht
  have:=hd.bl;subst this
  cases (show u=Value.bool b from rx)
  exact kia_one PySem.W.kitx_bool I.kIn True.intro hk (λz=>nomatch z) fin
 |int b=>
  cases ht
  have:=hd.int;subst this
  obtain⟨t,rfl⟩:=(show ∃ t,u=Value.int b t from rx)
  exact kia_one PySem.W.kitx_int I.kIn True.intro hk (λz=>nomatch z) fin
 |str b=>
  cases ht
  have:=hd.str;subst this
  obtain⟨t,rfl⟩:=(show ∃ t,u=Value.str b t from rx)
  exact kia_one PySem.W.kitx_str I.kIn True.intro hk (λz=>nomatch z) fin
 |tup ds=>
  cases ht
  obtain⟨a,xs,rfl,sq,_⟩:=hd.tup
  cases (show u=Value.ref a from rx)
  obtain⟨its,_,⟨o,h1,h2,_⟩,_⟩:=I.tuple sq
  exact kia_one PySem.W.kitx_tuple I.kIn ⟨o,h1,h2⟩ hk (λz=>nomatch z) fin
 |lst ds=>
  cases ht
  obtain⟨a,xs,rfl,sq,_⟩:=hd.lst
  cases (show u=Value.ref a from rx)
  obtain⟨its,_,⟨o,n,h1,h2,_⟩,_⟩:=I.list sq
  exact kia_one PySem.W.kitx_list I.kIn ⟨o,h1,h2⟩ hk (λz=>nomatch z) fin
 |dct ks ds=>
  cases ht
  rcases hd with hd|⟨_,_,_,z,_⟩
  .rw[Has]at hd
   obtain⟨a,kvs,rfl,⟨ob,ea⟩,_⟩:=hd
   cases (show u=Value.ref a from rx)
   obtain⟨_,_,_,vs,_,p⟩:=(show ObjOk X.prog X.w H s.heap a (.frz ob (.dK kvs)) from I.hok a _ ea)
   obtain⟨o,es,ep,h1,h2,_⟩:=p
   exact kia_one PySem.W.kitx_dict I.kIn ⟨o,h1,h2.1⟩ hk (λz=>nomatch z) fin
  .cases z
 |exc c ds=>cases ht
 |obj c k ds=>cases ht
theorem KO{C:String}{c:Str}{p2:Pos}(hC:Mu C)(hbc:bootBuiltins c=some (.type C))(hm:X.mg "isinstance"=none)(hmc:X.mg c=none)(ha:DP X xw a fa)(hg:Gl X "isinstance":=by rfl)(hgc:Gl X c:=by rfl)(hcn:c≠"__name__":=by decide)(hcd:(c==("__debug__":Str))=false:=by decide)(he:starEach [a, .Name c p2] X.env=(false,eval a X.env)::starEach [.Name c p2] X.env:=by rfl)(he2:starEach [.Name c p2] X.env=(false,eval (.Name c p2) X.env)::starEach [] X.env:=by rfl)(hpl:(backTo pos (starEach [.Name c p2] X.env)).any (·.1)=false:=by rfl):
  DE X xw (.Call (.Name "isinstance" p) [a, .Name c p2] [] pos) (λδ=>(fa δ).bind (Tr C)):=
 PE.weak (Gv (OC hC) hg hm (by decide +kernel) (Vg ha (Vg (ZK (v:=.ty C) hgc hmc hbc rfl hcn hcd) Ck he2) he) (by decide) (by decide) he hpl) λσ H Q ⟨W₀,H₀,W,δ,st,q⟩=>Mg st q λH2 d v k w st2 hv _ q2=>by
  unfold Tr at q2
  split at q2
  .rename_i T hT
   exact⟨W,d,v,T,rfl,hv,hT,q2.bl⟩
  .exact q2.elim
end
def kD(d:D):Ba->Res D:=λ_=>.ok d
def b1{α β:Type}(op:α->Res β)(f:Ba->Res α):Ba->Res β:=λδ=>(f δ).bind op
def b2(op:D->D->Res D)(f g:Ba->Res D):Ba->Res D:=λδ=>(f δ).bind λx=>(g δ).bind λy=>op x y
def b3{β:Type}(op:D->Option Int->Option Int->Res β)(f:Ba->Res D)(g h:Ba->Res (Option Int)):Ba->Res β:=λδ=>(f δ).bind λx=>(g δ).bind λl=>(h δ).bind λu=>op x l u
def WX(op op':D->D->Res D)(fa fb fc:Ba->Res D):Ba->Res D:=λδ=>(fa δ).bind λx=>(fb δ).bind λy=>Rn op op' x y (fc δ)
def tR(f:Ba->Res D):Ba->Res Bool:=λδ=>(f δ).bind Cm
def Ii(a b:Ba->Res Bool):Ba->Res Bool:=λδ=>TN (a δ) (b δ)
def Fk(a b:Ba->Res Bool):Ba->Res Bool:=λδ=>ZZ (a δ) (b δ)
def Bj(a:Ba->Res Bool):Ba->Res Bool:=λδ=>(a δ).bind λk=>.ok (!k)
def MM(a b:Ba->Res D):Ba->Res D:=λδ=>UU (a δ) (b δ)
def HY(a b:Ba->Res D):Ba->Res D:=λδ=>Q1 (a δ) (b δ)
def GY(c:Ba->Res Bool)(a b:Ba->Res D):Ba->Res D:=λδ=>(c δ).bind λk=>if k=true then a δ else b δ
def Ia:Ba->Res (List D):=λ_=>.ok []
def Aa(f:Ba->Res D)(fs:Ba->Res (List D)):Ba->Res (List D):=λδ=>Dy (f δ) (fs δ)
def Ug:Ba->Res (Option Int):=λ_=>.ok none
def Uf(f:Ba->Res (List D)):Ba->Res D:=λδ=>(f δ).bind λds=>.ok (.lst ds)
noncomputable def Rc(n:Nat)(t:D->Ba->Res Ba)(gc:Ba->Res Bool)(fe:Ba->Res D)(fi:Ba->Res (List D)):Ba->Res (List D):=λδ=>(fi δ).bind λds=>Yf n t gc fe δ ds
def Mb(g1 g2:Ba->Out):Ba->Out:=λδ=>Ro (g1 δ) g2
def Pb(i:Nat)(f:Ba->Res D):Ba->Out:=λδ=>Ul (f δ) λd=>.nx (δ.set i (some (.d d)))
def Yd(i:Nat)(f:Ba->Res (List D)):Ba->Out:=λδ=>Ul (f δ) λds=>.nx (δ.set i (some (.o ds)))
def Zg(c:Ba->Res Bool)(a b:Ba->Out):Ba->Out:=λδ=>YX (c δ) (a δ) (b δ)
def Ue(t:D->Ba->Res Ba)(g:Ba->Out)(fi:Ba->Res (List D)):Ba->Out:=λδ=>Ul (fi δ) λds=>Jh t g ds δ
def Ek(n:Nat)(c:Ba->Res Bool)(g:Ba->Out):Ba->Out:=λδ=>Wd c g n δ
noncomputable def Ng(i:Nat)(f:Ba->Res D):Ba->Out:=λδ=>Yq i δ (f δ)
def Ub(f:Ba->Res D):Ba->Out:=λδ=>Ul (f δ) λd=>.rt d
def Cz:Ba->Out:=λ_=>.rt .non
def Po(f:Ba->Res D):Ba->Out:=λδ=>Ul (f δ) λ_=>.nx δ
def FZ(t:D->Ba->Res Ba)(δ:Ba)(d:D):Out:=match t d δ with
 | .ok δ'=>.nx δ'
 |_=>.stuck
def VL(t:D->Ba->Res Ba)(f:Ba->Res D):Ba->Out:=λδ=>Ul (f δ) (FZ t δ)
section
variable {X:Cx}{xw:XW}{e a b c:Expr}{f fa fb:Ba->Res D}{pos p:Pos}{st:Stmt}{tg:Expr}{t:D->Ba->Res Ba}{fs:Ba->Res (List D)}
theorem FV:DS X xw st (λ_=>.stuck):=PS.weak PF λDn σ H ⟨W₀,H₀,W,δ,st,q⟩=>q
theorem JB{σ:L2.St}{H:Hp}{W₀ W:WS}{H₀:Hp}{δ:Ba}{op:D->Res (List D)}{Q:VK}{R:V->Hp->Prop}(st:StHas X.K W₀ H₀ W H σ δ)(q:RF X.K xw W H ((fa δ).bind op) Q)(h:∀ H2 d v,Same H H2->WL W H2->StHas X.K W₀ H₀ W H2 σ δ->HasT X.K W H2 d v->fa δ= .ok d->RF X.K xw W H2 (op d) Q->R v H2):
  EM X.K xw fa σ H λx H1=>R x H1:=by
 refine⟨W₀,H₀,W,δ,st,?_⟩
 cases h1:fa δ with
 |stuck=>rw[h1]at q;exact q
 |ex c fs=>rw[h1]at q;exact q
 |ok d=>
  rw[h1]at q
  intro v H1 k1 hv
  exact h H1 d v k1 (st.fr.wl.same k1) (st.same k1) hv h1 (RF.same (r:=op d) q k1)
def Ve:D->Res (List D)
 | .tup ds=>.ok ds
 | .lst ds=>.ok ds
 |_=>.stuck
theorem CA(hm:X.mg "list"=none)(ha:DP X xw a fa)(hg:Gl X "list":=by rfl)(he:starEach [a] X.env=(false,eval a X.env)::starEach [] X.env:=by rfl)(hpl:(backTo pos (starEach [] X.env)).any (·.1)=false:=by rfl):
  DF X xw (.Call (.Name "list" p) [a] [] pos) (b1 Ve fa):=
 PE.weak (Oq Er hg hm (by decide +kernel) (Vg ha Ck he) (by decide) (by decide) he hpl) λσ H Q ⟨W₀,H₀,W,δ,st,q⟩=>JB st q λH2 d v k w st2 hv _ q2=>by
  unfold Ve at q2
  split at q2
  .obtain⟨p,xs,e,sq,r⟩:=hv.tup
   rw[e]
   exact⟨p,xs,rfl,.inr sq,λl hl=>q2 l xs H2 (Same.refl _) hl r⟩
  .obtain⟨p,xs,e,sq,r⟩:=hv.lst
   rw[e]
   exact⟨p,xs,rfl,.inl sq,λl hl=>q2 l xs H2 (Same.refl _) hl r⟩
  .exact q2.elim
def JG:D->Res D
 | .tup ds=>.ok (.tup ds)
 | .lst ds=>.ok (.tup ds)
 |_=>.stuck
def SZ:List D->Res D
 | [.int i,.int j]=>.ok (.int (max i j))
 |_=>.stuck
def TZ:List D->Res D
 | [.int i,.int j]=>.ok (.int (min i j))
 |_=>.stuck
def CZ:D->Res D
 | .int i=>.ok (.int (if i<0 then -i else i))
 |_=>.stuck
variable {lo hi:Option Expr}{fl fh:Ba->Res (Option Int)}{p2:Pos}
def T2(d:D)(lo hi:Option Int):Res D:=match d with
 | .tup ds=>if whole ds.length lo hi then .stuck else .ok (.tup (cutD ds lo hi))
 | .lst ds=>.ok (.lst (cutD ds lo hi))
 |_=>.stuck
def RZ(K:Frag)(tl:TE):TI:=λσ H R=>tl σ H λx H1=>∃ a,x=.ref a/\(((∃ xs,SqL K H1 a xs)/\R (SY K a) H1)\/((∃ xs,SqT K H1 a xs)/\R (TY K a) H1))
theorem YR{l:Expr}{tl:TE}(hl:PE X l tl):PI X tg l (RZ X.K tl):=by
 intro pins s σ H R I h
 refine Yc (hl pins s σ H _ I h) λv s1 ⟨x,H1,I1,r1,q1⟩=>?_
 obtain⟨a,e,q1⟩:=q1
 subst e
 cases r1
 rcases q1 with⟨⟨xs,hq⟩,q⟩|⟨⟨xs,hq⟩,q⟩
 .obtain⟨its,rv,p,hz⟩:=I1.list hq
  refine wpAny_pyIter_list p.isList ?_
  refine⟨s1.heap.objs.size,[s1.heap.objs.size],_,_,H1,rfl,I1.kept (t':=s1.toks) λb o e=>get?_push_of_some _ e,WB a _,⟨_,get?_push_size _ rfl,rfl,rfl⟩,λb hb=>?_,q⟩
  have e:b=s1.heap.objs.size:=by simpa using hb
  subst e
  exact I1.fpOk (le_refl _) (I1.hok.fresh (le_refl _))
 .obtain⟨its,rv,p,hz⟩:=I1.tuple hq
  refine wpAny_pyIter_tuple (show s1.heap.IsTuple a its.toArray from p) ?_
  refine⟨s1.heap.objs.size,[s1.heap.objs.size],_,_,H1,rfl,I1.kept (t':=s1.toks) λb o e=>get?_push_of_some _ e,Tx a _,⟨_,get?_push_size _ rfl,rfl,rfl⟩,λb hb=>?_,q⟩
  have e:b=s1.heap.objs.size:=by simpa using hb
  subst e
  exact I1.fpOk (le_refl _) (I1.hok.fresh (le_refl _))
theorem CP(h:DE X xw e f):DI X xw tg e (b1 Ve f):=PI.weak (YR h) λσ H R ⟨W₀,H₀,W,δ,st,q⟩=>by
 refine⟨W₀,H₀,W,δ,st,?_⟩
 simp only[b1]at q
 cases h1:f δ with
 |stuck=>rw[h1]at q;exact q
 |ex c fs=>rw[h1]at q;exact q
 |ok d=>
  rw[h1]at q
  intro v H1 k1 hv
  cases d with
  |lst ds=>
   rw[Has]at hv
   obtain⟨a,xs,e,sq,r⟩:=hv
   exact⟨a,e,.inl ⟨⟨xs,sq.sq⟩,q _ H1 k1 (GQ (st.fr.wl.same k1) sq r)⟩⟩
  |tup ds=>
   rw[Has]at hv
   obtain⟨a,xs,e,sq,r⟩:=hv
   exact⟨a,e,.inr ⟨⟨xs,sq⟩,q _ H1 k1 (HQ (st.fr.wl.same k1) sq r)⟩⟩
  |_=>exact q.elim
theorem YC{P:Program}{w:World}{H:Hp}(h:Heap)(hb:sysModules<h.objs.size):ObjOk P w H (h.push {cls:=.type "dict",data:=.dict #[]}) h.objs.size (.dK []):=
 ⟨zero_le _,beq_eq_false_iff_ne.mpr (Ne.symm (ne_of_lt hb)),[],.nil,Heap.DictOf.new h⟩
end
def Go(d:D):Res D:=match d with
 | .non=>.ok (.bl false)
 |_=>.ok (.bl true)
section
variable {X:Cx}{xw:XW}{a:Expr}{fa:Ba->Res D}{pos:Pos}
theorem ED{j pos'}(ha:DP X xw a fa):DT X xw (.Compare a [.IsNot] [.Constant .none j pos'] pos) (tR (b1 Go fa)):=
 DE.t_of (f:=b1 Go fa) (PT.weak (TF (YK ha)) λσ H Q q=>by
  obtain⟨W₀,H₀,W,δ,st,q⟩:=q
  exact Mg st q λH2 d v k w st2 hv _ q2=>by
   unfold Go at q2
   split at q2
   .rw[hv.non];exact q2.bl
   .rename_i hd
    rw[decide_eq_false (hv.isN hd)];exact q2.bl)
end
theorem Iu{A:Around}{k:Nat}(hr:Room k A):A.units+40<cLine:=by have:=hr.units;omega
theorem LD{P:Program}{w:World}{K:Frag}{mg:Str->Option Value}{base:Heap}{k:Nat}{x qual:Str}{st:Stmt}{fa:Addr}{fd:FuncData}{N ps:List Str}{g:Ba->Out}(F:Fun K x qual st fa fd)(S:FnScope N ps (Ca st))(body:∀ (cdv:Value) (A:Around) (outer:List Env) (s:Shared) (H:Hp) (E:XK),Room k (A.deeper (envOfC qual (Ca st) s.heap.objs.size fa cdv))->
   AC (Km Qm P w K mg base N qual (Ca st) fa cdv A outer s H E).nox Vq (Bb st) g):FnOk P w K mg base Qm (k+1) fa fd ps (ET K ps.length (Ud N.length g)):=by
 refine F.ok S (λvs H Q E h=>h.1) (λcdv A outer s H vs Q E hr h=>?_)
 obtain⟨hl,W,ds,hw,hd,q⟩:=h
 refine⟨_,body cdv A outer s H E hr,W,H,W,Sa N.length ds,Lj hw hd,?_⟩
 unfold Ud at q
 cases h:g (Sa N.length ds) with
 |rt d=>rw[h]at q;exact λv H' k hv=>q v H' k hv
 |nx δ=>rw[h]at q;exact λW' H' σ' k st'=>q .non H' st'.fr.ext (by rw[Has])
 |bk δ=>rw[h]at q;exact q.elim
 |ct δ=>rw[h]at q;exact q.elim
 |ex c fs=>rw[h]at q;exact q.elim
 |stuck=>rw[h]at q;exact q.elim
def Sz(H:Hp):Prop:=∀ q∈Gh,H q.1=some (.tab q.2.1 q.2.2)
def EG(K:Frag):Sp:=λvs H Q _=>∃ (a:Addr) (ns:List Int),vs= [.ref a]/\SqL K H a (ns.map V.int)/\ns.length<=63/\Sz H/\∀ H',Sz H'->Q (.bl true) H'
theorem UQ{P:Program}{w:World}{K:Frag}{mg:Str->Option Value}{base:Heap}{k:Nat}{f:Addr}{fd:FuncData}{ps:List Str}{m:List D->Res D}(G:FnOk P w K mg base Qm k f fd ps (ET K 1 m))(h:∀ ns:List Int,ns.length<=63->m [.lst (ns.map D.int)]=.ok (.bl true)):FnOk P w K mg base Qm k f fd ps (EG K):=by
 refine G.imp λvs H Q E q=>?_
 obtain⟨a,ns,rfl,sq,hl,tb,q⟩:=q
 refine⟨rfl,λ_=>False,[.lst (ns.map D.int)],⟨λb z=>z.elim,tb⟩,HasL.cons ?_ HasL.nil,?_⟩
 .rw[Has]
  refine⟨a,_,rfl,?_,HasL.ints⟩
  rcases sq with(z|z)|z
  .exact .inl ⟨z,λz=>z⟩
  .exact .inr (.inl z)
  .exact .inr (.inr z)
 .rw[h ns hl]
  intro v H' k hv
  rw[Has]at hv
  rw[hv]
  exact q H' λz hz=>k _ _ (tb z hz)
end L3
namespace L3
open PySem
section
variable {prog:Program}{w:World}{A:Around}{E:Value->Shared->Prop}{s:Shared}
theorem Ix{it t:Addr}{i:Nat}{items:Array Value}{x:Value}{Q:Value->Shared->Prop}(hi:s.heap.IsTupleIter it t i)(ht:s.heap.IsTuple t items)(hx:items[i]? =some x)(hQ:∀ h',h'.IsTupleIter it t (i+1)->SameBut it s.heap h'->Q x {s with heap:=h'}):wpAny (model prog w) A (Builtin.SmallTypes.nextOf (.ref it)) Q E s:=by
 obtain⟨o,h1,h2,h3⟩:=id hi
 obtain⟨u,g1,g2,m,g3⟩:=ht
 unfold Builtin.SmallTypes.nextOf
 refine wpAny_bind (wpAny_callSpecial?_slot (name:=Str.ofString "__next__") hi.typeIs F.slot_tuple_iterator_next (wpAny_call_entry F.slot_tuple_iterator_next hi.typeIs F.entry_tuple_iterator_next ?_ (F.args_tuple_iterator_next_1 _)))
 show wpAny _ _ (field (.ref it) 0 >>= _) _ _ s;refine wpAny_bind (wpAny_field h1 h3 (x:=.ref t) rfl ?_)
 show wpAny _ _ (if(Value.ref t==Value.none)=true then _ else _) _ _ s;rw[if_neg (show ¬ ((Value.ref t==Value.none)=true) from Bool.false_ne_true)]
 show wpAny _ _ (field (.ref it) 1 >>= _) _ _ s;refine wpAny_bind (wpAny_field h1 h3 (x:=.int i 0) rfl ?_)
 show wpAny _ _ (seqItems? (.ref t) >>= _) _ _ s;refine wpAny_bind (wpAny_seqItems g1 g3 ?_)
 simp only[toNat_natCast,hx]
 refine wpAny_bind (wpAny_setField h1 h3 (by simp) (wpAny_pure ⟨x,rfl,wpAny_pure (hQ _ ⟨_,Heap.get?_update_self _ h1 (Obj.isFreed_of_fields (Obj.data_mapFields h3 _)),(Obj.cls_mapFields ..).trans h2,?_⟩ (SameBut.update ..))⟩))
 rw[Obj.data_mapFields h3];simp[rawInt]
theorem FB{it t:Addr}{i:Nat}{items:Array Value}{Q:Value->Shared->Prop}(hh:A.handled=none)(hi:s.heap.IsTupleIter it t i)(ht:s.heap.IsTuple t items)(hx:items[i]? =none)(hE:∀ h' e,Heap.ExtBut it s.heap h'->(∃ o,h'.get? e=some o/\o.cls=.type "StopIteration")->E (.ref e) {s with heap:=h'}):wpAny (model prog w) A (Builtin.SmallTypes.nextOf (.ref it)) Q E s:=by
 obtain⟨o,h1,h2,h3⟩:=id hi
 obtain⟨u,g1,g2,m,g3⟩:=ht
 unfold Builtin.SmallTypes.nextOf
 refine wpAny_bind (wpAny_callSpecial?_slot (name:=Str.ofString "__next__") hi.typeIs F.slot_tuple_iterator_next (wpAny_call_entry F.slot_tuple_iterator_next hi.typeIs F.entry_tuple_iterator_next ?_ (F.args_tuple_iterator_next_1 _)))
 show wpAny _ _ (field (.ref it) 0 >>= _) _ _ s;refine wpAny_bind (wpAny_field h1 h3 (x:=.ref t) rfl ?_)
 show wpAny _ _ (if(Value.ref t==Value.none)=true then _ else _) _ _ s;rw[if_neg (show ¬ ((Value.ref t==Value.none)=true) from Bool.false_ne_true)]
 show wpAny _ _ (field (.ref it) 1 >>= _) _ _ s;refine wpAny_bind (wpAny_field h1 h3 (x:=.int i 0) rfl ?_)
 show wpAny _ _ (seqItems? (.ref t) >>= _) _ _ s;refine wpAny_bind (wpAny_seqItems g1 g3 ?_)
 simp only[toNat_natCast,hx]
 refine wpAny_bind (wpAny_rule (wpAny_bind (wpAny_setField h1 h3 (by simp) ?_)));show wpAny _ _ (newExc (.type "StopIteration") [] >>= _) _ _ _
 refine wpAny_bind ?_;simp only[newExc,newTuple]
 refine wpAny_bind (wpAny_newObj_type ?_ (by size_fits));refine wpAny_bind (m:=firstArgMember _ _) (wpAny_of_eq (a:=Value.none) (by first|rfl|(simp only[firstArgMember];rfl)) ?_)
 refine wpAny_newObj_type ?_ (by size_fits);simp only[raiseNew]
 refine wpAny_bind (wpAny_handled ?_);first|rw[show A.in1.handled=none from hh]|rw[hh]
 refine wpAny_bind (wpAny_pure (wpAny_throw (hE _ _ (((SameBut.update ..).extBut.push _).push _) ⟨_,get?_push_size _ rfl,rfl⟩)))
end
theorem GP{prog:Program}{w:World}{A:Around}(hh:A.handled=none)(it t:Addr)(hne:t≠it)(items:Array Value):Draws prog w A it [it,t] items.size (λi v=>items[i]? =some v) (λi h=>h.IsTupleIter it t i/\h.IsTuple t items) where
 live:=λ_ _ st=>let ⟨o,ho,_⟩:=st.1;⟨o,ho⟩
 frame:=λ_ _ _ st hk=>⟨let ⟨o,e,r⟩:=st.1;⟨o,hk it (by simp) o e,r⟩,let ⟨o,e,r⟩:=st.2;⟨o,hk t (by simp) o e,r⟩⟩
 item:=λi s Q E hi st hQ=>Ix st.1 st.2 (x:=items[i]) (by simp[hi]) λh' z hs=>hQ _ h' s.toks (by simp[hi]) ⟨z,let ⟨o,e,r⟩:=st.2;⟨o,hs.extBut _ _ hne e,r⟩⟩ hs
 done:=λs Q E st hE=>FB hh st.1 st.2 (by simp) hE
structure ZA(z TI TO i1 i2:Addr)(f1 f2:List Addr):Prop where
 a1:TI≠z
 a2:TO≠z
 a3:TI≠TO
 m1:i1∈f1
 m2:i2∈f2
 z1:z∉f1
 z2:z∉f2
 o1:TO∉f1
 o2:TO∉f2
 t1:TI∉f1
 t2:TI∉f2
 x1:i2∉f1
 x2:i1∉f2
section
variable {prog:Program}{w:World}{A:Around}{E:Value->Shared->Prop}{s:Shared}{z TI TO i1 i2:Addr}{f1 f2:List Addr}{n1 n2 k:Nat}{P1 P2:Nat->Value->Prop}{S1 S2:Nat->Heap->Prop}{a b:Value}
end
def IsSq(tup:Bool)(h:Heap)(l:Addr)(xs:Array Value):Prop:=match tup with
 |true=>h.IsTuple l xs
 |false=>h.IsList l xs
def AY(tup:Bool)(l:Addr):Obj:=match tup with
 |true=> {cls:=.type "tuple_iterator",data:=.fields #[.ref l,.int 0 0]}
 |false=> {cls:=.type "list_iterator",data:=.fields #[.ref l,.int 0 0]}
def SqI(tup:Bool)(h:Heap)(i l:Addr)(k:Nat):Prop:=match tup with
 |true=>h.IsTupleIter i l k
 |false=>h.IsListIter i l k
theorem SqI.at'{tup:Bool}{h h':Heap}{i l:Addr}{k:Nat}(q:SqI tup h i l k)(f:∀ o,h.get? i=some o->h'.get? i=some o):SqI tup h' i l k:=by
 cases tup with
 |true=>obtain⟨o,e,r⟩:=q;exact⟨o,f o e,r⟩
 |false=>obtain⟨o,e,r⟩:=q;exact⟨o,f o e,r⟩
theorem SqI.rec{tup:Bool}{h:Heap}{i l:Addr}{k:Nat}(q:SqI tup h i l k):∃ o vs,h.get? i=some o/\o.data=.fields vs:=by
 cases tup with
 |true=>obtain⟨o,e,_,r⟩:=q;exact⟨o,_,e,r⟩
 |false=>obtain⟨o,e,_,r⟩:=q;exact⟨o,_,e,r⟩
theorem IsSq.lt{tup:Bool}{h:Heap}{l:Addr}{xs:Array Value}(q:IsSq tup h l xs):l<h.objs.size:=by
 cases tup with
 |true=>obtain⟨o,e,_⟩:=q;exact lt_size e
 |false=>obtain⟨o,e,_⟩:=q;exact lt_size e
theorem AD{prog:Program}{w:World}{A:Around}(hh:A.handled=none)(tup:Bool)(it l:Addr)(hne:l≠it)(xs:Array Value):Draws prog w A it [it,l] xs.size (λi v=>xs[i]? =some v) (λi h=>SqI tup h it l i/\IsSq tup h l xs):=by
 cases tup with
 |true=>exact GP hh it l hne xs
 |false=>exact Draws.list hh it l hne xs
theorem Ts{prog:Program}{w:World}{A:Around}{E:Value->Shared->Prop}{s:Shared}{tup:Bool}{l:Addr}{xs:Array Value}{Q:Value->Shared->Prop}(q:IsSq tup s.heap l xs)(h:Q (.ref s.heap.objs.size) {s with heap:=s.heap.push (AY tup l)}):
  wpAny (model prog w) A (pyIter (.ref l)) Q E s:=by
 cases tup with
 |true=>exact wpAny_pyIter_tuple q h
 |false=>exact wpAny_pyIter_list q h
section
variable {prog:Program}{w:World}{A:Around}{E:Value->Shared->Prop}{s:Shared}{z TI TO i1 i2 l1 l2:Addr}{t1 t2:Bool}{xs ys:Array Value}{k:Nat}{a b x y:Value}
end
end L3
namespace L3
open PySem PySem.Spec PyProof.Rows L2
def RM(t:Bool)(K:Frag)(H:Hp)(l:Addr)(xs:List V):Prop:=match t with
 |true=>SqT K H l xs
 |false=>SqL K H l xs
section
variable {X:Cx}{pins:List (Addr×Obj)}{σ:L2.St}{H:Hp}{s:Shared}{h':Heap}
theorem Zw(I:Inv X pins σ H s){t:Bool}{l:Addr}{xs:List V}(h:RM t X.K H l xs):∃ its:List Value,Vals xs its/\IsSq t s.heap l its.toArray/\xs.length<=sizeLine:=by
 cases t with
 |true=>obtain⟨its,r,p,z⟩:=I.tuple h;exact⟨its,r,p,z⟩
 |false=>obtain⟨its,r,p,z⟩:=I.list h;exact⟨its,r,p.isList,z⟩
theorem Ax(I:Inv X pins σ H s){t:Bool}{l:Addr}{xs ys:List V}(h:RM t X.K H l xs)(h':RM t X.K H l ys):xs=ys:=by
 cases t with
 |true=>exact I.tuple_inj h h'
 |false=>exact I.list_inj h h'
theorem QA{t':Nat}{ch:List Addr}{n:Addr}{xs:List V}{its:List Value}(I:Inv X pins σ H s)(hf:∀ b∈ch,Vj X pins H b)(k:∀ b o,b∉ch->s.heap.get? b=some o->h'.get? b=some o)(hn:s.heap.objs.size<=n)(r:Vals xs its)(hz:xs.length<=sizeLine)(new:IsTup h' n its.toArray):Inv X pins σ (Ib H n (.tup xs)) {s with heap:=h',toks:=t'}:=by
 have hfree:=I.hok.fresh hn
 have nch:∀ b u,H b=some u->b∉ch:=λb u e m=>by rw[(hf b m).1]at e;cases e
 have nn:∀ b o,s.heap.get? b=some o->b≠n:=λb o e=>ne_of_lt (lt_of_lt_of_le (lt_size e) hn)
 refine I.step (g':=s.gens) (d':=s.drawn) (ch:=ch) (λb hb=>⟨(hf b hb).2.2.2.1,(hf b hb).2.1,(hf b hb).2.2.2.2.1,(hf b hb).2.2.2.2.2⟩) (λb o _ _ hc e _=>k b o hc e) (λb o _ _ hc e _=>⟨o.slots,k b o hc e⟩)
  (λb o hc e q=>by rw[Da (nn b o e)];exact q) (λb o hc e=>⟨o,k b o hc e⟩) (λb ys e=>by rw[Da (Ka e hfree)];exact e) (λb o u e=>by rw[Da (Ka e hfree)];exact e)
  (λb ps e=>⟨#[],by rw[Da (Ka e hfree),e];simp⟩) (λm hm=>?_) (λb u e=>?_) I.bare
 .obtain⟨o,es,ep,ho,q⟩:=hm
  exact⟨o,es,ep,k _ o (λz=>(hf _ z).2.1 rfl) ho,q⟩
 .by_cases hb:b=n
  .subst hb
   rw[Ra]at e;cases e
   exact⟨hz,its,r,new⟩
  .rw[Da hb]at e
   refine(I.hok b u e).stay (λc v hc q=>k c v ?_ q) (λc q=>by rw[Da (Ka q hfree)];exact q) λc ys q=>by rw[Da (Ka q hfree)];exact q
   rcases hc with z|z
   .rw[z];exact nch b u e
   .exact nch c _ z
theorem SA{t':Nat}{ch:List Addr}(I:Inv X pins σ H s)(hf:∀ b∈ch,Vj X pins H b)(k:∀ b o,b∉ch->s.heap.get? b=some o->h'.get? b=some o):Inv X pins σ H {s with heap:=h',toks:=t'}:=by
 have nch:∀ b u,H b=some u->b∉ch:=λb u e m=>by rw[(hf b m).1]at e;cases e
 refine I.step (g':=s.gens) (d':=s.drawn) (ch:=ch) (λb hb=>⟨(hf b hb).2.2.2.1,(hf b hb).2.1,(hf b hb).2.2.2.2.1,(hf b hb).2.2.2.2.2⟩) (λb o _ _ hc e _=>k b o hc e) (λb o _ _ hc e _=>⟨o.slots,k b o hc e⟩)
  (λ_ _ _ _ q=>q) (λb o hc e=>⟨o,k b o hc e⟩) (λ_ _ e=>e) (λ_ _ _ e=>e) (λb ps e=>⟨#[],by rw[e];simp⟩) (λm hm=>?_) (λb u e=>?_) I.bare
 .obtain⟨o,es,ep,ho,q⟩:=hm
  exact⟨o,es,ep,k _ o (λz=>(hf _ z).2.1 rfl) ho,q⟩
 .refine(I.hok b u e).stay (λc v hc q=>k c v ?_ q) (λ_ q=>q) λ_ _ q=>q
  rcases hc with z|z
  .rw[z];exact nch b u e
  .exact nch c _ z
end
section
variable {X:Cx}{xw:XW}{elts:List Expr}{kt:Nat}{pt p pos:Pos}{a b:Expr}{fs:Ba->Res (List D)}
def ZD:D->Option (List D)
 | .tup ds=>some ds
 | .lst ds=>some ds
 |_=>none
theorem FT{K:Frag}{W:WS}{H:Hp}{d:D}{v:V}{ds:List D}(w:WL W H)(h:Has K W H d v)(e:ZD d=some ds):
  ∃ t l xs,v=.ref l/\HasL K W H ds xs/\∀ W' H2,Step W H W' H2->RM t K H2 l xs:=by
 cases d with
 |tup es=>
  cases e
  rw[Has]at h
  obtain⟨a,xs,e1,sq,r⟩:=h
  exact⟨true,a,xs,e1,r,λW' H2 k=>So k.keep w sq⟩
 |lst es=>
  cases e
  rw[Has]at h
  obtain⟨a,xs,e1,sq,r⟩:=h
  exact⟨false,a,xs,e1,r,λW' H2 k=>(sq.keep k.keep w k.new).sq⟩
 |_=>cases e
end
section
variable {α β:Type}
theorem Xa(a:α)(k:α->Out):Ul (.ok a) k=k a:=rfl
theorem Zr(c:Str)(fs:List D)(k:α->Out):Ul (.ex c fs) k=.ex c fs:=rfl
theorem Ij(k:α->Out):Ul .stuck k=.stuck:=rfl
theorem Va(δ:Ba)(g:Ba->Out):Ro (.nx δ) g=g δ:=rfl
theorem Kj(d:D)(g:Ba->Out):Ro (.rt d) g=.rt d:=rfl
theorem seqO_ex(c:Str)(fs:List D)(g:Ba->Out):Ro (.ex c fs) g=.ex c fs:=rfl
theorem Ci(g:Ba->Out):Ro .stuck g=.stuck:=rfl
theorem Tb(c:Bool)(a b:Out):YX (.ok c) a b=if c=true then a else b:=rfl
theorem Th(c:Bool)(y:Res Bool):TN (.ok c) y=if c=true then y else .ok false:=rfl
theorem Yi(c:Bool)(y:Res Bool):ZZ (.ok c) y=if c=true then .ok true else y:=rfl
theorem Rm(c:Bool)(y:Res D):UU (.ok (.bl c)) y=if c=true then y else .ok (.bl false):=by cases c<;>rfl
theorem Gs(c:Bool)(y:Res D):Q1 (.ok (.bl c)) y=if c=true then .ok (.bl true) else y:=by cases c<;>rfl
theorem Db(c:Bool):Cm (.bl c)=.ok c:=rfl
theorem An(c:Bool):UZ (.bl c)=.ok (.bl (!c)):=rfl
theorem Ol(i j:Int):CC (.int i) (.int j)=.ok (.bl (i==j)):=by simp[CC,Kc,Jg]
theorem Eo(i j:Int):Uj (.int i) (.int j)=.ok (.bl (!(i==j))):=by simp[Uj,Kc,Jg]
theorem Mr(i j:Bool):CC (.bl i) (.bl j)=.ok (.bl (i==j)):=by simp[CC,Kc,Jg]
theorem Eh(i j:Int):IH (.int i) (.int j)=.ok (.bl (decide (i<j))):=rfl
theorem Zj(i j:Int):SV (.int i) (.int j)=.ok (.bl (decide (i<=j))):=rfl
theorem Ui(i j:Int):SJ (.int i) (.int j)=.ok (.bl (decide (j<i))):=rfl
theorem Pr(i j:Int):M2 (.int i) (.int j)=.ok (.bl (decide (j<=i))):=rfl
theorem Wb(i j:Int):Bc (.int i) (.int j)=.ok (.int (i+j)):=rfl
theorem NH(xs ys:List D):Bc (.tup xs) (.tup ys)=@ite (Res D) (xs.length+ys.length<=sizeLine) (propDecidable _) (.ok (.tup (xs++ys))) .stuck:=rfl
theorem Sh(xs ys:List D)(h:xs.length+ys.length<=1000):Bc (.tup xs) (.tup ys)=.ok (.tup (xs++ys)):=by
 rw[NH,if_pos (le_trans h Nu)]
theorem Mj(i j:Int):Rx (.int i) (.int j)=.ok (.int (i-j)):=rfl
theorem Tl(i:Int):EB (.int i)=.ok (.int (-i)):=rfl
theorem Vk(i j:Int):Rf (.int i) (.int j)=@ite (Res D) (0<j) (propDecidable _) (.ok (.int (i%j))) .stuck:=rfl
theorem Si(i j:Int):Wn (.int i) (.int j)=@ite (Res D) (0<j/\j<1073741824) (propDecidable _) (.ok (.int (i / j))) .stuck:=rfl
theorem Ym(i j:Int):SZ [.int i,.int j]=.ok (.int (max i j)):=rfl
theorem Zm(i j:Int):TZ [.int i,.int j]=.ok (.int (min i j)):=rfl
theorem Wq(i:Int):CZ (.int i)=.ok (.int (if i<0 then -i else i)):=rfl
theorem Ur(ds:List D):Pf (.tup ds)=.ok (.int ds.length):=rfl
theorem Wc(ds:List D):Pf (.lst ds)=.ok (.int ds.length):=rfl
theorem Rs(ds:List D):Ve (.tup ds)=.ok ds:=rfl
theorem Di(ds:List D):Ve (.lst ds)=.ok ds:=rfl
theorem Il(ds:List D):JG (.tup ds)=.ok (.tup ds):=rfl
theorem Hl(ds:List D):JG (.lst ds)=.ok (.tup ds):=rfl
theorem Xg(i:Int):Wg (.int i)=.ok (some i):=rfl
theorem Ja(d:D)(ds:List D):Dy (.ok d) (.ok ds)=.ok (d::ds):=rfl
theorem Eg(a:α):noex (.ok a)=.ok a:=rfl
theorem Ez(ds:List D)(lo hi:Option Int):T2 (.lst ds) lo hi=.ok (.lst (cutD ds lo hi)):=rfl
theorem La(x:D)(l:Ba):Ga 0 (some (.d x)::l)=.ok x:=rfl
theorem Cb(n:Nat)(a:Option S)(l:Ba):Ga (n+1) (a::l)=Ga n l:=by simp[Ga]
theorem Qa(x:D)(l:Ba):Fa 0 (some (.d x)::l)=.ok x:=rfl
theorem Rb(x:List D)(l:Ba):Fa 0 (some (.o x)::l)=.ok (.lst x):=rfl
theorem Ta(n:Nat)(a:Option S)(l:Ba):Fa (n+1) (a::l)=Fa n l:=by simp[Fa]
theorem Hb(n:Nat)(m:List D->Res D)(ds:List D)(d:D)(h:m ds=.ok d)(hn:ds.length=n):Ha n m ds=.ok d:=by
 unfold Ha;rw[if_pos hn,h];rfl
theorem Ao(ds:List D)(i:Int)(d:D)(h:Xo ds i=some d):Wm (.lst ds) (.int i)=.ok d:=by show(match Xo ds i with|some d=>Res.ok d|none=>Res.stuck)=_;rw[h]
theorem Ik{xs:List α}{i:Int}{d:α}(h0:0<=i)(h:xs[i.toNat]? =some d):Xo xs i=some d:=by
 have hl:=(List.getElem?_eq_some_iff.mp h).1
 unfold Xo ZJ
 rw[if_pos h0,if_pos (by omega)]
 exact h
theorem JC{xs:List α}{i:Int}(h0:0<=i)(h1:i<xs.length):∃ d,Xo xs i=some d/\d∈xs:=by
 have hl:i.toNat<xs.length:=by omega
 exact⟨xs[i.toNat],Ik h0 (getElem?_eq_getElem hl),List.getElem_mem hl⟩
end
section
variable {t:D->Ba->Res Ba}{body:Ba->Out}
theorem Aq(d:D)(ds:List D)(δ δ':Ba)(h:t d δ= .ok δ'):Jh t body (d::ds) δ=(match body δ' with
   | .nx δ2=>Jh t body ds δ2
   | .ct δ2=>Jh t body ds δ2
   | .bk δ2=>.nx δ2
   | .rt d=>.rt d
   | .ex c fs=>.ex c fs
   | .stuck=>.stuck):=by
 rw[Jh,h]
 first|done|rfl|dsimp only
end
section
variable {fe:Ba->Res D}{c:Ba->Res Bool}
theorem Wj(t:D->Ba->Res Ba)(d:D)(ds:List D)(δ δ':Ba)(h:t d δ= .ok δ'):Qe t c fe (d::ds) δ=((noex (c δ')).bind λk=>if k=true then(noex (fe δ')).bind λx=>(Qe t c fe ds δ').bind λr=>.ok (x::r) else Qe t c fe ds δ'):=by
 rw[Qe]
 rw[h]
end
theorem Qk(i j k:Int):Rn SV SV (.int i) (.int j) (.ok (.int k))=.ok (.bl (decide (i<=j/\j<=k))):=by
 unfold Rn
 rw[Zj]
 by_cases h:i<=j
 .rw[decide_eq_true h]
  show SV (.int j) (.int k)=_
  rw[Zj];simp[h]
 .rw[decide_eq_false h]
  simp[h,Res.bind]
theorem Uh(i j k:Int):Rn SV IH (.int i) (.int j) (.ok (.int k))=.ok (.bl (decide (i<=j/\j<k))):=by
 unfold Rn
 rw[Zj]
 by_cases h:i<=j
 .rw[decide_eq_true h]
  show IH (.int j) (.int k)=_
  rw[Eh];simp[h]
 .rw[decide_eq_false h]
  simp[h,Res.bind]
def JD:Out->Res D
 | .rt d=>.ok d
 | .nx _=>.ok .non
 |_=>.stuck
theorem Kb(n:Nat)(g:Ba->Out)(ds:List D):Ud n g ds=JD (g (Sa n ds)):=by
 unfold Ud JD
 cases g (Sa n ds)<;>rfl
theorem Qb(d:D):JD (.rt d)=.ok d:=rfl
theorem Sm(δ:Ba):JD (.nx δ)=.ok .non:=rfl
end L3
namespace L3
open PySem PySem.Spec PyProof.Rows L2 SeqAt
structure XE(X:Cx)(xw:XW)(e:Expr)(f:Ba->Res D):Prop where
 h:DE X xw e f
structure XP(X:Cx)(xw:XW)(e:Expr)(f:Ba->Res D):Prop where
 h:DP X xw e f
structure XF(X:Cx)(xw:XW)(e:Expr)(f:Ba->Res (List D)):Prop where
 h:DF X xw e f
structure XT(X:Cx)(xw:XW)(e:Expr)(f:Ba->Res Bool):Prop where
 h:DT X xw e f
structure XW'(X:Cx)(xw:XW)(e:Expr)(f:Ba->Res Bool):Prop where
 h:DW X xw e f
structure XA(X:Cx)(xw:XW)(e:List Expr)(f:Ba->Res (List D)):Prop where
 h:DA X xw e f
structure XO(X:Cx)(xw:XW)(e:Option Expr)(f:Ba->Res (Option Int)):Prop where
 h:DO X xw e f
structure XG(X:Cx)(e:Expr)(f:D->Ba->Res Ba):Prop where
 h:DG X e f
structure XGs(X:Cx)(e:List Expr)(f:List D->Ba->Res Ba):Prop where
 h:KU X e f
structure XTs(X:Cx)(e:List Expr)(f:Ba->Res Bool):Prop where
 h:LU X e f
structure XS(X:Cx)(xw:XW)(e:Stmt)(f:Ba->Out):Prop where
 h:DS X xw e f
structure XSs(X:Cx)(xw:XW)(e:List Stmt)(f:Ba->Out):Prop where
 h:AC X xw e f
structure XI(X:Cx)(xw:XW)(tg e:Expr)(f:Ba->Res (List D)):Prop where
 h:DI X xw tg e f
section
variable {X:Cx}{xw:XW}{e a b c:Expr}{f fa fb fc:Ba->Res D}{pos p p2:Pos}{st:Stmt}{sts as bs:List Stmt}{tg iter elt:Expr}{t:D->Ba->Res Ba}{fs:Ba->Res (List D)}{es rest:List Expr}{ga gb gc:Ba->Res Bool}{g g1 g2:Ba->Out}{lo hi:Option Expr}{fl fh:Ba->Res (Option Int)}{fi:Ba->Res (List D)}{scope:Scope}{ifs:List Expr}{fe:Ba->Res D}
theorem Na(i:Nat){x:Str}(hN:X.N[i]? =some x:=by rfl)(hv:Bw X.env.scope x:=by first|exact Or.inl rfl|exact Or.inr (Or.inl rfl)|exact Or.inr (Or.inr rfl))(hd:(x==("__debug__":Str))=false:=by decide)(hcd:(x==("__classdict__":Str))=false:=by decide):XE X xw (.Name x pos) (Ga i):=⟨VO i hN hv hd hcd⟩
theorem Ma(i:Nat){x:Str}(hN:X.N[i]? =some x:=by rfl)(hv:Bw X.env.scope x:=by first|exact Or.inl rfl|exact Or.inr (Or.inl rfl)|exact Or.inr (Or.inr rfl))(hd:(x==("__debug__":Str))=false:=by decide)(hcd:(x==("__classdict__":Str))=false:=by decide):XP X xw (.Name x pos) (Fa i):=⟨FP i hN hv hd hcd⟩
theorem Wa(h:XE X xw e f):XP X xw e f:=⟨DE.p h.h⟩
theorem Ux(ha:XT X xw a ga):XW' X xw (.BoolOp .And [a] pos) ga:=⟨FJ ha.h⟩
theorem YG(ha:XT X xw a ga):XW' X xw (.BoolOp .Or [a] pos) ga:=⟨UP ha.h⟩
theorem JU(h:XW' X xw e ga):XT X xw e ga:=⟨DW.t h.h⟩
theorem DU{j pos'}(ha:XP X xw a fa):XT X xw (.Compare a [.IsNot] [.Constant .none j pos'] pos) (tR (b1 Go fa)):=⟨ED ha.h⟩
theorem Au(hm:X.mg "list"=none)(ha:XP X xw a fa)(hg:Gl X "list":=by rfl)(he:starEach [a] X.env=(false,eval a X.env)::starEach [] X.env:=by rfl)(hpl:(backTo pos (starEach [] X.env)).any (·.1)=false:=by rfl):
  XF X xw (.Call (.Name "list" p) [a] [] pos) (b1 Ve fa):=⟨CA hm ha.h hg he hpl⟩
theorem Sk(h:XE X xw e f):XI X xw tg e (b1 Ve f):=⟨CP h.h⟩
theorem Hc(i:Nat){x:Str}(hN:X.N.Nodup)(hi:X.N[i]? =some x:=by rfl)(hx:Ew X.env.scope x:=by first|exact Or.inl rfl|exact Or.inr rfl)(hf:X.fn x=true\/X.env.scope.names.lookup x=some .local:=by first|exact .inl rfl|exact .inr rfl|assumption):
  XG X (.Name x pos) (Nb i):=⟨KI i hN hi hx hf⟩
theorem Gu:XGs X [] We:=⟨LI⟩
theorem Dh{tgs:List Expr}{ts:List D->Ba->Res Ba}(h1:XG X tg t)(h2:XGs X tgs ts)(hs:(assignEach (tg::tgs) X.env).map (·.2)=assign tg X.env::(assignEach tgs X.env).map (·.2):=by rfl):XGs X (tg::tgs) (Lb t ts):=⟨WC h1.h h2.h hs⟩
theorem Hu{tgs:List Expr}{ts:List D->Ba->Res Ba}{k:Nat}{n:Nat}(hc:X.calm=true)(h:XGs X tgs ts)(hn:(assignEach tgs X.env).length=n:=by rfl)(hst:(assignEach tgs X.env).findIdx? (·.1)=none:=by rfl):XG X (.Tuple tgs k pos) (Xe n ts):=⟨BP hc h.h hn hst⟩
theorem Vo:XTs X [] (λ_=>.ok true):=⟨DJ⟩
theorem JN(h:XT X Vq c gc):XTs X [c] gc:=⟨EJ h.h⟩
theorem TW:XS X xw st (λ_=>.stuck):=⟨FV⟩
theorem Og:XSs X xw [] .nx:=⟨BJ⟩
theorem Ya(h1:XS X xw st g1):XSs X xw [st] g1:=⟨CJ h1.h⟩
theorem Fb{i:Int}{j}:XE X xw (.Constant (.int i) j pos) (kD (.int i)):=⟨GO⟩
theorem AH{i:Bool}{j}:XE X xw (.Constant (.bool i) j pos) (kD (.bl i)):=⟨YU⟩
theorem EH{i:Str}{j}:XE X xw (.Constant (.str i) j pos) (kD (.str i)):=⟨RO⟩
theorem DH{j}:XE X xw (.Constant .none j pos) (kD .non):=⟨OO⟩
theorem Be(ha:XP X xw a fa)(hb:XP X xw b fb):XE X xw (.BinOp a .Add b pos) (b2 Bc fa fb):=⟨EO ha.h hb.h⟩
theorem ON(ha:XP X xw a fa)(hb:XP X xw b fb):XE X xw (.BinOp a .Sub b pos) (b2 Rx fa fb):=⟨SO ha.h hb.h⟩
theorem Ah(ha:XP X xw a fa)(hb:XP X xw b fb):XE X xw (.BinOp a .Mod b pos) (b2 Rf fa fb):=⟨MO ha.h hb.h⟩
theorem BH(ha:XP X xw a fa)(hb:XP X xw b fb):XE X xw (.BinOp a .FloorDiv b pos) (b2 Wn fa fb):=⟨FI ha.h hb.h⟩
theorem SX(ha:XP X xw a fa)(hb:XP X xw b fb):XE X xw (.BinOp a .Pow b pos) (b2 QB fa fb):=⟨QO ha.h hb.h⟩
theorem NN(ha:XP X xw a fa):XE X xw (.UnaryOp .USub a pos) (b1 EB fa):=⟨NO ha.h⟩
theorem RX{o:CmpOp}{op:D->D->Res D}(hc:CmpR X xw o op)(ha:XP X xw a fa)(hb:XP X xw b fb):XE X xw (.Compare a [o] [b] pos) (b2 op fa fb):=⟨FO hc ha.h hb.h⟩
theorem Rh{o:CmpOp}{op:D->D->Res D}(hc:CmpR X xw o op)(ha:XP X xw a fa)(hb:XP X xw b fb):XT X xw (.Compare a [o] [b] pos) (tR (b2 op fa fb)):=⟨NP hc ha.h hb.h⟩
theorem LN{j pos'}(ha:XP X xw a fa):XE X xw (.Compare a [.Is] [.Constant .none j pos'] pos) (b1 Oj fa):=⟨JO ha.h⟩
theorem UX{j pos'}(ha:XP X xw a fa):XT X xw (.Compare a [.Is] [.Constant .none j pos'] pos) (tR (b1 Oj fa)):=⟨OP ha.h⟩
theorem Aw(h:XE X xw e f)(he:∀ whole,isTrue e X.env whole=(do let v <-whole;standAt e.pos;holding [v] (truthy v)):=by intro _;rfl):XT X xw e (tR f):=⟨DE.t h.h he⟩
theorem FH(ha:XT X xw a ga):XT X xw (.UnaryOp .Not a pos) (Bj ga):=⟨PP ha.h⟩
theorem WG(ha:XT X xw a ga)(hb:XW' X xw (.BoolOp .And (b::rest) pos) gb):XW' X xw (.BoolOp .And (a::b::rest) pos) (Ii ga gb):=⟨QP ha.h hb.h⟩
theorem YT(ha:XT X xw a ga)(hb:XW' X xw (.BoolOp .Or (b::rest) pos) gb):XW' X xw (.BoolOp .Or (a::b::rest) pos) (Fk ga gb):=⟨GV ha.h hb.h⟩
theorem Za:XA X xw [] Ia:=⟨CO⟩
theorem Ea(ha:XE X xw a fa)(hr:XA X xw es fs)(hs:starEach (a::es) X.env=(false,eval a X.env)::starEach es X.env:=by rfl):XA X xw (a::es) (Aa fa fs):=⟨BI ha.h hr.h hs⟩
theorem Uq{x1}(h:XA X xw es fs):XE X xw (.Tuple es x1 pos) (b1 Rg fs):=⟨UO h.h⟩
theorem Em(h:XA X xw es fs):XF X xw (.List es pos) (b1 Xd fs):=⟨YO h.h⟩
theorem Ce(h:XF X xw e fs):XE X xw e (Uf fs):=⟨DF.de h.h⟩
theorem Pm(ha:XP X xw a fa)(hb:XP X xw b fb)(hs:Ej b:=by intro _ _;rfl):XE X xw (.Subscript a b pos) (b2 Wm fa fb):=⟨ZU ha.h hb.h hs⟩
theorem Ho:XO X xw none Ug:=⟨OI⟩
theorem Bk(h:XE X xw e f):XO X xw (some e) (b1 Wg f):=⟨QI h.h⟩
theorem Bu(ha:XP X xw a fa)(hl:XO X xw lo fl)(hh:XO X xw hi fh):XF X xw (.Subscript a (.Slice lo hi none p2) pos) (b3 Cw fa fl fh):=⟨ZO ha.h hl.h hh.h⟩
theorem Qh(hm:X.mg "len"=none)(ha:XP X xw a fa)(hg:Gl X "len":=by rfl)(he:starEach [a] X.env=(false,eval a X.env)::starEach [] X.env:=by rfl)(hpl:(backTo pos (starEach [] X.env)).any (·.1)=false:=by rfl):
  XE X xw (.Call (.Name "len" p) [a] [] pos) (b1 Pf fa):=⟨LO hm ha.h hg he hpl⟩
theorem MN{C:String}{c:Str}{p2:Pos}(hC:Mu C)(hbc:bootBuiltins c=some (.type C))(hm:X.mg "isinstance"=none)(hmc:X.mg c=none)(ha:XP X xw a fa)(hg:Gl X "isinstance":=by rfl)(hgc:Gl X c:=by rfl)(hcn:c≠"__name__":=by decide)(hcd:(c==("__debug__":Str))=false:=by decide)(he:starEach [a, .Name c p2] X.env=(false,eval a X.env)::starEach [.Name c p2] X.env:=by rfl)(he2:starEach [.Name c p2] X.env=(false,eval (.Name c p2) X.env)::starEach [] X.env:=by rfl)(hpl:(backTo pos (starEach [.Name c p2] X.env)).any (·.1)=false:=by rfl):
  XE X xw (.Call (.Name "isinstance" p) [a, .Name c p2] [] pos) (b1 (Tr C) fa):=⟨KO hC hbc hm hmc ha.h hg hgc hcn hcd he he2 hpl⟩
theorem Eb{k n:Nat}{x:Str}{m:List D->Res D}(F:Fn X.prog X.w X.K X.mg X.base k x n m)(hr:Room k X.A)(ha:XA X xw (a::es) fs)(hg:Gl X x:=by rfl)(hdb:(x==("__debug__":Str))=false:=by decide)(he:starEach (a::es) X.env=(false,eval a X.env)::starEach es X.env:=by rfl)(hpl:(backTo pos (starEach es X.env)).any (·.1)=false:=by rfl):
  XE X xw (.Call (.Name x p) (a::es) [] pos) (b1 (Ha n m) fs):=⟨EI F hr ha.h hg hdb he hpl⟩
theorem Ri(Nc Nx:List Str)(c:CompOk X scope Nc Nx)(hcalm:X.calm=true)(hi:XI X xw tg iter fi)(hY:∀ (C:Addr) (fp:List Addr) (pins:List (Addr×Obj)) (s:Shared) (H:Hp),XG (Ob X scope Nc Nx C fp pins s H) tg t/\XTs (Ob X scope Nc Nx C fp pins s H) ifs gc/\XE (Ob X scope Nc Nx C fp pins s H) Vq elt fe)(hs:∀ x,foldedSetIterable iter X.env x=pure x:=by intro _;rfl):
  XF X xw (.ListComp elt [⟨tg,iter,ifs,0⟩] scope pos) (Rc Nc.length t gc fe fi):=⟨JI Nc Nx c hcalm hi.h (λC fp pins s H=>⟨(hY C fp pins s H).1.h,(hY C fp pins s H).2.1.h,(hY C fp pins s H).2.2.h⟩) hs⟩
theorem VS(i:Nat){x:Str}{py:Pos}(hN:X.N.Nodup)(Nc Nx:List Str)(c:CompOk X scope Nc Nx)(hcalm:X.calm=true)(hi:XI X xw tg iter fi)(hY:∀ (C:Addr) (fp:List Addr) (pins:List (Addr×Obj)) (s:Shared) (H:Hp),XG (Ob X scope Nc Nx C fp pins s H) tg t/\XTs (Ob X scope Nc Nx C fp pins s H) ifs gc/\XE (Ob X scope Nc Nx C fp pins s H) Vq elt fe){spos:Pos}(hiN:X.N[i]? =some x:=by rfl)(hx:Ew X.env.scope x:=by first|exact Or.inl rfl|exact Or.inr rfl)(hsw:swapsWith (.ListComp elt [⟨tg,iter,ifs,0⟩] scope pos) (some (.Name x py)) spos.line X.env=pure true:=by rfl)(hf:X.fn x=true\/X.env.scope.names.lookup x=some .local:=by first|exact .inl rfl|exact .inr rfl|assumption)(hs:∀ x,foldedSetIterable iter X.env x=pure x:=by intro _;rfl):
  XS X xw (.Assign [.Name x py] (.ListComp elt [⟨tg,iter,ifs,0⟩] scope pos) spos) (Yd i (Rc Nc.length t gc fe fi)):=⟨YI i hN Nc Nx c hcalm hi.h (λC fp pins s H=>⟨(hY C fp pins s H).1.h,(hY C fp pins s H).2.1.h,(hY C fp pins s H).2.2.h⟩) hiN hx hsw hf hs⟩
theorem Ju(hm:X.mg "range"=none)(ha:XA X xw [a] fs)(hg:Gl X "range":=by rfl)(hs:starEach [a] X.env= [(false,eval a X.env)]:=by rfl):XI X xw tg (.Call (.Name "range" p) [a] [] pos) (b1 Aj fs):=⟨EA hm ha.h hg hs⟩
theorem UD(hm:X.mg "range"=none)(ha:XA X xw [a,b] fs)(hg:Gl X "range":=by rfl)(hs:starEach [a,b] X.env= [(false,eval a X.env),(false,eval b X.env)]:=by rfl)(hs2:starEach [b] X.env= [(false,eval b X.env)]:=by rfl):
  XI X xw tg (.Call (.Name "range" p) [a,b] [] pos) (b1 Oo fs):=⟨FA hm ha.h hg hs hs2⟩
theorem Ua(h1:XS X xw st g1)(h2:XSs X xw sts g2):XSs X xw (st::sts) (Mb g1 g2):=⟨CD h1.h h2.h⟩
theorem SS(he:XE X xw e f)(hs:swapsWith e none pos.line X.env=pure false:=by rfl):XS X xw (.Expr e pos) (Po f):=⟨VI he.h hs⟩
theorem Xc(he:XE X xw e f):XS X xw (.Return (some e) pos) (Ub f):=⟨LP he.h⟩
theorem YF(i:Nat){x:Str}{pos':Pos}(hN:X.N[i]? =some x:=by rfl)(hv:Bw X.env.scope x:=by first|exact Or.inl rfl|exact Or.inr (Or.inl rfl)|exact Or.inr (Or.inr rfl))(hd:(x==("__debug__":Str))=false:=by decide)(hcd:(x==("__classdict__":Str))=false:=by decide):XS X xw (.Return (some (.Name x pos')) pos) (Ub (Fa i)):=⟨ZI i hN hv hd hcd⟩
theorem Zd(i:Nat){x:Str}{pos':Pos}(hN:X.N.Nodup)(he:XE X xw e f)(hi:X.N[i]? =some x:=by rfl)(hx:Ew X.env.scope x:=by first|exact Or.inl rfl|exact Or.inr rfl)(hs:swapsWith e (some (.Name x pos')) pos.line X.env=pure false:=by rfl)(hf:X.fn x=true\/X.env.scope.names.lookup x=some .local:=by first|exact .inl rfl|exact .inr rfl|assumption):XS X xw (.Assign [.Name x pos'] e pos) (Pb i f):=⟨MP i hN he.h hi hx hs hf⟩
theorem Im(i:Nat){x:Str}{pos':Pos}{ff:Ba->Res (List D)}(hN:X.N.Nodup)(he:XF X xw e ff)(hi:X.N[i]? =some x:=by rfl)(hx:Ew X.env.scope x:=by first|exact Or.inl rfl|exact Or.inr rfl)(hs:swapsWith e (some (.Name x pos')) pos.line X.env=pure false:=by rfl)(hf:X.fn x=true\/X.env.scope.names.lookup x=some .local:=by first|exact .inl rfl|exact .inr rfl|assumption):XS X xw (.Assign [.Name x pos'] e pos) (Yd i ff):=⟨KP i hN he.h hi hx hs hf⟩
theorem Cl(hc:XT X xw c ga)(ha:XSs X xw as g1)(hb:XSs X xw bs g2):XS X xw (.If c as bs pos) (Zg ga g1 g2):=⟨DV hc.h ha.h hb.h⟩
theorem Hm(hp:PassesOwn (model X.prog X.w) X.A X.env X.xe)(hc:X.calm=true)(hi:XI X xw tg iter fi)(hg:XG X tg t)(hb:XSs X xw sts g)(hs:∀ x,foldedSetIterable iter X.env x=pure x:=by intro _;rfl):XS X xw (.For tg iter sts [] pos) (Ue t g fi):=⟨IP hp hc hi.h hg.h hb.h hs⟩
theorem YL(n:Nat)(hp:PassesOwn (model X.prog X.w) X.A X.env X.xe)(hc:XT X xw c ga)(hb:XSs X xw sts g):XS X xw (.While c sts [] pos) (Ek n ga g):=⟨BD n hp hc.h hb.h⟩
theorem Sf(i:Nat){x:Str}{p1 p2 p3:Pos}(he:XE X xw e f)(hN:X.N[i]? =some x:=by rfl)(hv:Bw X.env.scope x:=by first|exact Or.inl rfl|exact Or.inr (Or.inl rfl)|exact Or.inr (Or.inr rfl))(hd:(x==("__debug__":Str))=false:=by decide)(hcd:(x==("__classdict__":Str))=false:=by decide)(hsE:starEach [e] X.env=(false,eval e X.env)::starEach [] X.env:=by rfl)(hbase:attributeBase (.Name x p1) "append" X.env (eval (.Name x p1) X.env)=eval (.Name x p1) X.env:=by rfl)(hfew:((backTo p3 (starEach [e] X.env)).all (λx=> !x.1)&&(backToKw p3 (keywordEach [] X.env)).all (λx=>x.1.isSome)
   &&decide (([e]:List Expr).length+([]:List Keyword).length+(if([]:List Keyword).isEmpty then 0 else 1)<30))=true:=by rfl)(hline:(p2.endLine==p3.line)=true:=by rfl)(hplain:(backTo p3 (starEach [] X.env)).any (·.1)=false:=by rfl)(hsw:swapsWith (.Call (.Attribute (.Name x p1) "append" p2) [e] [] p3) none pos.line X.env=pure false:=by rfl):
  XS X xw (.Expr (.Call (.Attribute (.Name x p1) "append" p2) [e] [] p3) pos) (Ng i f):=⟨HA i he.h hN hv hd hcd hsE hbase hfew hline hplain hsw⟩
end
theorem Lc{P:Program}{w:World}{K:Frag}{mg:Str->Option Value}{base:Heap}{k:Nat}{x qual:Str}{st:Stmt}{fa:Addr}{fd:FuncData}{N ps:List Str}{g:Ba->Out}(F:Fun K x qual st fa fd)(S:FnScope N ps (Ca st))(hm:mg x=some (.ref fa))(hb:Binds K fd ps [])(body:∀ (cdv:Value) (A:Around) (outer:List Env) (s:Shared) (H:Hp) (E:XK),Room k (A.deeper (envOfC qual (Ca st) s.heap.objs.size fa cdv))->
   XSs (Km Qm P w K mg base N qual (Ca st) fa cdv A outer s H E).nox Vq (Bb st) g):Fn P w K mg base (k+1) x ps.length (Ud N.length g):=
 KJ F S hm hb λcdv A outer s H E hr=>(body cdv A outer s H E hr).h
theorem ZP{P:Program}{w:World}{K:Frag}{mg:Str->Option Value}{base:Heap}{k:Nat}{x qual:Str}{st:Stmt}{fa:Addr}{fd:FuncData}{N ps:List Str}{g:Ba->Out}(F:Fun K x qual st fa fd)(S:FnScope N ps (Ca st))(body:∀ (cdv:Value) (A:Around) (outer:List Env) (s:Shared) (H:Hp) (E:XK),Room k (A.deeper (envOfC qual (Ca st) s.heap.objs.size fa cdv))->
   XSs (Km Qm P w K mg base N qual (Ca st) fa cdv A outer s H E).nox Vq (Bb st) g):FnOk P w K mg base Qm (k+1) fa fd ps (ET K ps.length (Ud N.length g)):=
 LD F S λcdv A outer s H E hr=>(body cdv A outer s H E hr).h
end L3
namespace L3
open PySem PySem.Spec PyProof.Rows L2
section
variable {t:D->Ba->Res Ba}{body:Ba->Out}
theorem Hj(I:Nat->Ba->Prop)(ds:List D)(δ:Ba)(hb:∀ i d δ,ds[i]? =some d->I i δ->∃ δ',t d δ= .ok δ'/\∃ δ2,(body δ'=.nx δ2\/body δ'=.ct δ2)/\I (i+1) δ2)(h:I 0 δ):∃ δ2,Jh t body ds δ= .nx δ2/\I ds.length δ2:=by
 induction ds generalizing I δ with
 |nil=>exact⟨δ,rfl,h⟩
 |cons d ds ih=>
  obtain⟨δ',e1,δ2,e2,h2⟩:=hb 0 d δ rfl h
  obtain⟨δ3,e3,h3⟩:=ih (λi=>I (i+1)) δ2 (λi x δ hx hI=>hb (i+1) x δ (by simpa using hx) hI) h2
  refine⟨δ3,?_,h3⟩
  rw[Aq d ds δ δ' e1]
  rcases e2 with e2|e2<;> · rw[e2];exact e3
end
section
variable {fe:Ba->Res D}{c:Ba->Res Bool}
theorem Re{n:Nat}{t:D->Ba->Res Ba}{δ:Ba}{ds r:List D}(h:Qe t c fe ds (replicate n none++δ)=.ok r)(hl:ds.length<=100000):Yf n t c fe δ ds=.ok r:=by
 unfold Yf
 rw[if_pos hl,h];rfl
end
theorem Az(n:Nat)(h:n<100000):Aj [.int n]=.ok (Dk 0 n):=by
 unfold Aj
 simp only
 rw[if_pos (by omega)]
 simp
theorem KC{α:Type}(xs:List α)(v:α):Xo (xs++ [v]) (-1)=some v:=L2.atI_last xs v
theorem Hk(i:Nat)(δ:Ba)(ds:List D)(d:D)(h:δ[i]? =some (some (.o ds)))(hl:ds.length<=100000):Yq i δ (.ok d)=.nx (δ.set i (some (.o (ds++ [d])))):=by
 unfold Yq
 rw[h]
 show(@ite Out (ds.length<=100000) (propDecidable _) _ _)=_
 rw[if_pos hl];rfl
end L3
namespace L3
open PySem
theorem GM:fillsNumberSlot (.type "tuple") "mul"=pure false:=fillsNumberSlot_seq (id:="tuple.__mul__") (r:=some (.builtin "tuple.__rmul__")) F.slot_tuple_mul.lookup (by decide +kernel) F.slot_tuple_rmul.lookup (by decide +kernel)
theorem OT:seqRepeat? (.type "tuple")=pure (some (.builtin "tuple.__mul__")):=by
 unfold seqRepeat?
 rw[seqSlot_of (T:="tuple") (name:="__mul__") (id:="tuple.__mul__") F.slot_tuple_mul.lookup (by decide +kernel),seqSlot_of (T:="tuple") (name:="__rmul__") (id:="tuple.__rmul__") F.slot_tuple_rmul.lookup (by decide +kernel)];rfl
theorem MX(a:Int)(t:Tok)(l:Addr)(items:Array Value)(n:Nat)(dd:Option Addr)(sl:Array (Option Value)):
  Meets (Builtin.«int.__rmul__» ⟨[.int a t,.ref l],[]⟩) (λ_ R s=>s.heap.get? l=some {cls:=.type "tuple",dict:=dd,data:=.seq items n,slots:=sl}/\R (.ok (.ret Value.notImplemented)) s):=
 .of_wp λprog w A R s h=>by
  obtain⟨hp,g,d,tk,os⟩:=s
  obtain⟨hl,h⟩:=h
  wp_walk
  exact⟨_,rfl,h⟩
theorem NT(l:Addr)(items:Array Value)(n:Nat)(dd:Option Addr)(sl:Array (Option Value))(u:Tok):
  Meets (Builtin.«tuple.__mul__» ⟨[.ref l,.int 1 u],[]⟩) (λ_ R s=>s.heap.get? l=some {cls:=.type "tuple",dict:=dd,data:=.seq items n,slots:=sl}/\R (.ok (.ret (Value.ref l))) s):=
 .of_wp λprog w A R s h=>by
  obtain⟨hp,g,d,tk,os⟩:=s
  obtain⟨hl,h⟩:=h
  wp_walk
  exact⟨_,rfl,h⟩
theorem HM(l:Addr)(items:Array Value)(n:Nat)(dd:Option Addr)(sl:Array (Option Value))(k:Int)(u:Tok)(h0:(decide (k< -2^63)||decide (k>=2^63))=false)(h1:(items.isEmpty||k==1)=false)(h2:(decide (k<=0)||items.isEmpty)=false)(h3:¬ (items.size*k>(2^63-1) / 8))(h4:Builtin.Tuple.tupleTooMany (items.size*k)=false)(h5:((replicate k.toNat items).foldl (· ++ ·) #[]).size<=sizeLine):
  Meets (Builtin.«tuple.__mul__» ⟨[.ref l,.int k u],[]⟩) (λ_ R s=>s.heap.get? l=some {cls:=.type "tuple",dict:=dd,data:=.seq items n,slots:=sl}/\R (.ok (.ret (Value.ref s.heap.objs.size))) {s with heap:=s.heap.push {cls:=.type "tuple",data:=.seq ((replicate k.toNat items).foldl (· ++ ·) #[])}}):=
 .of_wp λprog w A R s h=>by
  obtain⟨hp,g,d,tk,os⟩:=s
  obtain⟨hl,h⟩:=h
  wp_walk
  refine wpAny_ite_false (by rw[h0];rfl) ?_
  wp_walk
  refine wpAny_ite_false (decide_eq_false h3) ?_
  wp_walk
  exact⟨_,rfl,h⟩
end L3
namespace L3
open PySem PySem.Spec PyProof.Rows L2 SeqAt
section
variable {X:Cx}{xw:XW}{a b:Expr}{fa fb:Ba->Res D}{pos p:Pos}
theorem WK:OpR X (binaryOp .Mult) (λx y H Q=>∃ l k xs,x=.ref l/\y=.int k/\SqT X.K H l xs/\xs≠ []/\1<=k/\k<=1000/\xs.length<=1000/\(k=1->Q (.ref l) H)/\(k≠1->∀ p,H p=none->Q (.ref p) (Ib H p (.tup (replicate k.toNat xs).flatten)))):=by
 intro pins s σ H x y v u Q I rx ry h
 obtain⟨l,k,xs,rfl,rfl,sq,hne,h1,h2,hl,q1,q2⟩:=h
 cases rx
 obtain⟨t,rfl⟩:=ry
 obtain⟨its,r,⟨⟨cls,dd,data,sl⟩,ho,hc,n,hd⟩,hz⟩:=I.tuple sq
 simp only at hc hd
 subst hc hd
 have hlen:=r.length
 have hi:its≠ []:=λe=>hne (by rw[e]at hlen;exact List.eq_nil_of_length_eq_zero hlen)
 have he:its.toArray.isEmpty=false:=by cases its with
  |nil=>exact absurd rfl hi
  |cons=>simp
 have hsz:(its.toArray.size:Int)*k<=1000000:=by
  rw[size_toArray,<-hlen]
  have h3:(xs.length:Int)*k<=1000*1000:=Int.mul_le_mul (by omega) h2 (by omega) (by decide)
  omega
 have hsz':(its.length:Int)*k<=1000000:=by simpa using hsz
 refine wpAny_binaryOp_repeat_ref (T:="tuple") (U:="int") (by decide) ⟨_,ho,rfl⟩ (λs'=>typeIs_int s' k t) GM F.fills_int_mul F.slot_int_rmul OT F.slot_int_index.lookup
  (call_meets F.slot_int_rmul (typeIs_int s k t) F.entry_int_rmul (F.args_int_rmul_2 _ _) (MX k t l its.toArray n dd sl) ⟨ho,rfl,⟨_,ho,rfl⟩,?_⟩)
 by_cases hk:k=1
 .subst hk
  exact call_meets F.slot_tuple_mul ⟨_,ho,rfl⟩ F.entry_tuple_mul (F.args_tuple_mul_2 _ _) (NT l its.toArray n dd sl t) ⟨ho,⟨.ref l,H,I,rfl,q1 rfl⟩⟩
 .have hfl:(replicate k.toNat its.toArray).foldl (λx1 x2=>x1++x2) #[]=(replicate k.toNat its).flatten.toArray:=by
   have:=Zp its k.toNat []
   rw[nil_append]at this
   exact this
  have hfz:(replicate k.toNat its).flatten.length<=sizeLine:=by
   rw[Sy,sizeLine_eq]
   have h3:its.length*k.toNat<=1000*1000:=Nat.mul_le_mul (by omega) (by omega)
   rw[Nat.mul_comm];omega
  refine call_meets F.slot_tuple_mul ⟨_,ho,rfl⟩ F.entry_tuple_mul (F.args_tuple_mul_2 _ _) (HM l its.toArray n dd sl k t ?_ ?_ ?_ ?_ ?_ ?_) ⟨ho,?_⟩
  .simp only[Bool.or_eq_false_iff,decide_eq_false_iff_not];omega
  .rw[he];simpa using hk
  .rw[he];simp;omega
  .omega
  .unfold Builtin.Tuple.tupleTooMany
   have:((sizeLine:Nat):Int)=16777216:=by rw[sizeLine_eq];rfl
   rw[this];simp;omega
  .rw[hfl,size_toArray];exact hfz
  .rw[hfl]
   refine⟨.ref s.heap.objs.size,_,I.laid (a:=s.heap.objs.size) (o:=.tup (replicate k.toNat xs).flatten) (t':=s.toks) (λ_ _ e=>get?_push_of_some _ e) (le_refl _) ⟨?_,_,r.rep k.toNat,IsTup.new _ _⟩,rfl,q2 hk _ I.fresh⟩
   rw[Sy,sizeLine_eq]
   have h3:xs.length*k.toNat<=1000*1000:=Nat.mul_le_mul (by omega) (by omega)
   rw[Nat.mul_comm];omega
noncomputable def Vu:D->D->Res D
 | .int i,.int j=>TV (.int i) (.int j)
 | .tup xs,.int k=>@ite (Res D) (xs≠ []/\1<=k/\k<=1000/\xs.length<=1000) (propDecidable _) (.ok (.tup (replicate k.toNat xs).flatten)) .stuck
 |_,_=>.stuck
theorem Xk(i j:Int):Vu (.int i) (.int j)=@ite (Res D) ((-18446744073709551616<i/\i<18446744073709551616)\/(-18446744073709551616<j/\j<18446744073709551616)) (propDecidable _) (.ok (.int (i*j))) .stuck:=rfl
theorem HasL.rep{K:Frag}{W:WS}{H:Hp}{ds:List D}{xs:List V}(h:HasL K W H ds xs):∀ k:Nat,HasL K W H (replicate k ds).flatten (replicate k xs).flatten
 |0=>by simp[HasL]
 |k+1=>by
  rw[replicate_succ,flatten_cons,replicate_succ,flatten_cons]
  exact h.append (HasL.rep h k)
theorem Ct(ha:XP X xw a fa)(hb:XP X xw b fb):XE X xw (.BinOp a .Mult b pos) (b2 Vu fa fb):=⟨by
 refine Xj (IR.or WK) (λW H d e v u Q w hv hu q=>?_) ha.h hb.h
 unfold Vu at q
 split at q
 .unfold TV at q
  dsimp only at q
  split at q
  .rename_i hj
   exact .inl ⟨_,_,hv.int,hu.int,hj,q.int⟩
  .exact q.elim
 .split at q
  .rename_i xs k hj
   obtain⟨l,ys,e,sq,r⟩:=hv.tup
   refine .inr ⟨l,k,ys,e,hu.int,sq,?_,hj.2.1,hj.2.2.1,by rw[<-r.length];exact hj.2.2.2,λhk=>?_,λ_ p hp=>q.newT w hp (r.rep _)⟩
   .intro z
    subst z
    exact hj.1 (List.eq_nil_of_length_eq_zero (by simpa using r.length))
   .subst hk
    refine q _ H (Same.refl _) ?_
    rw[Has]
    exact⟨l,ys,rfl,sq,by simpa using r⟩
  .exact q.elim
 .exact q.elim⟩
end
section
variable {K:Frag}{W₀ W:WS}{H₀ H H':Hp}{σ:L2.St}{δ:Ba}
theorem StHas.freeze{i:Nat}{ds:List D}{a:Addr}(h:StHas K W₀ H₀ W H σ δ)(hi:δ[i]? =some (some (.o ds)))(hs:σ[i]? =some (some (.ref a))):
  StHas K W₀ H₀ (λb=>W b/\b≠a) H σ (δ.set i (some (.d (.lst ds))))/\Has K (λb=>W b/\b≠a) H (.lst ds) (.ref a):=by
 obtain⟨v,h1,b,xs,e',hW,h0,h3,h4⟩:=h.at' i _ hi
 rw[hs]at h1
 cases h1
 cases e'
 have hd:Has K (λb=>W b/\b≠a) H (.lst ds) (.ref a):=by
  rw[Has]
  exact⟨a,xs,rfl,.inl ⟨h3,λz=>z.2 rfl⟩,HasL.keep (λ_ _ e _=>e) h.fr.wl (λb z=>.inl z.1) h4⟩
 exact⟨h.freezeG (C0 ds) hi hs hd,hd⟩
end
section
variable {X:Cx}{xw:XW}{pos p p2:Pos}{tg a b c:Expr}{fa fb:Ba->Res D}{fs:Ba->Res (List D)}
def UH(op:D->D->Res (List D))(f g:Ba->Res D):Ba->Res (List D):=λδ=>(f δ).bind λx=>(g δ).bind λy=>op x y
noncomputable def Jw:D->D->Res (List D)
 | .lst xs,.lst ys=>@ite (Res (List D)) (xs.length+ys.length<=sizeLine) (propDecidable _) (.ok (xs++ys)) .stuck
 |_,_=>.stuck
theorem QK:OpR X (binaryOp .Add) (λx y H Q=>∃ l b xs zs,x=.ref l/\y=.ref b/\SqL X.K H l xs/\SqL X.K H b zs/\xs.length+zs.length<=sizeLine/\∀ p,H p=none->Q (.ref p) (Ib H p (.lst (xs++zs)))):=by
 intro pins s σ H x y v u Q I rx ry h
 obtain⟨l,b,xs,zs,rfl,rfl,hH,hB,hz,q⟩:=h
 cases rx
 cases ry
 obtain⟨its,r,⟨⟨cls,dd,data,sl⟩,n,e,hc,hd,hs⟩,hz1⟩:=I.list hH
 obtain⟨its2,r2,⟨⟨cls2,dd2,data2,sl2⟩,n2,e2,hc2,hd2,hs2⟩,hz2⟩:=I.list hB
 simp only at hc hd hs hc2 hd2 hs2
 subst hc hd hs hc2 hd2 hs2
 have hl:=r.length
 have hl2:=r2.length
 refine concat_meets ⟨_,e,rfl⟩ ⟨_,e2,rfl⟩ noFill_list_add seq_list_add PySem.F.slot_list_add PySem.F.entry_list_add (PySem.F.args_list_add_2 _ _) (list_addW l b its.toArray its2.toArray n n2 none none sl sl2 (by rw[size_toArray,size_toArray];omega)) ⟨e,e2,?_⟩
 have ea:its.toArray++its2.toArray=(its++its2).toArray:=by simp
 rw[ea]
 exact⟨.ref _,_,I.lnew (t':=s.toks) (r.append r2) (by rw[length_append];omega),rfl,q _ I.fresh⟩
theorem ZB{σ:L2.St}{H:Hp}{W₀ W:WS}{H₀:Hp}{δ:Ba}{op:D->D->Res (List D)}{Q:VK}{R:V->V->Hp->Prop}(st:StHas X.K W₀ H₀ W H σ δ)(q:RF X.K xw W H ((fa δ).bind λx=>(fb δ).bind λy=>op x y) Q)(h:∀ H2 d e v u,Same H H2->WL W H2->HasT X.K W H2 d v->HasT X.K W H2 e u->RF X.K xw W H2 (op d e) Q->R v u H2):
  EM X.K xw fa σ H λx H1=>EM X.K xw fb σ H1 λy H2=>R x y H2:=by
 refine⟨W₀,H₀,W,δ,st,?_⟩
 cases h1:fa δ with
 |stuck=>rw[h1]at q;exact q
 |ex c fs=>rw[h1]at q;exact q
 |ok d=>
  rw[h1]at q
  intro v H1 k1 hv
  refine⟨W₀,H₀,W,δ,st.same k1,?_⟩
  have q':RF X.K xw W H ((fb δ).bind λy=>op d y) Q:=q
  cases h2:fb δ with
  |stuck=>rw[h2]at q';exact q'
  |ex c fs=>rw[h2]at q';exact λH2 k2=>q' H2 (k1.trans k2)
  |ok e=>
   rw[h2]at q'
   intro u H2 k2 hu
   have q2:RF X.K xw W H (op d e) Q:=q'
   exact h H2 d e v u (k1.trans k2) (st.fr.wl.same (k1.trans k2)) (hv.same k2 (st.fr.wl.same k1)) hu (RF.same q2 (k1.trans k2))
theorem ZM(ha:XP X xw a fa)(hb:XP X xw b fb):XF X xw (.BinOp a .Add b pos) (UH Jw fa fb):=
 ⟨PE.weak (GN QK ha.h hb.h) λσ H Q ⟨W₀,H₀,W,δ,st,q⟩=>ZB st q λH2 d e v u k w hv hu q2=>by
  unfold Jw at q2
  split at q2
  .split at q2
   .rename_i hz
    obtain⟨a1,xs,e1,s1,r1⟩:=hv.lst
    obtain⟨a2,ys,e2,s2,r2⟩:=hu.lst
    exact⟨a1,a2,xs,ys,e1,e2,s1,s2,by rw[<-r1.length,<-r2.length];exact hz,λp hp=>q2 p _ H2 (Same.refl _) hp (r1.append r2)⟩
   .exact q2.elim
  .exact q2.elim⟩
end
def Zf:D->Bool
 | .non=>true
 | .bl _=>true
 | .int _=>true
 | .str _=>true
 |_=>false
section
variable {K:Frag}{W:WS}{H:Hp}
theorem Xn{d:D}{v:V}(h:Has K W H d v)(f:Zf d=true):Qj v=true:=by
 cases d with
 |non=>rw[Has]at h;subst h;rfl
 |bl b=>rw[Has]at h;subst h;rfl
 |int i=>rw[Has]at h;subst h;rfl
 |str x=>rw[Has]at h;subst h;rfl
 |_=>cases f
theorem WP{d e:D}{v u:V}(h:Has K W H d v)(g:Has K W H e u)(f:Zf d=true)(f2:Zf e=true):Fy v u=Jg d e:=by
 cases d with
 |non=>rw[Has]at h;subst h;cases e<;>first|exact absurd (show false=true from f2) Bool.false_ne_true|(rw[Has]at g;subst g;simp[Fy,Jg])
 |bl b=>rw[Has]at h;subst h;cases e<;>first|exact absurd (show false=true from f2) Bool.false_ne_true|(rw[Has]at g;subst g;simp[Fy,Jg])
 |int i=>rw[Has]at h;subst h;cases e<;>first|exact absurd (show false=true from f2) Bool.false_ne_true|(rw[Has]at g;subst g;simp[Fy,Jg])
 |str x=>rw[Has]at h;subst h;cases e<;>first|exact absurd (show false=true from f2) Bool.false_ne_true|(rw[Has]at g;subst g;simp[Fy,Jg])
 |_=>cases f
theorem Yw{d:D}{v:V}(h:Has K W H d v)(f:Zf d=true):∀ {ds:List D} {xs:List V},HasL K W H ds xs->ds.all Zf=true->xs.all Qj=true/\ZX v xs=ds.any (λy=>Jg y d)
 | [],_,r,_=>by rw[HasL]at r;subst r;exact⟨rfl,rfl⟩
 |e::ds,_,r,fs=>by
  rw[HasL]at r
  obtain⟨x,q,rfl,hx,hq⟩:=r
  rw[all_cons,and_eq_true]at fs
  obtain⟨h1,h2⟩:=Yw h f hq fs.2
  refine⟨by rw[all_cons,Xn hx fs.1,h1];rfl,?_⟩
  show(Fy x v||ZX v q)=(Jg e d||ds.any λy=>Jg y d)
  rw[WP hx h fs.1 f,h2]
end
def O0(i j:Str):Bool:= !(Builtin.Str.occurrences j i 0 j.length 1).isEmpty
def GU(d:D)(ds:List D):Bool:=ds.any λy=>Jg y d
def CQ:D->D->Res D
 | .str i,.str j=>.ok (.bl (O0 i j))
 |d,.tup ds=>if(Zf d&&ds.all Zf)=true then .ok (.bl (GU d ds)) else .stuck
 |d,.lst ds=>if(Zf d&&ds.all Zf)=true then .ok (.bl (GU d ds)) else .stuck
 |_,_=>.stuck
section
variable {X:Cx}{xw:XW}{pos p p2:Pos}{tg a b c e:Expr}{f fa fb:Ba->Res D}{fs:Ba->Res (List D)}
theorem Iy{K:Frag}{W:WS}{H:Hp}{d:D}{v:V}(h:HasT K W H d v)(f:Zf d=true):Has K W H d v:=by
 rcases h with h|⟨ds,_,_,rfl,_⟩
 .exact h
 .cases f
theorem DR:XY X xw (λx y H Q=>(∃ i j,x=.str i/\y=.str j/\Q (.bl (!(Builtin.Str.occurrences j i 0 j.length 1).isEmpty)) H)\/T1 X.K false x y H Q) CQ:=by
 intro W H d e v u Q w hv hu q
 unfold CQ at q
 split at q
 .exact .inl ⟨_,_,hv.str,hu.str,q.bl⟩
 .split at q
  .rename_i hf
   rw[and_eq_true]at hf
   obtain⟨a1,xs,e1,sq,r⟩:=hu.tup
   obtain⟨h1,h2⟩:=Yw (Iy hv hf.1) hf.1 r hf.2
   exact .inr ⟨a1,xs,e1,.inr sq,Xn (Iy hv hf.1) hf.1,h1,by rw[if_neg Bool.false_ne_true,h2];exact q.bl⟩
  .exact q.elim
 .split at q
  .rename_i hf
   rw[and_eq_true]at hf
   obtain⟨a1,xs,e1,sq,r⟩:=hu.lst
   obtain⟨h1,h2⟩:=Yw (Iy hv hf.1) hf.1 r hf.2
   exact .inr ⟨a1,xs,e1,.inl sq,Xn (Iy hv hf.1) hf.1,h1,by rw[if_neg Bool.false_ne_true,h2];exact q.bl⟩
  .exact q.elim
 .exact q.elim
theorem K1(ha:XP X xw a fa)(hb:XP X xw b fb)(hm:behindInMarks .In b=false:=by rfl):XT X xw (.Compare a [.In] [b] pos) (tR (b2 CQ fa fb)):=
 ⟨DE.t_of (f:=b2 CQ fa fb) (PT.weak (Bn (LB.or KB) ha.h hb.h hm) λσ H Q ⟨W₀,H₀,W,δ,st,q⟩=>Cj st q λH2 d e v u k w hv hu _ _ q2=>DR W H2 d e v u _ w hv hu q2)⟩
variable {lo hi:Option Expr}{fl fh:Ba->Res (Option Int)}
theorem Wu{x:Str}{n:Int}(h1:1<=n)(h2:n<=1000)(h3:x.length<=1000):MulOk x n:=by
 refine⟨?_,λ_ _=>?_,λ_ _=>?_⟩
 .rw[decide_eq_false (by omega),decide_eq_false (by omega)];rfl
 .have:(1000:Int)<=(2^63-1) / n:=by
   rw[Int.le_ediv_iff_mul_le (by omega)]
   omega
  omega
 .have:x.length*n.toNat<=1000*1000:=Nat.mul_le_mul h3 (by omega)
  have hz:(1000000:Nat)<=sizeLine:=by rw[sizeLine_eq];decide
  unfold Builtin.Str.tooLong
  simp
  omega
theorem TK:OpR X (binaryOp .Mult) (λx y H Q=>∃ z n,x=.str z/\y=.int n/\MulOk z n/\Q (.str (PySem.Txt.mul z n)) H):=by
 intro pins s σ H x y v u Q I rx ry h
 obtain⟨z,n,rfl,rfl,hok,q⟩:=h
 obtain⟨t,rfl⟩:=rx
 obtain⟨t',rfl⟩:=ry
 exact PySem.SB.mul hok λt' k=>⟨.str _,H,I.tok _,⟨t',rfl⟩,q⟩
structure GlobT(K:Frag)(mg:Str->Option Value)(x:Str)(xs:List Str):Prop where
 h:∃ (ad:Addr) (o:Obj) (its:Array Value) (n:Nat),mg x=some (.ref ad)/\K.lookup ad=some o/\o.cls=.type "tuple"/\o.data=.seq its n/\its.size<=sizeLine/\Vals (xs.map V.str) its.toList
theorem TL{P:Program}{w:World}{k:Ab}{u:Value}(r:RelV (kV k) u):(Tc P w).is k u=true:=by
 cases k with
 |inl i=>obtain⟨t,rfl⟩:=r;exact Tu P w i t
 |inr x=>obtain⟨t,rfl⟩:=r;exact Uu P w x t
def Ou:D->Option Ab
 | .str x=>some (.inr x)
 | .int i=>some (.inl i)
 |_=>none
end
end L3
namespace L3
open PySem PySem.Spec PyProof.Rows L2 SeqAt
open Builtin Builtin.Str
section
variable {X:Cx}{xw:XW}{pos p p2 apos cpos:Pos}{tg a b c e o:Expr}{es:List Expr}{f fa fb:Ba->Res D}{fs:Ba->Res (List D)}
def Ei:List D->Option (List Str)
 | []=>some []
 | .str x::ds=>(Ei ds).map (x:: ·)
 |_=>none
theorem Uo{K:Frag}{W:WS}{H:Hp}:∀ {ds:List D} {xs:List Str} {vs:List V},Ei ds=some xs->HasL K W H ds vs->vs=xs.map V.str
 | [],xs,vs,h,r=>by cases h;rw[HasL]at r;exact r
 |d::ds,xs,vs,h,r=>by
  cases d with
  |str x=>
   obtain⟨ys,h1,rfl⟩:=map_eq_some_iff.mp (show(Ei ds).map (x:: ·)=some xs from h)
   rw[HasL]at r
   obtain⟨v,q,rfl,hv,hq⟩:=r
   rw[Has]at hv
   rw[hv,Uo h1 hq];rfl
  |_=>cases h
end
end L3
namespace L3
open PySem PySem.Spec PyProof.Rows L2 SeqAt
theorem HasL.erase{K:Frag}{W:WS}{H:Hp}:∀ {ds:List D} {xs:List V} (i:Nat),HasL K W H ds xs->HasL K W H (ds.eraseIdx i) (xs.eraseIdx i)
 | [],_,n,h=>by rw[HasL]at h;subst h;simp[HasL]
 |e::ds,_,0,h=>by
  rw[HasL]at h
  obtain⟨y,r,rfl,q,s⟩:=h
  exact s
 |e::ds,_,i+1,h=>by
  rw[HasL]at h
  obtain⟨y,r,rfl,q,s⟩:=h
  exact HasL.cons q (HasL.erase i s)
section
variable {X:Cx}{xw:XW}{pos p p2 apos cpos:Pos}{tg a b c e o ie:Expr}{es:List Expr}{f fi fa fb:Ba->Res D}{fs:Ba->Res (List D)}
def K0(i:Nat)(δ:Ba)(ds:List D)(d ix:D):Out:=match ix with
 | .int k=>match ZJ ds.length k with
  |some j=>.nx (δ.set i (some (.o (ds.set j d))))
  |none=>.stuck
 |_=>.stuck
def M0(i:Nat)(fi:Ba->Res D)(δ:Ba)(d:D):Out:=match δ[i]? with
 |some (some (.o ds))=>Ul (fi δ) (K0 i δ ds d)
 |_=>.stuck
def Dz(i:Nat)(fi f:Ba->Res D):Ba->Out:=λδ=>Ul (f δ) (M0 i fi δ)
end
section
variable {X:Cx}{xw:XW}{pos p:Pos}{a:Expr}{fa:Ba->Res D}
end
end L3
namespace HT
open PySem PyProof.Rows
section
open PySem.SeqAt
open PySem.AutoSeq1 (wpAny_loadPart')
open PySem.MeetsSeq PySem.MeetsSeq2 PySem.MeetsSeq3
end
section
variable {prog:Program}{w:World}{A:Around}{E:Value->Shared->Prop}{s:Shared}
end
end HT
namespace L3
open PySem PySem.Spec PyProof.Rows L2 SeqAt
section
variable {X:Cx}{xw:XW}
end
end L3
namespace L3
open PySem
def YY(xs:Array Nat):Prop:=xs.toList.Pairwise (λa b=>a<b)
structure TOk(txt:Bool)(t:SetTable):Prop where
 led:t.led= !txt
 ok:t.plain=true->YY t.place/\t.dummies= #[]
theorem UF{α:Type}:∀ (l:List α) (i:Nat) (h:i<l.length),(l[i]::l.eraseIdx i).Perm l
 | [],_,h=>absurd h (Nat.not_lt_zero _)
 |a::l,0,_=>Perm.refl _
 |a::l,i+1,h=>by
  have hi:i<l.length:=by simpa using h
  rw[List.getElem_cons_succ,List.eraseIdx_cons_succ]
  exact(Perm.swap a _ _).trans (Perm.cons a (UF l i hi))
theorem ZR{α:Type}(next:Nat->Nat):∀ (n k:Nat) (left:List α) (out:Array α),n=left.length->(pickOrder.go next n k left out).toList.Perm (out.toList++left):=by
 intro n
 induction n with
 |zero=>intro k left out e;have:left= []:=List.length_eq_zero_iff.mp e.symm;subst this;unfold pickOrder.go;simp
 |succ n ih=>
  intro k left out e
  have hl:next k%left.length<left.length:=Nat.mod_lt _ (by omega)
  unfold pickOrder.go
  rw[getElem?_eq_getElem hl]
  dsimp only
  refine(ih _ _ _ (by rw[List.length_eraseIdx_of_lt hl];omega)).trans ?_
  rw[Array.toList_push,append_assoc]
  exact Perm.append_left _ (by simpa using UF left _ hl)
theorem Ko{α:Type}(next:Nat->Nat)(xs:Array α):(pickOrder next xs).toList.Perm xs.toList:=by
 unfold pickOrder;simpa using ZR next xs.size 0 xs.toList #[] (by simp)
def K2(σ:List Int)(k:Int):List Int:=if k∈σ then σ else σ++ [k]
section
variable {prog:Program}{w:World}{A:Around}{E:Value->Shared->Prop}{s:Shared}
end
namespace F
end F
section
variable {prog:Program}{w:World}{A:Around}{E:Value->Shared->Prop}{s:Shared}{S I:Addr}{o:Obj}{es:Array (Int×Value)}{ep:Nat}{t:SetTable}
end
end L3
namespace L3
open PySem
namespace F
end F
section
variable {prog:Program}{w:World}{A:Around}{E:Value->Shared->Prop}{s:Shared}{S I T:Addr}{o:Obj}{es:Array (Int×Value)}{ep:Nat}{t:SetTable}{first:Value}{i:Nat}
end
structure SW(prog:Program)(w:World)(A:Around)(I:Addr)(fp:List Addr)(ord:List Value)(St:Nat->Heap->Prop):Prop where
 W:Walks prog w A I fp [I] ord.length (λi v=>ord[i]? =some v) St
 mem:I∈fp
end L3
namespace L3
open PySem
section
variable {prog:Program}{w:World}{A:Around}{E:Value->Shared->Prop}{s:Shared}{S I T:Addr}{o:Obj}{es:Array (Int×Value)}{ep:Nat}{t:SetTable}{first:Value}{i:Nat}{σ:List Int}
end
end L3
namespace L3
open PySem
open Sem (wp)
section
variable {prog:Program}{w:World}{A:Around}{E:Value->Shared->Prop}{s:Shared}{S:Addr}{σ:List Int}
end
def met(ns:List Int):List Int:=ns.foldl K2 []
section
variable {prog:Program}{w:World}{A:Around}{R:Result->Shared->Prop}{I:Addr}{fp wr:List Addr}{G:Array GenState->Array GenState->Prop}{n:Nat}{P:Nat->Value->Prop}{St:Nat->Shared->Prop}{E:Value->Shared->Prop}{s:Shared}
def Itr(prog:Program)(w:World)(l:Addr)(ol:Obj)(items:Array Value):Prop:=∀ (A:Around) (s':Shared) (Q:Value->Shared->Prop) (E:Value->Shared->Prop),s'.heap.get? l=some ol->
 (∀ I St h',(∀ A':Around,A'.handled=none->Walks prog w A' I [I,l] [I] items.size (λi v=>items[i]? =some v) St)->St 0 h'->I=s'.heap.objs.size->(∀ b o,s'.heap.get? b=some o->h'.get? b=some o)->Q (.ref I) {s' with heap:=h'})->
 wpAny (model prog w) A (pyIter (.ref l)) Q E s'
theorem AE{l:Addr}{ol:Obj}{items:Array Value}{nl:Nat}(hc:ol.cls=.type "list")(hd:ol.data=.seq items nl):Itr prog w l ol items:=λA s' Q E hl h=>by
 have hL:s'.heap.IsList l items:=⟨ol,hl,hc,nl,hd⟩
 have hne:l≠s'.heap.objs.size:=ne_of_lt (lt_size hl)
 exact wpAny_pyIter_list hL (h _ (λi h=>h.IsListIter s'.heap.objs.size l i/\h.IsList l items) _ (λA' hA=>Walks.list hA _ l hne items) ⟨⟨_,get?_push_size _ rfl,rfl,rfl⟩,hL.push _⟩ rfl λb o e=>get?_push_of_some _ e)
theorem CG(a:Value){Q₁:Value->Shared->Prop}(h:∀ led:Bool,led=(!w.params.followText "set-order")->Q₁ (.ref s.heap.objs.size) {s with heap:=s.heap.push {cls:=.type "set",dict:=none,data:=.set #[] 0 (.fresh 0 0 led)}}):
  codeAny (model prog w) A (.call (.builtin "set.__new__") ⟨[.type "set",a],[]⟩) (wants Q₁ E) s:=by
 refine codeAny_of_tree ?_
 show wpAny _ A.in1 (checkBuiltinCall "set.__new__" ⟨[.type "set",a],[]⟩ >>= λ_=>again (.builtin "set.__new__" ⟨[.type "set",a],[]⟩)) _ _ s
 refine wpAny_bind (wpAny_of_eq (PySem.F.newCall_set_1 a) (wpAny_pure ⟨plainId_quiet PySem.F.plain_set_new _,codeAny_builtin PySem.F.entry_set_new ?_⟩));rw[Around.under_plainId PySem.F.plain_set_new _]
 unfold Builtin.«set.__new__» Builtin.Frozenset.newClass
 have hsub:=sub_set_self
 obtain⟨hp,g,d,tk,os⟩:=s
 dsimp only;wp_walk
 refine wpAny_askSetting (wpAny_pure ?_)
 dsimp only;simp only[newObj]
 exact wpAny_bind (wpAny_alloc (wpAny_pure (wpAny_pure (h _ rfl))))
end
section
variable {prog:Program}{w:World}{A:Around}{E:Value->Shared->Prop}{s:Shared}
end
end L3
namespace L3
open PySem PyProof.Rows
section
variable {prog:Program}{w:World}{A:Around}{E:Value->Shared->Prop}{s:Shared}
end
end L3
namespace L3
end L3
namespace L3
open PySem PySem.Spec PyProof.Rows L2
abbrev XX(t:Bool)(h:Heap)(l:Addr):Heap:=h.push (AY t l)
abbrev IZ(t:Bool)(h:Heap)(l:Addr):Heap:=(XX t h l).push {cls:=.type "enumerate",data:=.fields #[.none,.bool false,.ref h.objs.size,rawInt 0,.none,.none]}
theorem IA(t:Bool)(l:Addr)(xs:Array Value):Meets (Builtin.«enumerate.__new__» ⟨[.type "enumerate",.ref l],[]⟩) (λ_ R s=>IsSq t s.heap l xs/\
   R (.ok (.ret (.ref (XX t s.heap l).objs.size))) {s with heap:=IZ t s.heap l}):=
 .of_wp λprog w A R s h=>by
  obtain⟨hp,g,d,tk,os⟩:=s;obtain⟨q,h⟩:=h
  have hsub:=sub_enumerate
  have e1:IsSq t (Shared.heap ⟨hp,g,d,tk,os⟩) l xs:=q
  wp_walk
  refine wpAny_stack_any λst=>wpAny_pure ?_
  split
  .rename_i c _ _ _ _ _
   cases (c==Value.type "enumerate")
   .wp_walk using Ts e1
    exact⟨_,rfl,h⟩
   .wp_walk using Ts e1
    exact⟨_,rfl,h⟩
  .wp_walk using Ts e1
   exact⟨_,rfl,h⟩
theorem Rw{prog:Program}{w:World}{A:Around}{E:Value->Shared->Prop}{s:Shared}{t:Bool}{l:Addr}{xs:Array Value}{Q:Value->Shared->Prop}(q:IsSq t s.heap l xs)(h:∀ n h',n=s.heap.objs.size->IsEnum h' (n+1) n ((0:Nat):Int) .none->SqI t h' n l 0->(∀ c o,s.heap.get? c=some o->h'.get? c=some o)->Q (.ref (n+1)) {s with heap:=h'}):
  wpAny (model prog w) A (call (.type "enumerate") [.ref l]) Q E s:=by
 refine callType_new F.called_enumerate (by decide) (F.typeCall_enumerate_1 _) (F.newCall_enumerate_1 _) (λobj=>F.args_object_init_2 obj _) F.entry_enumerate_new (IA t l xs) ⟨q,?_⟩
 have z1:(XX t s.heap l).objs.size=s.heap.objs.size+1:=size_push ..
 have g2:(IZ t s.heap l).get? (XX t s.heap l).objs.size=some _:=get?_push_size _ rfl
 have f1:(AY t l).isFreed=false:=by cases t<;>rfl
 have g1:(IZ t s.heap l).get? s.heap.objs.size=some (AY t l):=get?_push_of_some _ (get?_push_size _ f1)
 show _/\_
 rw[z1]at g2 ⊢
 refine⟨⟨_,g2,rfl⟩,h _ _ rfl g2 ?_ λc o e=>get?_push_of_some _ (get?_push_of_some _ e)⟩
 cases t with
 |true=>exact⟨_,g1,rfl,rfl⟩
 |false=>exact⟨_,g1,rfl,rfl⟩
def L1(K : Frag)(t : Bool)(l : Addr) : It :=
  ⟨λi H => ∃ xs x, RM t K H l xs /\ xs[i]? = some x,
   λi H v H' => ∃ p x, v = .ref p /\ H p = none /\ H' = Ib H p (.tup [.int i, x]) /\ ∀ xs, RM t K H l xs -> xs[i]? = some x,
   λi H => ∃ xs, RM t K H l xs /\ i = xs.length⟩
theorem VB{P:Program}{w:World}{K:Frag}{elts:List Expr}{kt:Nat}{pt:Pos}{t:Bool}{e it l:Addr}(n1:l≠it)(n2:e≠it)(n3:e≠l):
  Turn P w K (.Tuple elts kt pt) (L1 K t l) [e,it] e (λi h=>(∃ old,IsEnum h e it i old)/\SqI t h it l i) where
 mem:=by simp
 obj:=λi h st b hb=>by
  obtain⟨⟨old,he⟩,s1⟩:=st
  simp only[mem_cons,not_mem_nil,or_false]at hb
  rcases hb with rfl|rfl
  .exact⟨_,he,λv q=>nomatch q⟩
  .obtain⟨o,vs,e,d⟩:=s1.rec
   exact⟨o,e,λv q=>by rw[d]at q;cases q⟩
 keep:=λi h h' st k=>by
  obtain⟨⟨old,he⟩,s1⟩:=st
  exact⟨⟨old,k e (by simp) _ he⟩,s1.at' λo q=>k it (by simp) o q⟩
 item:=by
  intro X hP hw hK hc i pins s σ H E I hf st hg
  subst hP hw hK
  obtain⟨⟨old,he⟩,s1⟩:=st
  obtain⟨xs,x,q1,e1⟩:=hg
  obtain⟨it1,r1,p1,_⟩:=Zw I q1
  obtain⟨u1,hu1,ru1⟩:=r1.get e1
  have hef:e∉ [it,l]:=by simp only[mem_cons,not_mem_nil,or_false,not_or];exact⟨n2,n3⟩
  have hlt:i<it1.toArray.size:=by
   rcases Nat.lt_or_ge i it1.length with z|z
   .simpa using z
   .rw[List.getElem?_eq_none z]at hu1;cases hu1
  refine wpAny_pyNext_enum_itemD (AD (show X.A.in1.handled=none from I.ok.hd hc) t it l n1 it1.toArray) he ⟨s1,p1⟩ hlt n2 hef λx' h1 tk px eo st1 nw sz kk=>⟨_,rfl,?_⟩
  have px':it1[i]? =some x':=by simpa using px
  rw[hu1]at px';cases px'
  refine wpAny_letOwnedTupleGo_enum (s:= {s with heap:=h1,toks:=tk+1}) eo λh2 e2 c2=>?_
  have le:e<s.heap.objs.size:=lt_size he
  have lit:it<s.heap.objs.size:=by obtain⟨o,_,q,_⟩:=s1.rec;exact lt_size q
  have up:∀ b o,b≠e->h1.get? b=some o->h2.get? b=some o:=λb o ne q=>c2.extBut _ _ ne q
  refine⟨.ref s.heap.objs.size,Ib H s.heap.objs.size (.tup [.int i,x]),?_,rfl,⟨_,x,rfl,I.hok.fresh (le_refl _),rfl,λzs hs=>by rw[Ax I hs q1];exact e1⟩,⟨⟨_,e2⟩,st1.1.at' λo q=>up _ _ (Ne.symm n2) q⟩,λb hb=>?_⟩
  .show Inv X pins σ (Ib H s.heap.objs.size (.tup [.int i,x])) {s with heap:=h2,toks:=tk+1}
   refine QA (ch:= [e,it]) (t':=tk+1) I hf (λb o hb q=>?_) (le_refl _) (.cons (by exact⟨tk,rfl⟩) (.cons ru1 .nil)) (show(2:Nat)<=sizeLine by rw[sizeLine_eq];decide) ⟨_,up _ _ (ne_of_gt le) nw,rfl,_,rfl⟩
   simp only[mem_cons,not_mem_nil,or_false,not_or]at hb
   exact up _ _ hb.1 (kk b o hb.1 hb.2 q)
  .have hb1:=(hf b hb).1
   have:b<s.heap.objs.size:=by
    simp only[mem_cons,not_mem_nil,or_false]at hb
    rcases hb with rfl|rfl
    .exact le
    .exact lit
   rw[Da (ne_of_lt this)];exact hb1
 done:=by
  intro X hP hw hK hc i pins s σ H E I hf st hg
  subst hP hw hK
  obtain⟨⟨old,he⟩,s1⟩:=st
  obtain⟨xs,q1,rfl⟩:=hg
  obtain⟨it1,r1,p1,_⟩:=Zw I q1
  have hsz:xs.length=it1.toArray.size:=by simp[r1.length]
  rw[hsz]at s1 he
  refine wpAny_pyNext_enum_endD (AD (show X.A.in1.handled=none from I.ok.hd hc) t it l n1 it1.toArray) he ⟨s1,p1⟩ λh1 k=>⟨rfl,?_⟩
  refine SA (ch:= [e,it]) (t':=s.toks) I hf λb o hb q=>?_
  simp only[mem_cons,not_mem_nil,or_false,not_or]at hb
  exact k b o hb.2 q
 self:=λ_ _ _ _ _ st h=>let ⟨⟨_,he⟩,_⟩:=st;wpAny_pyIter_enum he h
section
variable {X:Cx}{xw:XW}{elts:List Expr}{kt:Nat}{pt p pos:Pos}{a b:Expr}{fs:Ba->Res (List D)}
def OV(K:Frag)(ta:TA):TI:=λσ H R=>ta σ H λvs H1=>∃ t l xs,vs= [.ref l]/\RM t K H1 l xs/\R (L1 K t l) H1
theorem KL{ta:TA}(hg:Gl X "enumerate")(hm:X.mg "enumerate"=none)(ha:PA X [a] ta)(hs:starEach [a] X.env= [(false,eval a X.env)]):
  PI X (.Tuple elts kt pt) (.Call (.Name "enumerate" p) [a] [] pos) (OV X.K ta):=by
 intro pins s σ H R I h
 refine Call_ (Vf I hg hm (show bootBuiltins "enumerate"=some (.type "enumerate") by decide +kernel) (PyProof.Rows.callWith_type1 (Yc (ha pos pins s σ H _ I h) λus s1 ⟨vs,H1,I1,r1,q1⟩=>?_) (by rw[hs];rfl) (by rfl)))
 obtain⟨t,l,xs,e,q1,q⟩:=q1
 subst e
 obtain⟨u1,rfl,ru1⟩:=r1.one
 cases (show u1=Value.ref l from ru1)
 obtain⟨it1,v1,p1,_⟩:=Zw I1 q1
 have a1:=p1.lt
 refine Rw p1 λn h' hn he s1' kk=>wpAny_pyIter_enum he ?_
 subst hn
 have J:Inv X pins σ H1 {s1 with heap:=h'}:=I1.kept (t':=s1.toks) λc o e=>kk c o e
 refine⟨s1.heap.objs.size+1,[s1.heap.objs.size+1,s1.heap.objs.size],_,_,H1,rfl,J,VB (t:=t) (ne_of_lt a1) (ne_of_gt (Nat.lt_succ_self _)) (ne_of_gt (Nat.lt_succ_of_lt a1)),⟨⟨_,he⟩,s1'⟩,λc hc=>?_,q⟩
 have hcs:s1.heap.objs.size<=c:=by
  simp only[mem_cons,not_mem_nil,or_false]at hc
  rcases hc with rfl|rfl
  .exact le_succ _
  .exact le_refl _
 exact I1.fpOk hcs (I1.hok.fresh hcs)
def Pi:Nat->List D->List D
 |_,[]=> []
 |k,x::xs=>.tup [.int k,x]::Pi (k+1) xs
theorem Ll:∀ {xs:List D} {k i:Nat} {d:D},(Pi k xs)[i]? =some d->∃ x,xs[i]? =some x/\d=.tup [.int ((k+i:Nat):Int),x]
 | [],_,_,_,e=>by simp[Pi]at e
 |x::xs,k,0,d,e=>by
  rw[Pi]at e
  simp at e
  exact⟨x,rfl,by simp[<-e]⟩
 |x::xs,k,i+1,d,e=>by
  rw[Pi]at e
  obtain⟨u,h1,h2⟩:=Ll (xs:=xs) (k:=k+1) (i:=i) (by simpa using e)
  exact⟨u,by simpa using h1,by rw[h2,show k+1+i=k+(i+1) by omega]⟩
theorem Ml:∀ (k:Nat) (xs:List D),(Pi k xs).length=xs.length
 |_,[]=>rfl
 |k,x::xs=>by rw[Pi,List.length_cons,Ml,List.length_cons]
def Qi(ds:List D):Res (List D):=match ds with
 | [x]=>match ZD x with
  |some xs=>.ok (Pi 0 xs)
  |_=>.stuck
 |_=>.stuck
theorem MI(hm:X.mg "enumerate"=none)(ha:DA X xw [a] fs)(hg:Gl X "enumerate":=by rfl)(hs:starEach [a] X.env= [(false,eval a X.env)]:=by rfl):
  DI X xw (.Tuple elts kt pt) (.Call (.Name "enumerate" p) [a] [] pos) (b1 Qi fs):=
 PI.weak (KL hg hm ha hs) λσ H R ⟨W₀,H₀,W,δ,st,q⟩=>by
  refine⟨W₀,H₀,W,δ,st,?_⟩
  simp only[b1]at q
  cases h1:fs δ with
  |stuck=>rw[h1]at q;exact q
  |ex c gs=>rw[h1]at q;exact q
  |ok ds=>
   rw[h1]at q
   intro vs H1 k1 hv
   dsimp only[Res.bind]at q
   unfold Qi at q
   split at q
   .rename_i ds' hq
    split at hq
    .rename_i x
     split at hq
     .rename_i xs ex
      have e':Pi 0 xs=ds':=by cases hq;rfl
      subst e'
      rw[HasL]at hv
      obtain⟨v1,r1,rfl,g1,hv⟩:=hv
      rw[HasL]at hv
      subst hv
      have w1:=st.fr.wl.same k1
      obtain⟨t1,l1,xs1,rfl,r1,f1⟩:=FT w1 g1 ex
      refine⟨t1,l1,xs1,rfl,f1 W H1 Step.refl,q _ H1 k1 ?_⟩
      intro W' H2 k2 w2
      have c1:=f1 W' H2 k2
      refine⟨λi d e=>?_,xs1,c1,?_⟩
      .obtain⟨x0,e1,rfl⟩:=Ll e
       obtain⟨x1,o1,hx1⟩:=r1.get e1
       refine⟨⟨xs1,x1,c1,o1⟩,λu H3 z=>?_⟩
       obtain⟨p0,x2,rfl,hp,rfl,z1⟩:=z
       have:=z1 xs1 c1
       rw[o1]at this;cases this
       refine⟨Jd hp,?_⟩
       rw[Has]
       have hx2:=(Has.keep k2.keep w1 k2.new hx1).same (Jd (o:=.tup [.int i,x1]) hp) w2
       refine⟨p0,[.int i,x1],rfl,.of Ra,HasL.cons ?_ (HasL.cons hx2 HasL.nil)⟩
       rw[Has,zero_add]
      .rw[Ml,r1.length]
     .cases hq
    .cases hq
   .rename_i hq
    split at hq
    .split at hq<;>cases hq
    .cases hq
   .exact q.elim
end
end L3
namespace L3
open PySem PySem.Spec PyProof.Rows L2 SeqAt
theorem vals_ints:∀ {us:List Value} {ns:List Int},IntsAre us ns->Vals (ns.map V.int) us
 |_,_,.nil=>.nil
 |_,_,.cons n t r=>.cons ⟨t,rfl⟩ (vals_ints r)
section
variable {X:Cx}{xw:XW}{pos p pos2 p2:Pos}{a:Expr}{fa:Ba->Res D}{pins:List (Addr×Obj)}{σ:L2.St}{H:Hp}{s:Shared}
theorem Xw{elts:List Expr}{kt:Nat}{pt:Pos}{fs:Ba->Res (List D)}(hm:X.mg "enumerate"=none)(ha:XA X xw [a] fs)(hg:Gl X "enumerate":=by rfl)(hs:starEach [a] X.env= [(false,eval a X.env)]:=by rfl):
  XI X xw (.Tuple elts kt pt) (.Call (.Name "enumerate" p) [a] [] pos) (b1 Qi fs):=⟨MI hm ha.h hg hs⟩
end
end L3
namespace HT
open PySem PyProof.Rows
section
variable {prog:Program}{w:World}{A:Around}{E:Value->Shared->Prop}{s:Shared}
end
end HT
namespace L3
open PySem PySem.Spec PyProof.Rows L2 SeqAt
section
variable {X:Cx}{xw:XW}{a:Expr}{lo hi:Option Expr}{fa:Ba->Res D}{fl fh:Ba->Res (Option Int)}{pos p2:Pos}
def U2(d:D)(lo hi:Option Int):Res D:=match d with
 | .tup ds=>.ok (.tup (cutD ds lo hi))
 | .lst ds=>.ok (.lst (cutD ds lo hi))
 |_=>.stuck
end
theorem Gz(ds:List D)(lo hi:Option Int):U2 (.lst ds) lo hi=.ok (.lst (cutD ds lo hi)):=rfl
end L3
namespace HT
open PySem PyProof.Rows
section
variable {prog:Program}{w:World}{A:Around}{E:Value->Shared->Prop}{s:Shared}
end
end HT
namespace L3
open PySem PySem.Spec PyProof.Rows L2 SeqAt
section
variable {X:Cx}{xw:XW}{a st:Expr}{fa:Ba->Res D}{pos p2:Pos}
end
end L3
namespace L3
open PySem PySem.Spec PyProof.Rows L2
section
variable {K:Frag}{xw:XW}{W₀ W W1:WS}{H₀ H H1:Hp}{Dn:Ends}
def E2(K:Frag)(xw:XW)(W₀:WS)(H₀:Hp)(W:WS)(H:Hp)(o:Out)(Dn:Ends):Prop:=match o with
 | .rt (.lst ds)=>∀ a xs H',Same H₀ H'->H₀ a=none->H' a=some (.lst xs)->HasL K (λb=>W₀ b\/b=a) H' ds xs->Dn.rt (.ref a) H'
 |o=>RS K xw W₀ H₀ W H o Dn
def T0(K:Frag)(xw:XW)(g:Ba->Out):TS:=λDn σ H=>∃ W₀ H₀ W δ,StHas K W₀ H₀ W H σ δ/\E2 K xw W₀ H₀ W H (g δ) Dn
end
structure NoL(g:Ba->Out):Prop where
 h:∀ δ ds,g δ≠ .rt (.lst ds)
section
variable {X:Cx}{xw:XW}{st:Stmt}{sts:List Stmt}{g1 g2:Ba->Out}{pos p:Pos}{a:Expr}{es:List Expr}
structure XSO(X:Cx)(xw:XW)(sts:List Stmt)(g:Ba->Out):Prop where
 h:PSs X sts (T0 X.K xw g)
def Z2(K:Frag)(n:Nat)(m:List D->Res D):Sp:=λvs H Q _=>vs.length=n/\∃ W ds,WL W H/\HasL K W H ds vs/\match m ds with
 | .ok (.lst fs)=>∀ a xs H',Same H H'->H a=none->H' a=some (.lst xs)->HasL K (λb=>W b\/b=a) H' fs xs->Q (.ref a) H'
 | .ok d=>∀ v H',Same H H'->Has K W H' d v->Q v H'
 |_=>False
structure FnO(P:Program)(w:World)(K:Frag)(mg:Str->Option Value)(base:Heap)(k:Nat)(x:Str)(n:Nat)(m:List D->Res D):Prop where
 ex:∃ f fd ps,FnOk P w K mg base Qm k f fd ps (Z2 K n m)/\mg x=some (.ref f)/\keepIn K (.ref f)=true/\Binds K fd ps []
def B0(i:Nat)(δ:Ba):D->Out
 | .lst ds=>.nx (δ.set i (some (.o ds)))
 |d=>.nx (δ.set i (some (.d d)))
def Bz(i:Nat)(f:Ba->Res D):Ba->Out:=λδ=>Ul (f δ) (B0 i δ)
def QM(K:Frag)(W:WS)(H:Hp):List D->List V->Prop
 | [],xs=>xs= []
 |d::ds,xs=>∃ x r,xs=x::r/\HasT K W H d x/\QM K W H ds r
def C2(K:Frag)(xw:XW)(W:WS)(H:Hp)(r:Res (List D))(Q:List V->Hp->Prop):Prop:=match r with
 | .ok ds=>∀ vs H',Same H H'->QM K W H' ds vs->Q vs H'
 | .ex c fs=>∀ H',Same H H'->xw c fs H'
 | .stuck=>False
structure XAP(X:Cx)(xw:XW)(es:List Expr)(f:Ba->Res (List D)):Prop where
 h:PA X es λσ H Q=>∃ W₀ H₀ W δ,StHas X.K W₀ H₀ W H σ δ/\C2 X.K xw W H (f δ) Q
end
end L3
namespace L3
open PySem PySem.Spec PyProof.Rows L2 SeqAt
section
variable {α β:Type}
def Zb(l:List (Ab×α))(k:Ab):Option α:=(l.find? λp=>decide (p.1=k)).map (·.2)
def Om(l:List (Ab×α))(k:Ab):Bool:=l.any λp=>decide (p.1=k)
def Qg(l:List (Ab×α))(k:Ab)(y:α):List (Ab×α):=if Om l k=true then l.map (λp=>if p.1=k then(p.1,y) else p) else l++ [(k,y)]
theorem Oh{p:Ab×α}{r:List (Ab×α)}{k:Ab}(e:p.1=k):Zb (p::r) k=some p.2:=by simp[Zb,List.find?_cons,e]
theorem Pg{p:Ab×α}{r:List (Ab×α)}{k:Ab}(e:¬ p.1=k):Zb (p::r) k=Zb r k:=by simp[Zb,List.find?_cons,e]
theorem Fl(k:Ab):∀ l:List (Ab×α),Om l k=(Zb l k).isSome
 | []=>rfl
 |p::r=>by
  by_cases e:p.1=k
  .rw[Oh e];simp[Om,e]
  .rw[Pg e,<-Fl k r];simp[Om,e]
theorem Wv(l:List (Ab×α))(k:Ab)(y:α):(Qg l k y).length<=l.length+1:=by
 unfold Qg;split
 .rw[length_map];omega
 .simp
end
theorem Bo{kvs:List (Ab×V)}{vs:List (Ab×Value)}(r:KV kvs vs)(k:Ab):(∀ v,Zb kvs k=some v->∃ u,valueAt vs k=some u/\RelV v u)/\(Zb kvs k=none->valueAt vs k=none):=by
 unfold KV at r
 induction r with
 |nil=>exact⟨(λv e=>by cases e),λ_=>rfl⟩
 |@cons p q ps qs h t ih=>
  obtain⟨h1,h2⟩:=h
  by_cases e:p.1=k
  .have b:valueAt (q::qs) k=some q.2:=by simp[valueAt,List.find?_cons,h1.symm.trans e]
   rw[Oh e,b]
   exact⟨λv z=>by cases z;exact⟨_,rfl,h2⟩,λz=>by cases z⟩
  .have e':¬ q.1=k:=λz=>e (h1.trans z)
   have b:valueAt (q::qs) k=valueAt qs k:=by simp[valueAt,List.find?_cons,e']
   rw[Pg e,b];exact ih
theorem SQ{kvs:List (Ab×V)}{vs:List (Ab×Value)}(r:KV kvs vs)(k:Ab):Om kvs k=vs.any λp=>decide (p.1=k):=by
 unfold KV at r
 induction r with
 |nil=>rfl
 |cons h t ih=>unfold Om at ih ⊢;rw[List.any_cons,List.any_cons,ih,h.1]
theorem HE{kvs:List (Ab×V)}{vs:List (Ab×Value)}(r:KV kvs vs)(k:Ab){y:V}{u:Value}(ry:RelV y u):KV (Qg kvs k y) (stored vs k u):=by
 unfold Qg stored
 rw[SQ r k]
 by_cases e:(vs.any λp=>decide (p.1=k))=true
 .rw[if_pos e,if_pos e]
  unfold KV at r ⊢
  clear e
  induction r with
  |nil=>exact .nil
  |@cons p q ps qs h t ih=>
   rw[map_cons,map_cons]
   refine .cons ?_ ih
   obtain⟨h1,h2⟩:=h
   by_cases e:p.1=k
   .rw[if_pos e,if_pos (h1.symm.trans e)];exact⟨h1,ry⟩
   .rw[if_neg e,if_neg (λz=>e (h1.trans z))];exact⟨h1,h2⟩
 .rw[if_neg e,if_neg e]
  unfold KV at r ⊢
  clear e
  induction r with
  |nil=>exact .cons ⟨rfl,ry⟩ .nil
  |cons h t ih=>exact .cons h ih
theorem Wi{kvs:List (Ab×V)}{vs:List (Ab×Value)}(r:KV kvs vs):kvs.length=vs.length:=by
 unfold KV at r
 induction r with
 |nil=>rfl
 |cons h t ih=>rw[List.length_cons,List.length_cons,ih]
section
variable {K:Frag}{W:WS}{H:Hp}
def HasP(K:Frag)(W:WS)(H:Hp)(l:List (Ab×D))(kvs:List (Ab×V)):Prop:=kvs.map (·.1)=l.map (·.1)/\HasL K W H (l.map (·.2)) (kvs.map (·.2))
theorem HasP.nil:HasP K W H [] []:=⟨rfl,HasL.nil⟩
theorem HasP.cons{p:Ab×D}{l:List (Ab×D)}{kvs:List (Ab×V)}(h:HasP K W H (p::l) kvs):∃ v r,kvs=(p.1,v)::r/\Has K W H p.2 v/\HasP K W H l r:=by
 obtain⟨h1,h2⟩:=h
 cases kvs with
 |nil=>cases h1
 |cons q r=>
  rw[map_cons,map_cons]at h1 h2
  rw[HasL]at h2
  obtain⟨x,t,e,g1,g2⟩:=h2
  cases e
  have h3:=List.cons.inj h1
  exact⟨q.2,r,by rw[<-h3.1],g1,h3.2,g2⟩
theorem HasP.mk{k:Ab}{d:D}{v:V}{l:List (Ab×D)}{kvs:List (Ab×V)}(h:Has K W H d v)(t:HasP K W H l kvs):HasP K W H ((k,d)::l) ((k,v)::kvs):=⟨by rw[map_cons,map_cons,t.1],by rw[map_cons,map_cons];exact HasL.cons h t.2⟩
theorem HasP.len{l:List (Ab×D)}{kvs:List (Ab×V)}(h:HasP K W H l kvs):l.length=kvs.length:=by
 have:=congrArg List.length h.1
 simpa using this.symm
theorem HasP.of{ks:List Ab}{ds:List D}{kvs:List (Ab×V)}(h1:kvs.map (·.1)=ks)(h2:HasL K W H ds (kvs.map (·.2))):HasP K W H (ks.zip ds) kvs/\(ks.zip ds).map (·.1)=ks/\(ks.zip ds).map (·.2)=ds:=by
 have hl:ks.length=ds.length:=by rw[<-h1,h2.length,length_map,length_map]
 have e1:(ks.zip ds).map (·.1)=ks:=by rw[<-List.unzip_fst,List.unzip_zip hl]
 have e2:(ks.zip ds).map (·.2)=ds:=by rw[<-List.unzip_snd,List.unzip_zip hl]
 exact⟨⟨by rw[e1,h1],by rw[e2];exact h2⟩,e1,e2⟩
theorem HasP.same{H':Hp}{l:List (Ab×D)}{kvs:List (Ab×V)}(h:HasP K W H l kvs)(k:Same H H')(w:WL W H):HasP K W H' l kvs:=⟨h.1,h.2.same k w⟩
theorem HasP.get:∀ {l:List (Ab×D)} {kvs:List (Ab×V)},HasP K W H l kvs->∀ (k:Ab),(∀ d,Zb l k=some d->∃ v,Zb kvs k=some v/\Has K W H d v)/\(Zb l k=none->Zb kvs k=none)
 | [],kvs,h,k=>by
  obtain⟨h1,_⟩:=h
  cases kvs with
  |nil=>exact⟨(λd e=>by cases e),λ_=>rfl⟩
  |cons _ _=>cases h1
 |p::l,kvs,h,k=>by
  obtain⟨v,r,rfl,h1,h2⟩:=h.cons
  by_cases e:p.1=k
  .rw[Oh e,Oh (p:=(p.1,v)) e]
   exact⟨λd z=>by cases z;exact⟨v,rfl,h1⟩,λz=>by cases z⟩
  .rw[Pg e,Pg (p:=(p.1,v)) e];exact h2.get k
theorem HasP.has{l:List (Ab×D)}{kvs:List (Ab×V)}(h:HasP K W H l kvs)(k:Ab):Om kvs k=Om l k:=by
 have:=h.1
 unfold Om
 rw[show(kvs.any λp=>decide (p.1=k))=(kvs.map (·.1)).any (λz=>decide (z=k)) by rw[List.any_map];rfl,this,List.any_map];rfl
theorem HasP.put{l:List (Ab×D)}{kvs:List (Ab×V)}{d:D}{v:V}(h:HasP K W H l kvs)(k:Ab)(hd:Has K W H d v):HasP K W H (Qg l k d) (Qg kvs k v):=by
 unfold Qg
 rw[h.has k]
 split
 .rename_i hh;clear hh
  induction l generalizing kvs with
  |nil=>
   obtain⟨h1,_⟩:=h
   cases kvs with
   |nil=>exact HasP.nil
   |cons _ _=>cases h1
  |cons p l ih=>
   obtain⟨u,r,rfl,h1,h2⟩:=h.cons
   rw[map_cons,map_cons]
   by_cases e:p.1=k
   .rw[if_pos e,if_pos e];exact HasP.mk hd (ih h2)
   .rw[if_neg e,if_neg e];exact HasP.mk h1 (ih h2)
 .rename_i hh;clear hh
  induction l generalizing kvs with
  |nil=>
   obtain⟨h1,_⟩:=h
   cases kvs with
   |nil=>exact HasP.mk hd HasP.nil
   |cons _ _=>cases h1
  |cons p l ih=>
   obtain⟨u,r,rfl,h1,h2⟩:=h.cons
   exact HasP.mk h1 (ih h2)
end
section
variable {X:Cx}{xw:XW}{a b e ie:Expr}{pos p p1 p2:Pos}{fa fb f fi:Ba->Res D}
theorem Yj{P:Program}{w:World}{k:Ab}{u:Value}(r:RelV (kV k) u):(Tc P w).is k u=true:=TL r
theorem Pq{P:Program}{w:World}{H:Hp}{h:Heap}{a:Addr}{kvs:List (Ab×V)}(ok:HOk P w H h)(e:Rd H a (.dK kvs)):kvs.length<=sizeLine/\(a==sysModules)=false/\∃ vs,KV kvs vs/\h.DictOf (Tc P w) a vs:=by
 rcases e with e|⟨o,e⟩
 .exact ok a _ e
 .exact(show _/\_ from ok a _ e).2
theorem Rd.same{H H':Hp}{a:Addr}{u:HO}(h:Rd H a u)(k:Same H H'):Rd H' a u:=h.imp (k _ _) λ⟨o,e⟩=>⟨o,k _ _ e⟩
def F0:R2:=λx y H Q=>∃ a kvs k v,x=.ref a/\Rd H a (.dK kvs)/\y=kV k/\Zb kvs k=some v/\Q v H
theorem CL{ta tb:TE}(ha:PE X a ta)(hb:PE X b tb)(hs:Ej b):PE X (.Subscript a b pos) (FX F0 ta tb):=by
 intro pins s σ H Q I h
 refine Subscript_ (WH ha hb I h λv u s2 x y H2 I2 rx ry q=>?_)
 obtain⟨d,kvs,k,z,rfl,hd,rfl,hg,q⟩:=q
 cases rx
 obtain⟨_,hS,vs,rel,dd⟩:=Pq I2.hok hd
 obtain⟨w',hw,rw'⟩:=(Bo rel k).1 z hg
 unfold subscriptTail
 refine wpAny_bind ?_
 rw[getitemInPython_of_ne dd.typeIs.not_modules]
 refine wpAny_bind (wpAny_specialOf dd.typeIs PySem.F.slot_dict_getitem.lookup ?_)
 have fin:wpAny (model X.prog X.w) X.A (subscripted b false (.ref d) u) (λr s₃=>wpAny (model X.prog X.w) X.A (letTemporaryGo a (.ref d) r >>= λ_=>pure r) (EP X pins σ Q) X.xe s₃) X.xe s2:=by
  rw[hs (.ref d) u]
  exact wpAny_operating (wpAny_getItem_of (Yj ry) dd.mapOf hw (wpAny_bind (wpAny_letTemporaryGo (wpAny_pure ⟨z,H2,I2.tok _,rw',q⟩))))
 first
  |exact wpAny_pure (wpAny_bind fin)
  |exact wpAny_bind (wpAny_pure (wpAny_bind fin))
  |exact wpAny_bind fin
def NW:V->V->V->Hp->(Hp->Prop)->Prop:=λo i v H Q=>∃ a kvs k,o=.ref a/\i=kV k/\H a=some (.dK kvs)/\kvs.length<sizeLine/\Q (Ib H a (.dK (Qg kvs k v)))
theorem BG:QU X NW:=by
 intro pins s σ H o i v ov iv u Q I ro ri rv h
 obtain⟨a,kvs,k,rfl,rfl,ha,hl,q⟩:=h
 cases ro
 obtain⟨z,hS,vs,rel,dd⟩:=I.hok _ _ ha
 refine wpAny_setItem_pairs (hsz:=by rw[<-Wi rel];exact z) (Yj ri) dd λh' dd' hs=>⟨_,?_,q⟩
 refine I.write (x:=a) (e:=a) (by rw[ha];exact trivial) (.inl rfl) (λb' w hb hw=>(hs.2 b' hb).trans hw) ?_ ?_
 .obtain⟨ob,_,_,hq,_⟩:=dd';exact⟨ob,hq⟩
 .exact⟨by have:=Wv kvs k v;omega,hS,_,HE rel k rv,dd'⟩
def RQ(K:Frag)(xw:XW)(W:WS)(H:Hp)(r:Res (List (Ab×D)))(Q:VK):Prop:=match r with
 | .ok l=>∀ a kvs H',Same H H'->Rd H' a (.dK kvs)->HasP K W H' l kvs->Q (.ref a) H'
 | .ex c fs=>∀ H',Same H H'->xw c fs H'
 | .stuck=>False
def Z1(K:Frag)(xw:XW)(f:Ba->Res (List (Ab×D))):TE:=λσ H Q=>∃ W₀ H₀ W δ,StHas K W₀ H₀ W H σ δ/\RQ K xw W H (f δ) Q
structure XQ(X:Cx)(xw:XW)(e:Expr)(f:Ba->Res (List (Ab×D))):Prop where
 h:PE X e (Z1 X.K xw f)
def Gc(i:Nat):Ba->Res (List (Ab×D)):=λδ=>match δ[i]? with
 |some (some (.q ks ds))=>.ok (ks.zip ds)
 |some (some (.d (.dct ks ds)))=>.ok (ks.zip ds)
 |_=>.stuck
theorem Zi(i:Nat){x:Str}(hN:X.N[i]? =some x:=by rfl)(hv:Bw X.env.scope x:=by first|exact Or.inl rfl|exact Or.inr (Or.inl rfl)|exact Or.inr (Or.inr rfl))(hd:(x==("__debug__":Str))=false:=by decide)(hcd:(x==("__classdict__":Str))=false:=by decide):XQ X xw (.Name x pos) (Gc i):=
 ⟨PE.weak (Fh hN hv hd hcd) λσ H Q ⟨W₀,H₀,W,δ,st,q⟩=>by
  unfold Gc at q
  split at q
  .rename_i ks ds h
   obtain⟨v,e1,a,kvs,rfl,r2,r3,r4,r5,r6⟩:=st.at' i _ h
   exact⟨_,e1,q a kvs H (Same.refl H) (.inl r4) (HasP.of r5 r6).1⟩
  .rename_i ks ds h
   obtain⟨v,e1,r⟩:=st.at' i _ h
   have r':Has X.K W H (.dct ks ds) v:=r
   rw[Has]at r'
   obtain⟨a,kvs,rfl,r4,r5,r6⟩:=r'
   exact⟨_,e1,q a kvs H (Same.refl H) (.inr r4) (HasP.of r5 r6).1⟩
  .exact q.elim⟩
def Dt{α:Type}(op:D->Res α)(f:Ba->Res D):Ba->Res α:=λδ=>(f δ).bind op
def De(l:List (Ab×D))(d:D):Res D:=match Ou d with
 |some k=>match Zb l k with
  |some x=>.ok x
  |none=>.stuck
 |none=>.stuck
def Dr{α:Type}(op:List (Ab×D)->D->Res α)(f:Ba->Res (List (Ab×D)))(g:Ba->Res D):Ba->Res α:=λδ=>(f δ).bind λl=>(g δ).bind λd=>op l d
theorem Kh{K:Frag}{W:WS}{H:Hp}{d:D}{v:V}{k:Ab}(h:HasT K W H d v)(e:Ou d=some k):v=kV k:=by
 cases d with
 |int i=>cases e;exact h.int
 |str x=>cases e;exact h.str
 |_=>cases e
theorem Dj{fq:Ba->Res (List (Ab×D))}(ha:XQ X xw a fq)(hb:XP X xw b fb)(hs:Ej b:=by intro _ _;rfl):XE X xw (.Subscript a b pos) (Dr De fq fb):=
 ⟨PE.weak (CL ha.h hb.h hs) λσ H Q ⟨W₀,H₀,W,δ,st,q⟩=>by
  refine⟨W₀,H₀,W,δ,st,?_⟩
  unfold Dr at q
  cases h1:fq δ with
  |stuck=>rw[h1]at q;exact q
  |ex c fs=>rw[h1]at q;exact q
  |ok l=>
   rw[h1]at q
   intro ad kvs H1 k1 hd hp
   refine⟨W₀,H₀,W,δ,st.same k1,?_⟩
   have q':RE X.K xw W H ((fb δ).bind λd=>De l d) Q:=q
   cases h2:fb δ with
   |stuck=>rw[h2]at q';exact q'
   |ex c fs=>rw[h2]at q';exact λH2 k2=>q' H2 (k1.trans k2)
   |ok d=>
    rw[h2]at q'
    intro v H2 k2 hv
    have q2:RE X.K xw W H (De l d) Q:=q'
    unfold De at q2
    split at q2
    .rename_i k hk
     split at q2
     .rename_i x hx
      have hp2:=hp.same k2 (st.fr.wl.same k1)
      obtain⟨z,hz,hh⟩:=(hp2.get k).1 x hx
      exact⟨ad,kvs,k,z,rfl,Rd.same hd k2,Kh hv hk,hz,q2 z H2 (k1.trans k2) hh⟩
     .exact q2.elim
    .exact q2.elim⟩
def Qo(i:Nat):Ba->Out:=λδ=>.nx (δ.set i (some (.q [] [])))
theorem DL{t:TE}(ht:∀ σ H Q,t σ H Q->∀ a,H a=none->Q (.ref a) (Ib H a (.dK []))):PE X (.Dict [] [] pos) t:=by
 intro pins s σ H Q I q
 have big:sysModules<s.heap.objs.size:=by
  have h:mainGlobals<s.heap.objs.size:=(I.mod.glob.keeps I.bk).lt
  exact lt_trans (by decide) h
 exact wpAny_Dict_empty ⟨.ref s.heap.objs.size,_,I.laid (a:=s.heap.objs.size) (o:=.dK []) (t':=s.toks) (λ_ _ q=>get?_push_of_some _ q) (le_refl _) (YC s.heap big),rfl,ht σ H Q q _ (I.hok.fresh (le_refl s.heap.objs.size))⟩
theorem YS(i:Nat){x:Str}{pos' pos'':Pos}(hN:X.N.Nodup)(hi:X.N[i]? =some x:=by rfl)(hx:Ew X.env.scope x:=by first|exact Or.inl rfl|exact Or.inr rfl)(hs:swapsWith (.Dict [] [] pos'') (some (.Name x pos')) pos.line X.env=pure false:=by rfl)(hf:X.fn x=true\/X.env.scope.names.lookup x=some .local:=by first|exact .inl rfl|exact .inr rfl|assumption):XS X xw (.Assign [.Name x pos'] (.Dict [] [] pos'') pos) (Qo i):=
 ⟨PS.weak (Js hN hi hx (DL (t:=λ_ H Q=>∀ a,H a=none->Q (.ref a) (Ib H a (.dK []))) λ_ _ _ q=>q) hs hf) λDn σ H ⟨W₀,H₀,W,δ,st,q⟩=>by
  intro a ha
  have st1:=st.ownQ (i:=i) (ks:= []) (ds:= []) (kvs:= []) ha rfl HasL.nil
  have q':RS X.K xw W₀ H₀ W H (.nx (δ.set i (some (.q [] [])))) Dn:=q
  refine q' _ _ _ ⟨λb o e nb=>?_,λb z=>z.elim .inl λz=>.inr (by rw[z];exact ha)⟩ st1
  rw[Da (Ka e ha)];exact e⟩
def GS(i:Nat)(δ:Ba)(l:List (Ab×D))(d ix:D):Out:=match Ou ix with
 |some k=>if l.length<=1000 then .nx (δ.set i (some (.q ((Qg l k d).map (·.1)) ((Qg l k d).map (·.2))))) else .stuck
 |none=>.stuck
def GW(i:Nat)(fi:Ba->Res D)(δ:Ba)(d:D):Out:=match δ[i]? with
 |some (some (.q ks ds))=>Ul (fi δ) (GS i δ (ks.zip ds) d)
 |_=>.stuck
def Bl(i:Nat)(fi f:Ba->Res D):Ba->Out:=λδ=>Ul (f δ) (GW i fi δ)
theorem AT(i:Nat){x:Str}(he:XE X xw e f)(hi:XE X xw ie fi)(hN:X.N[i]? =some x:=by rfl)(hv:Bw X.env.scope x:=by first|exact Or.inl rfl|exact Or.inr (Or.inl rfl)|exact Or.inr (Or.inr rfl))(hd:(x==("__debug__":Str))=false:=by decide)(hcd:(x==("__classdict__":Str))=false:=by decide)(ha:∀ v,assign (.Subscript (.Name x p1) ie p2) X.env v=(do
   let ov <-holding [v] (eval (.Name x p1) X.env)
   let iv <-holding [v,ov] (eval ie X.env)
   standAt p2
   holding [v,ov,iv] (setItem ov iv v)
   release [v,ov,iv] []):=by intro _;rfl)(hs:swapsWithSole [.Subscript (.Name x p1) ie p2] e pos.line X.env=pure false:=by rfl)(hw:swappedStores [.Subscript (.Name x p1) ie p2] e X.env=pure none:=by rfl)(h1:(assignEach [.Subscript (.Name x p1) ie p2] X.env).map (·.2)= [assign (.Subscript (.Name x p1) ie p2) X.env]:=by rfl):
  XS X xw (.Assign [.Subscript (.Name x p1) ie p2] e pos) (Bl i fi f):=
 ⟨PS.weak (AS he.h (WR (Fh hN hv hd hcd) hi.h BG ha) hs hw h1) λDn σ H ⟨W₀,H₀,W,δ,st,q⟩=>by
  unfold Bl at q
  refine Ph st q λH2 d v st2 hv q2=>?_
  unfold GW at q2
  split at q2
  .rename_i ks ds h
   obtain⟨v0,e1,a,kvs,rfl,r2,r3,r4,r5,r6⟩:=st2.at' i _ h
   refine⟨_,e1,W₀,H₀,W,δ,st2,?_⟩
   cases hf:fi δ with
   |stuck=>rw[hf]at q2;exact q2.elim
   |ex c gs=>rw[hf]at q2;exact λH3 k3=>q2 H3 (st2.fr.ext.trans k3)
   |ok ix=>
    rw[hf]at q2
    have q3:RS X.K xw W₀ H₀ W H2 (GS i δ (ks.zip ds) d ix) Dn:=q2
    unfold GS at q3
    split at q3
    .rename_i k hk
     split at q3
     .rename_i hlen
      intro vi H3 k3 hvi
      have hkk:=Kh (.inl hvi) hk
      subst hkk
      have st3:=st2.same k3
      obtain⟨v',e1',a',kvs',e',r2',r3',r4',r5',r6'⟩:=st3.at' i _ h
      rw[e1]at e1'
      cases e1'
      cases e'
      have hp:=(HasP.of r5' r6').1
      have hp2:=hp.put k (hv.same k3 st2.fr.wl)
      refine⟨a,kvs',k,rfl,rfl,r4',by have:=hp.len;rw[sizeLine_eq];omega,?_⟩
      refine q3 W _ σ ⟨λb o e n=>?_,λ_ z=>.inl z⟩ ?_
      .rw[Da (λz=>n (by rw[z];exact r2'))];exact k3 _ _ e
      .exact st3.changeQ h e1 r2' hp2.1 hp2.2
     .exact q3.elim
    .exact q3.elim
  .exact q2.elim⟩
def NJ(i:Nat)(δ:Ba):Ba:=match δ[i]? with
 |some (some (.q ks ds))=>δ.set i (some (.d (.dct ks ds)))
 |some (some (.o ds))=>δ.set i (some (.d (.lst ds)))
 |_=>δ
theorem StHas.frzQ{K:Frag}{W₀ W:WS}{H₀ H:Hp}{σ:L2.St}{δ:Ba}{i:Nat}{ks:List Ab}{ds:List D}{a:Addr}{kvs:List (Ab×V)}(o:Obj)(h:StHas K W₀ H₀ W H σ δ)(hi:δ[i]? =some (some (.q ks ds)))(hs:σ[i]? =some (some (.ref a)))(hW:W a)(h4:kvs.map (·.1)=ks)(h5:HasL K W H ds (kvs.map (·.2))):StHas K W₀ H₀ (λb=>W b/\b≠a) (Ib H a (.frz o (.dK kvs))) σ (δ.set i (some (.d (.dct ks ds)))):=by
 have kk:Hh W H (Ib H a (.frz o (.dK kvs))):=λb u e n=>by rw[Da (λz=>n (by rw[z];exact hW))];exact e
 refine h.freezeH (D0 ks ds) hi hs ?_
 rw[Has]
 exact⟨a,kvs,rfl,⟨o,Ra⟩,h4,HasL.keep kk h.fr.wl (λb z=>.inl z.1) h5⟩
theorem Step.less{W W1 W2:WS}{H H2:Hp}(hw:∀ b,W1 b->W b)(k:Step W1 H W2 H2):Step W H W2 H2:=⟨λb o e n=>k.keep b o e λz=>n (hw b z),λb z=>(k.new b z).imp (hw b) id⟩
theorem RS.less{K:Frag}{xw:XW}{W₀ W W1:WS}{H₀ H:Hp}{o:Out}{Dn:Ends}(hw:∀ b,W1 b->W b)(q:RS K xw W₀ H₀ W H o Dn):RS K xw W₀ H₀ W1 H o Dn:=by
 cases o with
 |nx δ=>exact λW' H' σ k s=>q W' H' σ (k.less hw) s
 |bk δ=>exact λW' H' σ k s=>q W' H' σ (k.less hw) s
 |ct δ=>exact λW' H' σ k s=>q W' H' σ (k.less hw) s
 |rt d=>exact q
 |ex c fs=>exact q
 |stuck=>exact q
def XL(i:Nat)(g:Ba->Out):Ba->Out:=λδ=>g (NJ i δ)
theorem RS.note{K:Frag}{xw:XW}{W₀ W:WS}{H₀ H:Hp}{o:Out}{Dn:Ends}{a:Addr}{ob:HO}(hW:W a)(q:RS K xw W₀ H₀ W H o Dn):RS K xw W₀ H₀ (λb=>W b/\b≠a) (Ib H a ob) o Dn:=by
 have st:∀ W' H',Step (λb=>W b/\b≠a) (Ib H a ob) W' H'->Step W H W' H':=λW' H' k=>⟨λb u e n=>by
   have hb:b≠a:=λz=>n (by rw[z];exact hW)
   exact k.keep b u (by rw[Da hb];exact e) λz=>n z.1,λb z=>by
   rcases k.new b z with z|z
   .exact .inl z.1
   .by_cases hb:b=a
    .rw[hb,Ra]at z;cases z
    .rw[Da hb]at z;exact .inr z⟩
 cases o with
 |nx δ=>exact λW' H' σ k s=>q W' H' σ (st _ _ k) s
 |bk δ=>exact λW' H' σ k s=>q W' H' σ (st _ _ k) s
 |ct δ=>exact λW' H' σ k s=>q W' H' σ (st _ _ k) s
 |rt d=>exact q
 |ex c fs=>exact q
 |stuck=>exact q
theorem ND{i:Nat}{g:Ba->Out}{Dn:Ends}{σ:L2.St}{H:Hp}{pins:List (Addr×Obj)}{s:Shared}(I:Inv X pins σ H s)(h:IT X.K xw (XL i g) Dn σ H):∃ H',Inv X pins σ H' s/\IT X.K xw g Dn σ H':=by
 obtain⟨W₀,H₀,W,δ,st,q⟩:=h
 have q':RS X.K xw W₀ H₀ W H (g (NJ i δ)) Dn:=q
 unfold NJ at q'
 split at q'
 .rename_i ks ds h
  obtain⟨v,e,a,kvs,rfl,r2,r3,r4,r5,r6⟩:=st.at' i _ h
  have ok:=I.hok _ _ r4
  obtain⟨z,hS,vs,rel,dd⟩:=id ok
  obtain⟨o,es,ep,ho,_⟩:=dd
  refine⟨_,I.write (x:=a) (e:=a) (o:=.frz o (.dK kvs)) (h':=s.heap) (t':=s.toks) (by rw[r4];exact trivial) (.inl rfl) (λb' u hb hu=>hu) ⟨_,ho⟩ ⟨ho,ok⟩,W₀,H₀,_,_,st.frzQ o h e r2 r5 r6,RS.note r2 q'⟩
 .rename_i ds h
  obtain⟨v,e,a,xs,rfl,_⟩:=st.at' i _ h
  exact⟨H,I,W₀,H₀,_,_,(st.freeze h e).1,RS.less (λb z=>z.1) q'⟩
 .exact⟨H,I,W₀,H₀,W,δ,st,q'⟩
theorem RW(i:Nat){st:Stmt}{g:Ba->Out}(h:XS X xw st g):XS X xw st (XL i g):=⟨λpins s σ H Dn I q=>let ⟨H',I',q'⟩:=ND I q;h.h pins s σ H' Dn I' q'⟩
end
theorem WD{P:Program}{w:World}{k:Ab}{u:Value}(h:(Tc P w).is k u=true):RelV (kV k) u:=by
 rcases Ac h with⟨i,t,rfl,rfl⟩|⟨x,t,rfl,rfl⟩
 .exact⟨t,rfl⟩
 .exact⟨t,rfl⟩
theorem Nr{P:Program}{w:World}{H:Hp}{h:Heap}{a:Addr}{o:Obj}{kvs:List (Ab×V)}{es:Array DictEntry}{ep:Nat}(ok:HOk P w H h)(e:H a=some (.frz o (.dK kvs)))(hd:o.data=.dict es ep):
  (a==sysModules)=false/\∃ vs,KV kvs vs/\h.DictAt (Tc P w) a vs ep:=by
 obtain⟨h1,_,h2,vs,r,o',es',ep',g1,g2,g3,g4⟩:=(show _/\_ from ok a _ e)
 rw[h1]at g1;cases g1
 rw[hd]at g3;cases g3
 exact⟨h2,vs,r,o,es,h1,g2,hd,g4⟩
theorem CN{kvs:List (Ab×V)}{vs:List (Ab×Value)}(r:KV kvs vs){i:Nat}{p:Ab×V}(h:kvs[i]? =some p):∃ u,vs[i]? =some (p.1,u)/\RelV p.2 u:=by
 unfold KV at r
 induction r generalizing i with
 |nil=>cases h
 |@cons p' q ps qs hh t ih=>
  cases i with
  |zero=>cases h;exact⟨q.2,by rw[List.getElem?_cons_zero,hh.1],hh.2⟩
  |succ i=>exact ih (by simpa using h)
def RY(a:Addr)(o:Obj)(kvs:List (Ab×V)):It:=
 ⟨λi H=>H a=some (.frz o (.dK kvs))/\i<kvs.length,λi H x H'=>H'=H/\∃ p,kvs[i]? =some p/\x=kV p.1,λi H=>H a=some (.frz o (.dK kvs))/\i=kvs.length⟩
theorem IM{P:Program}{w:World}{K:Frag}{tg:Expr}{a it:Addr}{o:Obj}{kvs:List (Ab×V)}{es:Array DictEntry}{ep:Nat}(hdat:o.data=.dict es ep):Turn P w K tg (RY a o kvs) [it] it (λi h=>h.IsKeyIter it a i kvs.length ep) where
 mem:=by simp
 obj:=λi h st b hb=>by
  have e:b=it:=by simpa using hb
  subst e
  obtain⟨o,e,c,d⟩:=st
  exact⟨o,e,λv z=>by rw[d]at z;cases z⟩
 keep:=λi h h' st k=>st.at λo e=>k it (by simp) o e
 item:=by
  intro X hP hw hK hc i pins s σ H E I hf st hg
  subst hP hw hK
  obtain⟨hq,hi⟩:=hg
  obtain⟨_,vs,rel,dat⟩:=Nr I.hok hq hdat
  obtain⟨u,hu,ru⟩:=CN rel (getElem?_eq_getElem hi)
  obtain⟨f0,f1,f2,f3,f4,f5⟩:=hf it (by simp)
  rw[Wi rel]at st
  refine wpAny_pyNext_dict_item st dat hu λkey h' hkey st' sb=>?_
  have I1:Inv X pins σ H {s with heap:=h'}:=I.turned (t':=s.toks) (λb o hb e=>(sb.2 b hb).trans e) f0 f1 f3 f4 f5
  obtain⟨o1,e,c,d⟩:=id st'
  rw[<-Wi rel]at st'
  exact⟨key,rfl,Ly (s:= {s with heap:=h'}) e c d (by decide) ⟨kV (kvs[i]).1,H,I1,WD hkey,⟨rfl,_,getElem?_eq_getElem hi,rfl⟩,st',λb hb=>(hf b hb).1⟩⟩
 done:=by
  intro X hP hw hK hc i pins s σ H E I hf st hg
  subst hP hw hK
  obtain⟨hq,rfl⟩:=hg
  obtain⟨_,vs,rel,dat⟩:=Nr I.hok hq hdat
  obtain⟨f0,f1,f2,f3,f4,f5⟩:=hf it (by simp)
  rw[Wi rel]at st
  exact wpAny_pyNext_dict_end (I.ok.hd hc) st dat (by simp) λh' eb=>⟨rfl,I.turned (t':=s.toks) (λb o hb e=>eb b o hb e) f0 f1 f3 f4 f5⟩
 self:=λ_ _ _ _ _ st h=>wpAny_pyIter_keyiter st h
section
variable {X:Cx}{xw:XW}{e b tg:Expr}{f:Ba->Res D}{pos apos:Pos}
def N2(te:TE):TI:=λσ H R=>te σ H λx H1=>∃ a o kvs,x=.ref a/\H1 a=some (.frz o (.dK kvs))/\R (RY a o kvs) H1
theorem CW{te:TE}(h:PE X e te):PI X tg e (N2 te):=by
 intro pins s σ H R I h1
 refine Yc (h pins s σ H _ I h1) λv s1 ⟨x,H1,I1,r1,q1⟩=>?_
 obtain⟨a,o,kvs,rfl,hq,q⟩:=q1
 cases r1
 obtain⟨h1',_,hS,vs',r',o',es,ep,g1,g2,g3,g4⟩:=(show _/\_ from I1.hok a _ hq)
 rw[h1']at g1;cases g1
 obtain⟨hs,vs,rel,dat⟩:=Nr I1.hok hq g3
 refine wpAny_pyIter_dict hs dat ?_
 refine⟨s1.heap.objs.size,[s1.heap.objs.size],_,_,H1,rfl,I1.kept (t':=s1.toks) λb o e=>get?_push_of_some _ e,IM g3,⟨_,get?_push_size _ rfl,rfl,by rw[Wi rel];rfl⟩,λb hb=>?_,q⟩
 have e:b=s1.heap.objs.size:=by simpa using hb
 subst e
 exact I1.fpOk (le_refl _) (I1.hok.fresh (le_refl _))
def Sj:Ab->D
 | .inl i=>.int i
 | .inr x=>.str x
theorem Fq{K:Frag}{W:WS}{H:Hp}(k:Ab):Has K W H (Sj k) (kV k):=by
 cases k with
 |inl i=>show Has K W H (.int i) (.int i);rw[Has]
 |inr x=>show Has K W H (.str x) (.str x);rw[Has]
theorem MD{W W':WS}{H H2:Hp}{a:Addr}{o:Obj}{u:HO}(w:WL W H)(k:Step W H W' H2)(h:H a=some (.frz o u)):H2 a=some (.frz o u):=k.keep _ _ h λz=>by
 obtain⟨o',e',m⟩:=w a z
 rw[h]at e';cases e';exact m
theorem FQ{K:Frag}{W:WS}{H:Hp}{a:Addr}{o:Obj}{kvs:List (Ab×V)}{ks:List Ab}(w:WL W H)(h:H a=some (.frz o (.dK kvs)))(e:kvs.map (·.1)=ks):FC K W H (RY a o kvs) (ks.map Sj):=by
 intro W' H2 k w2
 have h2:=MD w k h
 have hl:ks.length=kvs.length:=by rw[<-e,length_map]
 refine⟨λi d ed=>?_,h2,by rw[length_map,hl]⟩
 have hi:i<kvs.length:=by
  have:=(List.getElem?_eq_some_iff.mp ed).1
  rw[length_map,hl]at this;exact this
 refine⟨⟨h2,hi⟩,λx H3 z=>?_⟩
 obtain⟨rfl,p,hp,rfl⟩:=z
 refine⟨Same.refl _,?_⟩
 rw[<-e,getElem?_map,getElem?_map,hp]at ed
 cases ed
 exact Fq _
def Gq:D->Res (List D)
 | .dct ks _=>.ok (ks.map Sj)
 |_=>.stuck
theorem TD(h:XE X xw e f):XI X xw tg e (Dt Gq f):=⟨PI.weak (CW h.h) λσ H R ⟨W₀,H₀,W,δ,st,q⟩=>by
 refine⟨W₀,H₀,W,δ,st,?_⟩
 unfold Dt at q
 cases h1:f δ with
 |stuck=>rw[h1]at q;exact q
 |ex c fs=>rw[h1]at q;exact q
 |ok d=>
  rw[h1]at q
  intro v H1 k1 hv
  cases d with
  |dct ks ds=>
   rw[Has]at hv
   obtain⟨a,kvs,rfl,⟨o,ea⟩,r5,r6⟩:=hv
   exact⟨a,o,kvs,rfl,ea,q _ H1 k1 (FQ (st.fr.wl.same k1) ea r5)⟩
  |_=>exact q.elim⟩
variable {elts:List Expr}{kt:Nat}{pt:Pos}
end
section
variable {X:Cx}{xw:XW}{pos p pos2 apos:Pos}{a e:Expr}{fa f:Ba->Res D}
end
section
variable {prog:Program}{w:World}{A:Around}{E:Value->Shared->Prop}{s:Shared}
end
section
variable {X:Cx}{xw:XW}{tg a:Expr}{p pos:Pos}{fs:Ba->Res (List D)}
end
theorem Dm:entryFor table "dict.update.loop"=some Builtin.«dict.update.loop» :=entryFor_of_tree (by kernel_rfl)
theorem Yg:plainId "dict.update.loop"=true:=by decide +kernel
section
variable {prog:Program}{w:World}{KK:Type}[DecidableEq KK]{knd:KeyKind prog w KK}{A:Around}{R:Result->Shared->Prop}{I:Addr}{fp wr:List Addr}{G:Array GenState->Array GenState->Prop}{n:Nat}{P:Nat->Value->Prop}{St:Nat->Shared->Prop}{E:Value->Shared->Prop}{s:Shared}
theorem NI(W:WalksS prog w A.in1 I fp wr G n P St)(S:Addr)(hSf:S∉fp)(base:Heap)(hnew:∀ b∈S::wr,base.objs.size<=b)(kvs:List (KK×Value))(hn:kvs.length=n)(hsz:n<=sizeLine)(hv:∀ i v,P i v->∃ t key k val,v=.ref t/\kvs[i]? =some (k,val)/\knd.is k key=true/\IsTup base t #[key,val]):
  ∀ (j i:Nat) (s:Shared),n-i=j->i<=n->St i s->(∀ b o,base.get? b=some o->s.heap.get? b=some o)->s.heap.DictOf knd S (merged [] (kvs.take i))->(∀ s',Moved (S::wr) G s s'->s'.heap.DictOf knd S (merged [] kvs)->R (.ok (.ret .none)) s')->
   codeAny (model prog w) A (.builtin "dict.update.loop" ⟨[.ref S,.ref I,rawInt (i:Int),.none],[]⟩) R s:=by
 have hSw:S∉wr:=λh=>hSf (W.sub _ h)
 have up:∀ b∈wr,b∈S::wr:=λb hb=>mem_cons_of_mem _ hb
 have old:∀ b o,base.get? b=some o->b∉S::wr:=λb o e m=>absurd (lt_size e) (Nat.not_lt.mpr (hnew b m))
 intro j
 induction j with
 |zero=>
  intro i s hk hi st hb hS hR
  have:i=n:=by omega
  subst this
  refine codeAny_builtin Dm ?_;rw[Around.under_plainId Yg _]
  show wpAny _ A.in1 (pyNext (.ref I) >>= _) _ _ s
  refine wpAny_bind (W.done s _ _ st λs' mv=>?_)
  show wpAny _ _ (Builtin.Dict.addKeywords S [] >>= _) _ _ s'
  refine wpAny_bind (wpAny_pure (wpAny_pure (hR s' (mv.mono up) ?_)))
  rw[take_of_length_le (Nat.le_of_eq hn)]at hS
  obtain⟨o,es,ep,ho,r⟩:=hS
  exact⟨o,es,ep,mv.heap S o hSw ho,r⟩
 |succ j ih=>
  intro i s hk hi st hb hS hR
  have lt:i<n:=by omega
  refine codeAny_builtin Dm ?_;rw[Around.under_plainId Yg _]
  show wpAny _ A.in1 (pyNext (.ref I) >>= _) _ _ s
  refine wpAny_bind (W.item i s _ _ lt st λv s' pv st' mv=>?_)
  obtain⟨t,key,k,val,rfl,hkv,hkey,ht⟩:=hv i v pv
  have hS':s'.heap.DictOf knd S (merged [] (kvs.take i)):=by
   obtain⟨o,es,ep,ho,r⟩:=hS
   exact⟨o,es,ep,mv.heap S o hSw ho,r⟩
  obtain⟨ot,e1,e2,e3⟩:=ht
  obtain⟨m,e3⟩:=e3
  have et:=mv.heap t ot (λz=>old t ot e1 (up _ z)) (hb t ot e1)
  have hT:s'.TypeIs (.ref t) "tuple":=⟨ot,et,e2⟩
  show wpAny _ A.in1 (holding [Value.ref t] _ >>= _) _ _ s'
  refine wpAny_bind (wpAny_holding ?_)
  refine wpAny_bind (wpAny_tryCatch ?_)
  unfold Builtin.Dict.pairItems
  refine wpAny_bind (wpAny_typeOf hT ?_)
  rw[if_pos (by decide)]
  refine wpAny_bind (wpAny_seqItems et e3 (wpAny_pure ?_))
  show wpAny _ _ (holding [key,val] (dictSet S key val)) _ _ _
  have hs0:(merged ([]:List (KK×Value)) (kvs.take i)).length<=sizeLine:=by
   have:=merged_length_le ([]:List (KK×Value)) (kvs.take i)
   rw[length_take,length_nil,zero_add]at this
   have h2:min i kvs.length<=i:=Nat.min_le_left _ _
   exact le_trans this (le_trans h2 (le_trans hi hsz))
  refine wpAny_holding (wpAny_dictSet_pairs (hsz:=hs0) hkey hS' λh' hS2 sb=>?_)
  refine wpAny_pure (show _/\codeAny (model prog w) A (.builtin "dict.update.loop" ⟨[.ref S,.ref I,rawInt ((i:Int)+1),.none],[]⟩) R {s' with heap:=h',toks:=s'.toks+1} from⟨plainId_quiet Yg _,?_⟩)
  have e5:rawInt ((i:Int)+1)=rawInt ((i+1:Nat):Int):=by congr 1
  rw[e5]
  refine ih (i+1) _ (by omega) lt (W.frame _ s' _ _ st' (le_succ _) λb hb o e=>sb.extBut _ _ (λq=>hSf (q▸hb)) e) (λb o e=>sb.extBut _ _ (λq=>old b o e (by rw[q];exact mem_cons_self)) (mv.heap b o (λz=>old b o e (up _ z)) (hb b o e))) (by rw[merged_take_succ _ _ i _ hkv];exact hS2) λs'' mv2 hS3=>hR s'' ?_ hS3
  exact Moved.trans W.gtrans ((mv.mono up).then_heap (le_succ _) λb o hb e=>sb.extBut _ _ (λq=>hb (by rw[q];exact mem_cons_self)) e) mv2
theorem Ru:typeLookup (.type "list") "keys"=pure none:=by rw[typeLookup_type,builtinLookup_eq_fast];kernel_rfl
theorem WA{a:Addr}{o:Obj}{xs:Array Value}{k:Nat}{Q:Option Value->Shared->Prop}(hx:s.heap.get? a=some o)(hc:o.cls=.type "list")(hdat:o.data=.seq xs k)(hd:o.dict=none)(hA:A.handled=none)(h:∀ h' tk,(∀ b ob,s.heap.get? b=some ob->h'.get? b=some ob)->Q none {s with heap:=h',toks:=tk}):
  wpAny (model prog w) A (getAttr? (.ref a) "keys") Q E s:=by
 obtain⟨c,dct,dat,sl⟩:=o
 simp only at hc hdat hd
 subst hc hdat hd
 obtain⟨hp,g,d,tk,os⟩:=s
 have hT:∀ tk',(⟨hp,g,d,tk',os⟩:Shared).TypeIs (.ref a) "list":=λ_=>⟨_,hx,rfl⟩
 have f1:=sub_AttributeError
 have f3:=F.slot_list_getattribute.lookup
 have f4:=F.slot_list_getattribute.bind (.ref a)
 have f5:=am_list_getattr_none
 unfold getAttr? getAttrBy? getAttrBy
 repeat (any_goals (first|assumption|exact hT _|((with_reducible show wpAny _ _ (call (Value.builtin "list.__getattribute__") _ _) _ _ _);refine call_meets F.slot_list_getattribute (hT _) am_entry_list_getattribute (F.args_list_getattribute_2 _ _) (meets_getattribute_miss_list a xs k sl "keys" _ Ru (by decide) (by rw[sizeLine_eq];decide)) ⟨hx,hA,λh' tk' e hx'=>?_⟩)|wp_step))
 obtain⟨t',u',he⟩:=hx'.there
 show wpAny _ _ (getattributeRaised _ _ _ _ _ _ _) _ _ _
 unfold getattributeRaised
 repeat (any_goals (first|assumption|wp_step))
 exact h h' tk' hx'.keeps
theorem On{l:Addr}{o:Obj}{items:Array Value}{n0:Nat}{kvs:List (KK×Value)}{Q:Value->Shared->Prop}(hh:A.handled=none)(hx:s.heap.get? l=some o)(hc:o.cls=.type "list")(hdat:o.data=.seq items n0)(hd:o.dict=none)(hn:kvs.length=items.size)(hsz:items.size<=sizeLine)(hv:∀ (i:Nat) (v:Value),items[i]? =some v->∃ t key k val,v=Value.ref t/\kvs[i]? =some (k,val)/\knd.is k key=true/\IsTup s.heap t #[key,val])(h:∀ h' tk,h'.DictOf knd s.heap.objs.size (merged [] kvs)->(∀ b o,s.heap.get? b=some o->h'.get? b=some o)->Q (.ref s.heap.objs.size) {s with heap:=h',toks:=tk}):
  wpAny (model prog w) A (call (.type "dict") [.ref l]) Q E s:=by
 refine callType_codes (Q₁:=λobj s₁=>obj=.ref s.heap.objs.size/\s₁= {s with heap:=s.heap.push {cls:=.type "dict",data:=.dict #[]}}) F.kt_called_dict (F.kt_typeCall_dict_1 _) F.entry_dict_init (kt_code_dict_new _ ⟨rfl,rfl⟩) ?_
 rintro obj s₁ ⟨rfl,rfl⟩
 have hnew:(s.heap.push {cls:=.type "dict",data:=.dict #[]}).DictOf knd s.heap.objs.size []:=Heap.DictOf.new s.heap
 have hx':=get?_push_of_some {cls:=.type "dict",data:=.dict #[]} hx
 have z1:(s.heap.push {cls:=.type "dict",data:=.dict #[]}).objs.size=s.heap.objs.size+1:=size_push ..
 have k1:∀ b o,s.heap.get? b=some o->(s.heap.push {cls:=.type "dict",data:=.dict #[]}).get? b=some o:=λb o e=>get?_push_of_some _ e
 generalize (s.heap.push {cls:=.type "dict",data:=.dict #[]})=h1 at hnew hx' z1 k1 ⊢
 refine⟨hnew.typeIs,F.args_dict_init_2 _ _,?_⟩
 unfold Builtin.«dict.__init__»
 refine wpAny_bind ?_
 unfold Builtin.Dict.selfAndRest
 refine wpAny_bind (wpAny_notOrdered_dict hnew.typeIs ?_)
 show wpAny _ _ (pure (s.heap.objs.size,[Value.ref l])) _ _ _
 refine wpAny_pure ?_
 show wpAny _ _ (Builtin.Dict.updateFrom "dict.__init__" s.heap.objs.size (.ref l) [] .none) _ _ _
 unfold Builtin.Dict.updateFrom
 have hT:Shared.TypeIs {s with heap:=h1} (.ref l) "list":=⟨_,hx',hc⟩
 refine wpAny_bind (wpAny_typeOf hT ?_)
 rw[if_pos (by decide)]
 refine wpAny_bind (WA (s:= {s with heap:=h1}) hx' hc hdat hd hh λh2 tk2 k2=>?_)
 rw[if_pos (show(none:Option Value).isNone=true from rfl)]
 refine wpAny_bind (wpAny_rule ?_)
 have hl2:h2.IsList l items:=⟨o,k2 _ _ hx',hc,n0,hdat⟩
 refine wpAny_bind (wpAny_pyIter_list (s:= {s with heap:=h2,toks:=tk2}) hl2 ?_)
 have lS:s.heap.objs.size<h2.objs.size:=by
  obtain⟨ob,_,_,hg,_⟩:=hnew
  exact lt_size (k2 _ _ hg)
 have ll:l<s.heap.objs.size:=lt_size hx
 have hS2:h2.DictOf knd s.heap.objs.size []:=by
  obtain⟨ob,es,ep,hg,r⟩:=hnew
  exact⟨ob,es,ep,k2 _ _ hg,r⟩
 have hlI:l≠h2.objs.size:=ne_of_lt (lt_trans ll lS)
 have W:=(Walks.list (prog:=prog) (w:=w) (A:=A.in1.in1) (show A.in1.in1.handled=none from hh) h2.objs.size l hlI items).toS
 refine wpAny_pure ⟨plainId_quiet Yg _,?_⟩
 refine NI (knd:=knd) (A:=A.in1) W s.heap.objs.size ?_ s.heap ?_ kvs hn hsz (λi v pv=>hv i v pv) items.size 0 _ (by omega) (zero_le _) ?_ ?_ ?_ ?_
 .simp only[mem_cons,not_mem_nil,or_false,not_or]
  exact⟨ne_of_lt lS,ne_of_gt ll⟩
 .intro b hb
  simp only[mem_cons,not_mem_nil,or_false]at hb
  rcases hb with rfl|rfl
  .exact le_refl _
  .exact le_of_lt lS
 .exact⟨⟨_,get?_push_size _ rfl,rfl,rfl⟩,⟨o,get?_push_of_some _ (k2 _ _ hx'),hc,n0,hdat⟩⟩
 .exact λb o e=>get?_push_of_some _ (k2 _ _ (k1 _ _ e))
 .obtain⟨ob,es,ep,hg,r⟩:=hS2
  exact⟨ob,es,ep,get?_push_of_some _ hg,r⟩
 .intro s' mv hS
  obtain⟨h',g',d',tk',os'⟩:=s'
  have eg:g'=s.gens:=mv.gens
  have ed:d'=s.drawn:=mv.drawn
  have eo:os'=s.os:=mv.os
  subst eg ed eo
  refine⟨rfl,h h' tk' hS λb ob e=>mv.heap b ob ?_ (get?_push_of_some _ (k2 _ _ (k1 _ _ e)))⟩
  have hb:=lt_size e
  simp only[mem_cons,not_mem_nil,or_false,not_or]
  exact⟨ne_of_lt hb,ne_of_lt (lt_trans hb lS)⟩
end
def Wf{α:Type}(l:List (Ab×α)):List (Ab×α):=l.foldl (λacc p=>Qg acc p.1 p.2) []
theorem FE{kvs:List (Ab×V)}{vs:List (Ab×Value)}(r:KV kvs vs):KV (Wf kvs) (merged [] vs):=by
 have go:∀ {kvs:List (Ab×V)} {vs:List (Ab×Value)},KV kvs vs->∀ {a:List (Ab×V)} {b:List (Ab×Value)},KV a b->KV (kvs.foldl (λacc p=>Qg acc p.1 p.2) a) (vs.foldl (λacc kv=>stored acc kv.1 kv.2) b):=by
  intro kvs vs r
  unfold KV at r
  induction r with
  |nil=>intro a b h;exact h
  |@cons p q ps qs h t ih=>
   intro a b hab
   obtain⟨h1,h2⟩:=h
   rw[foldl_cons,foldl_cons,<-h1]
   exact ih (HE hab p.1 h2)
 exact go r .nil
theorem HasP.merge{K:Frag}{W:WS}{H:Hp}{l:List (Ab×D)}{kvs:List (Ab×V)}(h:HasP K W H l kvs):HasP K W H (Wf l) (Wf kvs):=by
 have go:∀ (l:List (Ab×D)) (kvs:List (Ab×V)),HasP K W H l kvs->∀ (a:List (Ab×D)) (b:List (Ab×V)),HasP K W H a b->HasP K W H (l.foldl (λacc p=>Qg acc p.1 p.2) a) (kvs.foldl (λacc p=>Qg acc p.1 p.2) b):=by
  intro l
  induction l with
  |nil=>
   intro kvs h a b hab
   obtain⟨h1,_⟩:=h
   cases kvs with
   |nil=>exact hab
   |cons _ _=>cases h1
  |cons p l ih=>
   intro kvs h a b hab
   obtain⟨v,r,rfl,h1,h2⟩:=h.cons
   exact ih r h2 _ _ (hab.put p.1 h1)
 exact go l kvs h [] [] HasP.nil
theorem Gx{α:Type}(l:List (Ab×α)):(Wf l).length<=l.length:=by
 have go:∀ (l a:List (Ab×α)),(l.foldl (λacc p=>Qg acc p.1 p.2) a).length<=a.length+l.length:=by
  intro l
  induction l with
  |nil=>intro a;simp
  |cons p l ih=>
   intro a
   have h1:=ih (Qg a p.1 p.2)
   have h2:=Wv a p.1 p.2
   rw[foldl_cons,List.length_cons];omega
 have:=go l [];simpa [Wf] using this
section
variable {X:Cx}{xw:XW}{pos p:Pos}{a:Expr}{fa:Ba->Res D}
def PairsAt(K:Frag)(H:Hp):List V->List (Ab×V)->Prop
 | [],kvs=>kvs= []
 |x::xs,kvs=>∃ t k v r,x=.ref t/\kvs=(k,v)::r/\SqT K H t [kV k,v]/\PairsAt K H xs r
theorem PairsAt.len{K:Frag}{H:Hp}:∀ {xs:List V} {kvs:List (Ab×V)},PairsAt K H xs kvs->xs.length=kvs.length
 | [],_,h=>by rw[show _= [] from h];rfl
 |x::xs,_,h=>by
  obtain⟨t,k,v,r,_,rfl,_,h⟩:=h
  rw[List.length_cons,List.length_cons,h.len]
theorem Nq{pins:List (Addr×Obj)}{σ:L2.St}{H:Hp}{s:Shared}(I:Inv X pins σ H s):∀ {xs:List V} {its:List Value} {kvs:List (Ab×V)},PairsAt X.K H xs kvs->Vals xs its->
  ∃ vs:List (Ab×Value),KV kvs vs/\∀ (i:Nat) (v:Value),its[i]? =some v->∃ t key k val,v=Value.ref t/\vs[i]? =some (k,val)/\(Tc X.prog X.w).is k key=true/\IsTup s.heap t #[key,val]
 | [],its,kvs,h,r=>by
  cases r
  rw[show kvs= [] from h]
  exact⟨[],.nil,λi v e=>by simp at e⟩
 |x::xs,its,kvs,h,r=>by
  obtain⟨t,k,v,rr,rfl,rfl,sq,h⟩:=h
  cases r with
  |@cons _ u _ us r1 r2=>
   cases (show u=Value.ref t from r1)
   obtain⟨vs,e1,e2⟩:=Nq I h r2
   obtain⟨ys,ry,py,_⟩:=I.tuple sq
   cases ry with
   |@cons _ key _ _ q1 q2=>
    cases q2 with
    |@cons _ val _ _ q3 q4=>
     cases q4
     refine⟨(k,val)::vs,.cons ⟨rfl,q3⟩ e1,λi w hw=>?_⟩
     cases i with
     |zero=>cases hw;exact⟨t,key,k,val,rfl,rfl,Yj q1,py⟩
     |succ i=>exact e2 i w (by simpa using hw)
theorem Iw(hc:X.calm=true):Xl X (.type "dict") (λxs H Q=>∃ (l:Addr) (ys:List V) (kvs:List (Ab×V)),xs= [.ref l]/\SqL X.K H l ys/\PairsAt X.K H ys kvs/\∀ n o,H n=none->Q (.ref n) (Ib H n (.frz o (.dK (Wf kvs))))):=by
 intro pins s σ H xs us Q I r h
 obtain⟨l,ys,kvs,rfl,hq,hp,q⟩:=h
 obtain⟨u,rfl,ru⟩:=VG r
 cases ru
 obtain⟨its,rv,⟨ob,n0,e,hcl,hd,hs⟩,hz⟩:=I.list hq
 obtain⟨vs,kv,hv⟩:=Nq I hp rv
 have hl1:=hp.len
 have hl2:=rv.length
 have hl3:=Wi kv
 have big:sysModules<s.heap.objs.size:=by
  have h:mainGlobals<s.heap.objs.size:=(I.mod.glob.keeps I.bk).lt
  exact lt_trans (by decide) h
 refine On (knd:=Tc X.prog X.w) (kvs:=vs) (I.ok.hd hc) e hcl hs hd (by simp;omega) (by simp;omega) (λi v hw=>hv i v (by simpa using hw)) λh' tk dd kk=>?_
 obtain⟨ob',es,ep,ho',rr⟩:=id dd
 refine⟨.ref s.heap.objs.size,_,I.laid (a:=s.heap.objs.size) (o:=.frz ob' (.dK (Wf kvs))) (t':=tk) kk (le_refl _) ⟨ho',?_,beq_eq_false_iff_ne.mpr (Ne.symm (ne_of_lt big)),_,FE kv,dd⟩,rfl,q _ ob' I.fresh⟩
 have:=Gx kvs
 omega
def Mh:List D->Option (List (Ab×D))
 | []=>some []
 | .tup [k,v]::ds=>match Ou k,Mh ds with
  |some kk,some l=>some ((kk,v)::l)
  |_,_=>none
 |_=>none
theorem Mq{K:Frag}{W:WS}{H:Hp}:∀ {ds:List D} {l:List (Ab×D)} {xs:List V},Mh ds=some l->HasL K W H ds xs->∃ kvs,PairsAt K H xs kvs/\HasP K W H l kvs
 | [],l,xs,e,h=>by
  cases e
  rw[HasL]at h
  subst h
  exact⟨[],rfl,HasP.nil⟩
 |d::ds,l,xs,e,h=>by
  unfold Mh at e
  split at e
  .rename_i h1;cases h1
  .rename_i k v ds' h1
   cases h1
   split at e
   .rename_i kk l' e1 e2
    cases e
    rw[HasL]at h
    obtain⟨x,r,rfl,g1,g2⟩:=h
    obtain⟨kvs,p1,p2⟩:=Mq e2 g2
    rw[Has]at g1
    obtain⟨t,ys,rfl,sq,hy⟩:=g1
    rw[HasL]at hy
    obtain⟨y1,r1,rfl,hk,hy⟩:=hy
    rw[HasL]at hy
    obtain⟨y2,r2,rfl,hv,hy⟩:=hy
    rw[HasL]at hy
    subst hy
    have:=Kh (.inl hk) e1
    subst this
    exact⟨(kk,y2)::kvs,⟨t,kk,y2,kvs,rfl,rfl,sq,p1⟩,HasP.mk hv p2⟩
   .cases e
  .cases e
def Oi:D->Res D
 | .lst ds=>match Mh ds with
  |some l=>.ok (.dct ((Wf l).map (·.1)) ((Wf l).map (·.2)))
  |none=>.stuck
 |_=>.stuck
theorem Bt(hc:X.calm=true)(hm:X.mg "dict"=none)(ha:XP X xw a fa)(hg:Gl X "dict":=by rfl)(he:starEach [a] X.env=(false,eval a X.env)::starEach [] X.env:=by rfl)(hpl:(backTo pos (starEach [] X.env)).any (·.1)=false:=by rfl):
  XE X xw (.Call (.Name "dict" p) [a] [] pos) (b1 Oi fa):=
 ⟨BA (Iw hc) (λW H d v Q w hv q=>by
  unfold Oi at q
  split at q
  .split at q
   .rename_i l hl
    obtain⟨ad,xs,e1,sq,r⟩:=hv.lst
    obtain⟨kvs,p1,p2⟩:=Mq hl r
    refine⟨ad,xs,kvs,by rw[e1],sq,p1,λn o hn=>q _ _ (Jd hn) ?_⟩
    have m:=(p2.merge).same (Jd (o:=.frz o (.dK (Wf kvs))) hn) w
    rw[Has]
    exact⟨n,Wf kvs,rfl,⟨o,Ra⟩,m.1,m.2⟩
   .exact q.elim
  .exact q.elim) hm (by decide +kernel) ha.h hg (by decide) (by decide) he hpl⟩
end
section
variable {X:Cx}{xw:XW}{a b e:Expr}{pos:Pos}{fa f:Ba->Res D}{fq:Ba->Res (List (Ab×D))}
theorem Zv{kvs:List (Ab×V)}{vs:List (Ab×Value)}(r:KV kvs vs)(k:Ab):(valueAt vs k).isSome=(Zb kvs k).isSome:=by
 cases h:Zb kvs k with
 |none=>rw[(Bo r k).2 h];rfl
 |some v=>obtain⟨u,e,_⟩:=(Bo r k).1 v h;rw[e];rfl
theorem GR:OpR X (compareOp .In) (λy x H Q=>∃ ad kvs k,x=.ref ad/\Rd H ad (.dK kvs)/\y=kV k/\Q (.bl (Zb kvs k).isSome) H):=by
 intro pins s σ H y x u v Q I ry rx h
 obtain⟨ad,kvs,k,rfl,hd,rfl,q⟩:=h
 cases rx
 obtain⟨_,hS,vs,rel,dd⟩:=Pq I.hok hd
 refine wpAny_in_of (Yj ry) hS dd.mapOf ?_
 exact⟨.bl (Zb kvs k).isSome,H,I.tok _,by rw[<-Zv rel k];rfl,q⟩
theorem UK:OpR X (compareOp .NotIn) (λy x H Q=>∃ ad kvs k,x=.ref ad/\Rd H ad (.dK kvs)/\y=kV k/\Q (.bl (!(Zb kvs k).isSome)) H):=by
 intro pins s σ H y x u v Q I ry rx h
 obtain⟨ad,kvs,k,rfl,hd,rfl,q⟩:=h
 cases rx
 obtain⟨_,hS,vs,rel,dd⟩:=Pq I.hok hd
 refine wpAny_notIn_of (Yj ry) hS dd.mapOf ?_
 exact⟨.bl (!(Zb kvs k).isSome),H,I.tok _,by rw[<-Zv rel k];rfl,q⟩
def NA(d:D)(l:List (Ab×D)):Res D:=match Ou d with
 |some k=>.ok (.bl (Zb l k).isSome)
 |none=>.stuck
def Lq(d:D)(l:List (Ab×D)):Res D:=match Ou d with
 |some k=>.ok (.bl (!(Zb l k).isSome))
 |none=>.stuck
def NC(op:D->List (Ab×D)->Res D)(f:Ba->Res D)(g:Ba->Res (List (Ab×D))):Ba->Res D:=λδ=>(f δ).bind λd=>(g δ).bind λl=>op d l
theorem Ku{σ:L2.St}{H:Hp}{W₀ W:WS}{H₀:Hp}{δ:Ba}{op:D->List (Ab×D)->Res D}{Q:VK}{R:V->V->Hp->Prop}(st:StHas X.K W₀ H₀ W H σ δ)(q:RE X.K xw W H (NC op fa fq δ) Q)(h:∀ H2 d l v ad kvs,Same H H2->HasT X.K W H2 d v->Rd H2 ad (.dK kvs)->HasP X.K W H2 l kvs->RE X.K xw W H2 (op d l) Q->R v (.ref ad) H2):
  EM X.K xw fa σ H λx H1=>Z1 X.K xw fq σ H1 λy H2=>R x y H2:=by
 refine⟨W₀,H₀,W,δ,st,?_⟩
 unfold NC at q
 cases h1:fa δ with
 |stuck=>rw[h1]at q;exact q
 |ex c fs=>rw[h1]at q;exact q
 |ok d=>
  rw[h1]at q
  intro v H1 k1 hv
  refine⟨W₀,H₀,W,δ,st.same k1,?_⟩
  have q':RE X.K xw W H ((fq δ).bind λl=>op d l) Q:=q
  cases h2:fq δ with
  |stuck=>rw[h2]at q';exact q'
  |ex c fs=>rw[h2]at q';exact λH2 k2=>q' H2 (k1.trans k2)
  |ok l=>
   rw[h2]at q'
   intro ad kvs H2 k2 hd hp
   exact h H2 d l v ad kvs (k1.trans k2) (hv.same k2 (st.fr.wl.same k1)) hd hp (RE.same q' (k1.trans k2))
theorem Rq{K:Frag}{W:WS}{H:Hp}{l:List (Ab×D)}{kvs:List (Ab×V)}(h:HasP K W H l kvs)(k:Ab):(Zb kvs k).isSome=(Zb l k).isSome:=by
 rw[<-Fl,<-Fl,h.has k]
theorem XJ{H:Hp}{W:WS}{d:D}{l:List (Ab×D)}{v:V}{ad:Addr}{kvs:List (Ab×V)}{Q:VK}(hv:HasT X.K W H d v)(hd:Rd H ad (.dK kvs))(hp:HasP X.K W H l kvs)(q:RE X.K xw W H (NA d l) Q):
  ∃ ad' kvs' k,V.ref ad=.ref ad'/\Rd H ad' (.dK kvs')/\v=kV k/\Q (.bl (Zb kvs' k).isSome) H:=by
 unfold NA at q
 split at q
 .rename_i k hk
  exact⟨ad,kvs,k,rfl,hd,Kh hv hk,by rw[Rq hp k];exact q.bl⟩
 .exact q.elim
theorem AF{H:Hp}{W:WS}{d:D}{l:List (Ab×D)}{v:V}{ad:Addr}{kvs:List (Ab×V)}{Q:VK}(hv:HasT X.K W H d v)(hd:Rd H ad (.dK kvs))(hp:HasP X.K W H l kvs)(q:RE X.K xw W H (Lq d l) Q):
  ∃ ad' kvs' k,V.ref ad=.ref ad'/\Rd H ad' (.dK kvs')/\v=kV k/\Q (.bl (!(Zb kvs' k).isSome)) H:=by
 unfold Lq at q
 split at q
 .rename_i k hk
  exact⟨ad,kvs,k,rfl,hd,Kh hv hk,by rw[Rq hp k];exact q.bl⟩
 .exact q.elim
theorem TX(ha:XP X xw a fa)(hb:XQ X xw b fq)(hm:behindInMarks .In b=false:=by rfl):XT X xw (.Compare a [.In] [b] pos) (tR (NC NA fa fq)):=
 ⟨DE.t_of (f:=NC NA fa fq) (PT.weak (Bn GR ha.h hb.h hm) λσ H Q ⟨W₀,H₀,W,δ,st,q⟩=>Ku st q λH2 d l v ad kvs k hv hd hp q2=>XJ hv hd hp q2)⟩
theorem CU(ha:XP X xw a fa)(hb:XQ X xw b fq)(hm:behindInMarks .NotIn b=false:=by rfl):XT X xw (.Compare a [.NotIn] [b] pos) (tR (NC Lq fa fq)):=
 ⟨DE.t_of (f:=NC Lq fa fq) (PT.weak (Bn UK ha.h hb.h hm) λσ H Q ⟨W₀,H₀,W,δ,st,q⟩=>Ku st q λH2 d l v ad kvs k hv hd hp q2=>AF hv hd hp q2)⟩
end
structure FunD(K:Frag)(x qual:Str)(st:Stmt)(f:Addr)(fd:FuncData)(dV:Value):Prop where
 ex:∃ (oc:Value) (od:Option Addr) (kV doc pm:Value) (an:Option Addr) (cdv ct:Value) (osl:Array (Option Value)),
  fd=fnOf x qual (Gb st) (Bb st) (Ca st) dV kV doc pm an cdv ct/\K.lookup f=some ⟨oc,od,.func fd,osl⟩/\codeIn K cdv qual=true
 kp:keepIn K (.ref f)=true
section
variable {P:Program}{w:World}{K:Frag}{mg:Str->Option Value}{base:Heap}
end
section
variable {X:Cx}{xw:XW}{a b:Expr}{fa fb:Ba->Res D}{pos p:Pos}
end
structure FnL(P:Program)(w:World)(K:Frag)(mg:Str->Option Value)(base:Heap)(k:Nat)(x:Str)(n:Nat)(m:List D->Res D)(i:Int):Prop where
 ex:∃ (fa:Addr) (fd:FuncData) (ps:List Str) (v0:Value),FnOk P w K mg base Qm k fa fd ps (ET K n m)/\mg x=some (.ref fa)/\keepIn K (.ref fa)=true/\Binds K fd ps [v0]/\RelV (.int i) v0
end L3
namespace PySem
open Sem (wp)
def D2(o o':Obj):Prop:=o'.dict=o.dict/\∀ vs,o.data=.fields vs->∃ vs',o'.data=.fields vs'/\vs'[2]? =vs[2]?
theorem D2.refl(o:Obj):D2 o o:=⟨rfl,λvs e=>⟨vs,e,rfl⟩⟩
theorem D2.trans{a b c:Obj}(x:D2 a b)(y:D2 b c):D2 a c:=⟨y.1.trans x.1,λvs e=>by
 obtain⟨v1,e1,q1⟩:=x.2 vs e
 obtain⟨v2,e2,q2⟩:=y.2 v1 e1
 exact⟨v2,e2,q2.trans q1⟩⟩
def DK(h h':Heap):Prop:=∀ b o,h.get? b=some o->∃ o',h'.get? b=some o'/\D2 o o'
theorem DK.refl(h:Heap):DK h h:=λ_ o e=>⟨o,e,D2.refl o⟩
theorem DK.trans{h1 h2 h3:Heap}(x:DK h1 h2)(y:DK h2 h3):DK h1 h3:=λb o e=>
 let ⟨o1,e1,d1⟩:=x b o e
 let ⟨o2,e2,d2⟩:=y b o1 e1
 ⟨o2,e2,d1.trans d2⟩
theorem DK.push(h:Heap)(o:Obj):DK h (h.push o):=λb u e=>⟨u,get?_push_of_some o e,D2.refl u⟩
theorem DK.upd(h:Heap)(a:Addr)(f:Obj->Obj)(hd:∀ o,h.get? a=some o->D2 o (f o))(hf:∀ o,h.get? a=some o->(f o).isFreed=false):DK h (h.update a f):=λb u e=>by
 by_cases hb:a=b
 .subst hb
  exact⟨f u,Heap.get?_update_self f e (hf u e),hd u e⟩
 .exact⟨u,(Heap.get?_update_other h f hb).trans e,D2.refl u⟩
structure KeepD{α:Type}(t:Sem α):Prop where
 out:∀ (M:Model) (Γ:Ctx) (P:α->Pos->Shared->Prop) (Ee:Value->Pos->Shared->Prop) (p:Pos) (s:Shared),wp M Γ t P Ee p s->wp M Γ t (λa p' s'=>P a p' s'/\DK s.heap s'.heap) Ee p s
namespace KeepD
variable {α β:Type}
theorem now(a:α):KeepD (Pure.pure a:Sem α):=⟨λ_ _ _ _ _ _ h=>⟨h,DK.refl _⟩⟩
theorem off(w:String):KeepD (PySem.unsupported w:Sem α):=⟨λ_ _ _ _ _ _ h=>h⟩
theorem seq{m:Sem α}{f:α->Sem β}(hm:KeepD m)(hf:∀ a,KeepD (f a)):KeepD (m >>= f):=⟨λM Γ P Ee p s h=>by
 rw[Sem.wp_bind']at h ⊢
 refine Sem.wp_mono M Γ m (λa p1 s1 h1=>?_) (λ_ _ _ x=>x) p s (hm.out M Γ _ Ee p s h)
 exact Sem.wp_mono M Γ (f a) (λb p2 s2 h2=>⟨h2.1,h1.2.trans h2.2⟩) (λ_ _ _ x=>x) p1 s1 ((hf a).out M Γ P Ee p1 s1 h1.1)⟩
theorem cond{c:Prop}[Decidable c]{t u:Sem α}(ht:KeepD t)(hu:KeepD u):KeepD (if c then t else u):=by split<;>assumption
theorem ld(a:Addr):KeepD (PySem.load a):=⟨λM Γ P Ee p s h=>by
 unfold PySem.load at h ⊢
 rw[Sem.wp_load]at h ⊢
 obtain⟨o,e,q⟩:=h
 rw[Sem.wp_pure]at q
 exact⟨o,e,by rw[Sem.wp_pure];exact⟨q,DK.refl _⟩⟩⟩
theorem up(a:Addr)(f:Obj->Obj)(hd:∀ o,(f o).dict=o.dict)(he:∀ o,(f o).data=o.data):KeepD (PySem.update a f):=⟨λM Γ P Ee p s h=>by
 unfold PySem.update at h ⊢
 rw[Sem.wp_update]at h ⊢
 obtain⟨e,q⟩:=h
 rw[Sem.wp_pure]at q
 refine⟨e,?_⟩
 rw[Sem.wp_pure]
 refine⟨q,DK.upd _ _ _ (λo _=>⟨hd o,λvs e=>⟨vs,(he o).trans e,rfl⟩⟩) λo ho=>?_⟩
 have al:=((Heap.get?_eq_some _ _ _).1 ho).2
 have h1:=he o
 revert h1
 generalize f o=u
 intro h1
 obtain⟨c1,d1,t1,s1⟩:=u
 obtain⟨c2,d2,t2,s2⟩:=o
 dsimp only at h1
 subst h1
 cases t1<;>first|rfl|cases al⟩
theorem stk:KeepD PySem.stack:=⟨λM Γ P Ee p s h=>by
 unfold PySem.stack at h ⊢
 rw[Sem.wp_stack]at h ⊢
 rw[Sem.wp_pure]at h ⊢
 exact⟨h,DK.refl _⟩⟩
theorem new(o:Obj):KeepD (PySem.alloc o):=⟨λM Γ P Ee p s h=>by
 unfold PySem.alloc at h ⊢
 rw[Sem.wp_alloc,Sem.wp_pure]at h ⊢
 exact⟨h,DK.push _ _⟩⟩
theorem fld(v:Value)(i:Nat):KeepD (PySem.field v i):=⟨λM Γ P Ee p s h=>by
 rw[wp_field_iff]at h ⊢
 obtain⟨a,o,vs,x,e1,e2,e3,e4,q⟩:=h
 exact⟨a,o,vs,x,e1,e2,e3,e4,q,DK.refl _⟩⟩
theorem put(v:Value)(i:Nat)(x:Value)(hi:i≠2):KeepD (PySem.setField v i x):=⟨λM Γ P Ee p s h=>by
 rw[wp_setField_iff]at h ⊢
 obtain⟨a,o,vs,e1,e2,e3,e4,q⟩:=h
 refine⟨a,o,vs,e1,e2,e3,e4,q,DK.upd _ _ _ (λu hu=>⟨?_,λws ew=>⟨_,Obj.data_mapFields ew _,?_⟩⟩) λu hu=>?_⟩
 .unfold Obj.mapFields;split<;>rfl
 .exact Array.getElem?_setIfInBounds_ne hi
 .rw[e2]at hu;cases hu
  exact Obj.isFreed_of_fields (Obj.data_mapFields e3 _)⟩
end KeepD
local macro_rules| `(tactic| walk_at "keepd")=> `(tactic| repeat' with_reducible first
  |assumption
  |exact KeepD.now _
  |exact KeepD.off _
  |exact KeepD.fld _ _
  |exact KeepD.put _ _ _ (by decide)
  |exact KeepD.ld _
  |exact KeepD.stk
  |exact KeepD.new _
  |exact KeepD.up _ _ (λ_=>rfl) (λ_=>rfl)
  |apply KeepD.cond
  |apply KeepD.seq
  |intro _
  |split)
end PySem
namespace L3
open PySem PySem.Spec PyProof.Rows L2 SeqAt
def OY(dx:Dx)(o:Obj):Prop:=o.dict=dx.1/\(dx.2=true->∃ vs,o.data=.fields vs/\vs[2]? =some .none)
structure Fly(P:Program)(w:World)(l:List Env)(H:Hp)(s:Shared)(H':Hp)(a:Addr)(cls:Value)(dx:Dx)(h:Heap):Prop where
 un:Un (Uw l) [] H H' s.heap h
 hok:HOk P w H' h
 frf:∀ b∈Uw l,H' b=none
 new:s.heap.get? a=none
 nh:H' a=none
 dc:∃ o,h.get? a=some o/\OY dx o
 fl:∃ B a0,Heap.FlyingW B l a cls a0 h/\∀ b,b∉Uw l->((H' b).isSome=true\/(s.heap.get? b).isSome=true)->(B.get? b).isSome=true
section
variable {P:Program}{w:World}{l:List Env}{H H':Hp}{s:Shared}{a:Addr}{cls a0:Value}{h h' B:Heap}
end
def LY(P:Program)(w:World):Dw:=λl H s E e s'=>∃ a cls dx H',e=.ref a/\s'.os=s.os/\AllBare s'.gens/\Fly P w l H s H' a cls dx s'.heap/\E cls dx H'
section
variable {X:Cx}{pins:List (Addr×Obj)}{σ:L2.St}{H H':Hp}{s s':Shared}{a:Addr}{cls:Value}{dx:Dx}{M:Model}{Ex:Value->Shared->Prop}
end
def U1(K:Frag)(n:Nat)(m:List D->Res D):Sp:=λvs H Q E=>vs.length=n/\∃ W ds,WL W H/\HasL K W H ds vs/\match m ds with
 | .ok d=>∀ v H',Same H H'->Has K W H' d v->Q v H'
 | .ex c fs=>∀ cls dx H',nsIn K mainGlobals c=some (some cls)->Same H H'->ExF H' dx fs->E cls dx H'
 | .stuck=>False
structure FnX(P:Program)(w:World)(K:Frag)(mg:Str->Option Value)(base:Heap)(k:Nat)(x:Str)(n:Nat)(m:List D->Res D):Prop where
 ex:∃ f fd ps,FnOk P w K mg base (LY P w) k f fd ps (U1 K n m)/\mg x=some (.ref f)/\keepIn K (.ref f)=true/\Binds K fd ps []
structure FnXL(P:Program)(w:World)(K:Frag)(mg:Str->Option Value)(base:Heap)(k:Nat)(x:Str)(n:Nat)(m:List D->Res D)(i:Int):Prop where
 ex:∃ (fa:Addr) (fd:FuncData) (ps:List Str) (v0:Value),FnOk P w K mg base (LY P w) k fa fd ps (U1 K n m)/\mg x=some (.ref fa)/\keepIn K (.ref fa)=true/\Binds K fd ps [v0]/\RelV (.int i) v0
def QW(n:Nat)(g:Ba->Out)(ds:List D):Res D:=match g (Sa n ds) with
 | .rt d=>.ok d
 | .nx _=>.ok .non
 | .ex c fs=>.ex c fs
 |_=>.stuck
section
variable {P:Program}{w:World}{K:Frag}{mg:Str->Option Value}{base:Heap}
end
def BF:Out->Out
 | .ex _ _=>.stuck
 |o=>o
section
variable {X:Cx}{xw:XW}{e a:Expr}{es:List Expr}{f:Ba->Res D}{ga:Ba->Res Bool}{fs:Ba->Res (List D)}{pos p:Pos}{st:Stmt}{sts:List Stmt}{g:Ba->Out}
def VZ(f:Ba->Res (List D)):Ba->Res (List D):=λδ=>noex (f δ)
def WZ(f:Ba->Res Bool):Ba->Res Bool:=λδ=>noex (f δ)
def XZ(g:Ba->Out):Ba->Out:=λδ=>BF (g δ)
end
abbrev G2:List Value:= [.type "ValueError",.type "Exception",.type "BaseException",.type "object"]
structure ClsX(K:Frag)(c:Str):Prop where
 ex:∃ C,nsIn K mainGlobals c=some (some (.ref C))/\PySem.W.excIn K C G2 "ValueError.__new__"=true
def QS(c:Str)(fs:Ba->Res (List D)):Ba->Out:=λδ=>Ul (fs δ) λds=>if ds.length=1 then .ex c [] else .stuck
section
variable {X:Cx}{xw:XW}{a:Expr}{es:List Expr}{fs:Ba->Res (List D)}{pos np cpos:Pos}{c:Str}
end
abbrev NX(X:Cx)(pins:List (Addr×Obj))(E:Value->Shared->Prop):Cx:= {X with pn:=X.pn++pins,xe:=E}
section
variable {X:Cx}{pins:List (Addr×Obj)}{σ:L2.St}{H H':Hp}{s s':Shared}{a:Addr}{cls:Value}{dx:Dx}{Ex:Value->Shared->Prop}
end
structure MatchX(K:Frag)(C c:Str):Prop where
 ex:∃ vc vC,nsIn K mainGlobals c=some (some vc)/\nsIn K mainGlobals C=some (some vC)/\PySem.W.exmOne K vc vC=some true
section
variable {X:Cx}{pins:List (Addr×Obj)}{σ:L2.St}{H H':Hp}{s s':Shared}{a:Addr}{cls vC:Value}{dx:Dx}{Ex:Value->Shared->Prop}{C n:Str}{np pos:Pos}{b₀:Stmt}{suite:List Stmt}{rest:List ExceptHandler}{Q:Flow->Shared->Prop}
end
section
variable {X:Cx}{CX:Dw}{k:Nat}{f:Addr}{fd:FuncData}{ps:List Str}{sp:Sp}{dvs:List V}{ds:List Value}{E:L2.St->XK}{x:Str}{p pos:Pos}{e:Expr}{es:List Expr}{t:TA}
end
structure KindX(X:Cx)(e:Expr)(st:Stmt)(gK:D->Ba->Out):Prop where
 ex:∃ cont:Ends->L2.St->VK,(∀ (pins:List (Addr×Obj)) (Ex:Value->Shared->Prop) (te:TE),PE (NX X pins Ex) e te->PS (NX X pins Ex) st (λDn σ H=>te σ H (cont Dn σ)))/\
  ∀ (xw:XW) (W₀:WS) (H₀:Hp) (W:WS) (H:Hp) (d:D) (v:V) (σ:L2.St) (δ:Ba) (Dn:Ends),StHas X.K W₀ H₀ W H σ δ->Has X.K W H d v->RS X.K xw W₀ H₀ W H (gK d δ) Dn->cont Dn σ v H
section
variable {X:Cx}{e:Expr}{pos:Pos}
end
section
variable {X:Cx}{xw:XW}{a:Expr}{es:List Expr}{fs:Ba->Res (List D)}{p pos cpos hpos tpos np:Pos}{st b₀:Stmt}{suite orelse:List Stmt}{k nn:Nat}{x C n:Str}{m:List D->Res D}{gK:D->Ba->Out}{go gsu:Ba->Out}
def AZ(X:Cx)(orelse:List Stmt)(pins:List (Addr×Obj))(Dn:Ends):Flow->Shared->Prop:=λf s₁=>match f with| .next=>wpAny (model X.prog X.w) X.A (execs orelse X.env) (SP X pins Dn) X.xe s₁|f=>SP X pins Dn f s₁
def ZY(X:Cx)(hd:ExceptHandler)(pins:List (Addr×Obj))(Dn:Ends):Value->Shared->Prop:=λe s₁=>wpAny (model X.prog X.w) X.A (noteFrame e X.env) (λ_ s₂=>wpAny (model X.prog X.w) X.A (setFlight e none) (λ_ s₃=>wpAny (model X.prog X.w) X.A (handleBy e X.env [hd]) (SP X pins Dn) X.xe s₃) X.xe s₂) X.xe s₁
def RU(X:Cx)(hd:ExceptHandler)(orelse:List Stmt)(pins:List (Addr×Obj))(Dn:Ends)(sts:List Stmt)(s:Shared):Prop:=wpAny (model X.prog X.w) X.A (execs sts X.env) (AZ X orelse pins Dn) (ZY X hd pins Dn) s
structure XB(X:Cx)(xw:XW)(hd:ExceptHandler)(orelse sts:List Stmt)(g:Ba->Out):Prop where
 h:∀ (pins:List (Addr×Obj)) (s:Shared) (σ:L2.St) (H:Hp) (Dn:Ends),Inv X pins σ H s->IT X.K xw g Dn σ H->RU X hd orelse pins Dn sts s
end
section
variable {X:Cx}{xw:XW}{a:Expr}{es:List Expr}{fs:Ba->Res (List D)}{p pos cpos hpos tpos np:Pos}{st b₀:Stmt}{suite orelse:List Stmt}{k nn:Nat}{x C n:Str}{m:List D->Res D}{gK:D->Ba->Out}{go gsu:Ba->Out}
end
end L3
namespace L3
open PySem PySem.Spec PySem.Calls PyProof.Rows PySem.W Builtin Builtin.ObjectAttr Builtin.Getset_descriptor
structure ExcK(K:Frag)(C:Addr):Prop where
 ga:findIn K (.ref C) "__getattribute__"=some (some (.builtin "BaseException.__getattribute__"))
 gt:findIn K (.ref C) "__getattr__"=some none
 cl:findIn K (.ref C) "__class__"=some (some (.builtin "object.__class__"))
 ob:mroIn K C (.type "object")=some true
 be:mroIn K C (.type "BaseException")=some true
section
variable {prog:Program}{w:World}{A:Around}{E:Value->Shared->Prop}{h:Heap}{g:Array GenState}{d:Drawn}{t:Nat}{os:OsState}{K:Frag}{a C:Addr}{o:Obj}
end
end L3
namespace L3
open PySem PySem.Spec PyProof.Rows L2 SeqAt
section
variable {X:Cx}{xw:XW}{a:Expr}{es:List Expr}{fa:Ba->Res D}{fs:Ba->Res (List D)}{pos p p2:Pos}{c:Str}
inductive IsC(K:Frag)(mg:Str->Option Value):Str->V->Prop
 |own {c:Str} {C:Addr}:mg c=some (.ref C)->IsC K mg c (.ref C)
 |blt {c:Str} {T:String}:mg c=none->bootBuiltins c=some (.type T)->c≠"__name__"->IsC K mg c (.ty T)
structure XC(X:Cx)(e:Expr)(v:V):Prop where
 h:PE X e (tC v)
structure XCs(X:Cx)(es:List Expr)(vs:List V):Prop where
 h:PA X es (λ_ H Q=>Q vs H)
def QX:V->Value
 | .ref a=>.ref a
 | .ty T=>.type T
 |_=>.none
structure IsiX(K:Frag)(tb:List (Str×Bool))(vs:List V):Prop where
 cls:∀ v∈vs,(∃ a,v=.ref a)\/∃ T,v=.ty T
 ok:∀ c b,tb.lookup c=some b->∃ C,nsIn K mainGlobals c=some (some (.ref C))/\ExcK K C/\PySem.W.kitAny K (.ref C) (vs.map QX)=some b
end
section
variable {X:Cx}{xw:XW}{a b c tg:Expr}{pos p:Pos}
end
def Hi{α:Type}(xs:List α)(lo st:Option Int):List α:=(sliceRange (sliceBounds lo none st xs.length).1 (sliceBounds lo none st xs.length).2.1 (sliceBounds lo none st xs.length).2.2).filterMap (xs[·]?)
theorem Ys{xs:List V}{us:List Value}(r:Vals xs us):∀ l:List Nat,Vals (l.filterMap (xs[·]?)) (l.filterMap (us[·]?))
 | []=>.nil
 |i::l=>by
  rw[filterMap_cons,filterMap_cons]
  have g:∀ {xs:List V} {us:List Value},Vals xs us->∀ i:Nat,(xs[i]? =none/\us[i]? =none)\/∃ x u,xs[i]? =some x/\us[i]? =some u/\RelV x u:=by
   intro xs us r
   induction r with
   |nil=>intro i;exact .inl ⟨rfl,rfl⟩
   |cons h r ih=>
    intro i
    cases i with
    |zero=>exact .inr ⟨_,_,rfl,rfl,h⟩
    |succ i=>simpa using ih i
  rcases g r i with⟨e1,e2⟩|⟨x,u,e1,e2,h⟩
  .rw[e1,e2];exact Ys r l
  .rw[e1,e2];exact .cons h (Ys r l)
theorem Sr{K:Frag}{W:WS}{H:Hp}{ds:List D}{xs:List V}(r:HasL K W H ds xs):∀ l:List Nat,HasL K W H (l.filterMap (ds[·]?)) (l.filterMap (xs[·]?))
 | []=>HasL.nil
 |i::l=>by
  rw[filterMap_cons,filterMap_cons]
  have g:∀ {ds:List D} {xs:List V},HasL K W H ds xs->∀ i:Nat,(ds[i]? =none/\xs[i]? =none)\/∃ d x,ds[i]? =some d/\xs[i]? =some x/\Has K W H d x:=by
   intro ds
   induction ds with
   |nil=>intro xs r i;rw[HasL]at r;subst r;exact .inl ⟨rfl,rfl⟩
   |cons d ds ih=>
    intro xs r i
    rw[HasL]at r
    obtain⟨v,r',rfl,hv,hr⟩:=r
    cases i with
    |zero=>exact .inr ⟨_,_,rfl,rfl,hv⟩
    |succ i=>simpa using ih hr i
  rcases g r i with⟨e1,e2⟩|⟨x,u,e1,e2,h⟩
  .rw[e1,e2];exact Sr r l
  .rw[e1,e2];exact HasL.cons h (Sr r l)
section
variable {X:Cx}{xw:XW}{a:Expr}{lo:Option Expr}{st:Expr}{fa:Ba->Res D}{fl fh:Ba->Res (Option Int)}{pos p2:Pos}
def HX(K:Frag)(te:TE)(tl th:TO):TE:=λσ H Q=>te σ H λx H1=>tl σ H1 λl H2=>th σ H2 λu H3=>∃ a xs,x=.ref a/\SqL K H3 a xs/\u≠some 0/\∀ p,H3 p=none->Q (.ref p) (Ib H3 p (.lst (Hi xs l u)))
theorem HL{te:TE}{tl th:TO}(he:PE X a te)(hl:PO X lo tl)(hu:PO X (some st) th):PE X (.Subscript a (.Slice lo none (some st) p2) pos) (HX X.K te tl th):=by
 intro pins s σ H Q I h
 refine Subscript_ (Yc (he pins s σ H _ I h) λv s1 ⟨x,H1,I1,r1,q1⟩=>?_)
 refine wpAny_Slice (Yc (hl pins s1 σ H1 _ I1 q1) λvl s2 ⟨l,H2,I2,pl,q2⟩=>?_)
 rw[evalPart_none]
 refine wpAny_pure (Yc (hu pins s2 σ H2 _ I2 q2) λvu s3 ⟨u,H3,I3,pu,q3⟩=>?_)
 obtain⟨b,xs,rfl,sq,h0,q⟩:=q3
 cases (show v=Value.ref b from r1)
 have I4:Inv X pins σ H3 {s3 with heap:=s3.heap.push {cls:=.type "slice",data:=.fields #[vl,.none,vu]}}:=I3.kept (t':=s3.toks) λb ob q=>get?_push_of_some _ q
 obtain⟨its,r,ht,hz⟩:=I4.list sq
 have hlen:=r.length
 show wpAny (model X.prog X.w) X.A (subscriptTail a (.Slice lo none (some st) p2) (.ref b) (.ref s3.heap.objs.size)) (EP X pins σ Q) X.xe {s3 with heap:=s3.heap.push {cls:=.type "slice",data:=.fields #[vl,.none,vu]}}
 refine tail_any (ops:= [.ref b,.ref s3.heap.objs.size]) ht.isList.typeIs slot_list_getitem.lookup ?_ (by with_unfolding_all rfl)
 refine wpAny_getItem_list_slice ht.isList (Heap.IsSliceOf.new ..) pl .none pu h0 ?_ (by rw[size_toArray]<;>omega)
 have hsz:=slicePick_size_le its.toArray l none u
 have e:slicePick its.toArray l none u=(Hi its l u).toArray:=by
  unfold slicePick Hi
  simp
 rw[e]at hsz ⊢
 have rr:Vals (Hi xs l u) (Hi its l u):=by
  unfold Hi
  rw[hlen]
  exact Ys r _
 exact⟨.ref _,_,I4.laid (t':=s3.toks) (o:=.lst (Hi xs l u)) (λb ob q=>get?_push_of_some _ q) (le_refl _) ⟨by rw[rr.length];simp at hsz;omega,_,0,rr,get?_push_size _ rfl⟩,rfl,q _ (I4.hok.fresh (le_refl _))⟩
def CY(d:D)(lo st:Option Int):Res (List D):=match d with
 | .lst ds=>if st=some 0 then .stuck else .ok (Hi ds lo st)
 |_=>.stuck
theorem JV(ha:XP X xw a fa)(hl:XO X xw lo fl)(hh:XO X xw (some st) fh):XF X xw (.Subscript a (.Slice lo none (some st) p2) pos) (b3 CY fa fl fh):=
 ⟨PE.weak (HL ha.h hl.h hh.h) λσ H Q ⟨W₀,H₀,W,δ,st,q⟩=>Hz (G:=λH r=>RF X.K xw W H r Q) st (λ_ _ _ q=>q) (λ_ q=>q) (λ_ _ _ k q=>RF.same q k) q λH2 d v l u k w hv q2=>by
  unfold CY at q2
  split at q2
  .split at q2
   .exact q2.elim
   .rename_i h0
    obtain⟨a1,xs,e1,sq,r⟩:=hv.lst
    refine⟨a1,xs,e1,sq,h0,λp hp=>q2 p _ H2 (Same.refl _) hp ?_⟩
    unfold Hi
    rw[r.length]
    exact Sr r _
  .exact q2.elim⟩
end
section
variable {X:Cx}{xw:XW}
def Vw(i:Nat)(δ:Ba):Ba:=match δ[i]? with
 |some (some (.o ds))=>δ.set i (some (.d (.lst ds)))
 |_=>δ
def Al(i:Nat)(g:Ba->Out):Ba->Out:=λδ=>g (Vw i δ)
theorem KA{i:Nat}{g:Ba->Out}{Dn:Ends}{σ:L2.St}{H:Hp}(h:IT X.K xw (Al i g) Dn σ H):IT X.K xw g Dn σ H:=by
 obtain⟨W₀,H₀,W,δ,st,q⟩:=h
 have q':RS X.K xw W₀ H₀ W H (g (Vw i δ)) Dn:=q
 unfold Vw at q'
 split at q'
 .rename_i ds h
  obtain⟨v,e,a,xs,r1,r2,r3,r4,r5⟩:=st.at' i _ h
  subst r1
  obtain⟨st2,hd⟩:=st.freeze h e
  exact⟨W₀,H₀,_,_,st2,RS.less (λb z=>z.1) q'⟩
 .exact⟨W₀,H₀,W,δ,st,q'⟩
theorem Ls(i:Nat){st:Stmt}{g:Ba->Out}(h:XS X xw st g):XS X xw st (Al i g):=⟨λpins s σ H Dn I q=>h.h pins s σ H Dn I (KA q)⟩
end
theorem LM{P:List Value->Prop}(h:∀ a0:Value,P [a0]):∀ us:List Value,us.length=1->P us
 | [a0],_=>h a0
theorem EC{P:List Value->Prop}(h:∀ a0 a1:Value,P [a0,a1]):∀ us:List Value,us.length=2->P us
 | [a0,a1],_=>h a0 a1
theorem M3{P:List Value->Prop}(h:∀ a0 a1 a2:Value,P [a0,a1,a2]):∀ us:List Value,us.length=3->P us
 | [a0,a1,a2],_=>h a0 a1 a2
theorem N3{P:List Value->Prop}(h:∀ a0 a1 a2 a3 a4:Value,P [a0,a1,a2,a3,a4]):∀ us:List Value,us.length=5->P us
 | [a0,a1,a2,a3,a4],_=>h a0 a1 a2 a3 a4
theorem Jv(f:Str)(v:V):∀ fs:List (Str×V),f∉fs.map (·.1)->Ki f v fs=fs++ [(f,v)]
 | [],_=>rfl
 |(g,x)::r,h=>by
  rw[map_cons]at h
  have h1:¬ g=f:=λz=>h (by rw[<-z];exact mem_cons_self)
  have h2:f∉r.map (·.1):=λz=>h (mem_cons_of_mem _ z)
  show(if g=f then(g,v)::r else(g,x)::Ki f v r)=_
  rw[if_neg h1,Jv f v r h2];rfl
section
variable {K:Frag}{W₀ W:WS}{H₀ H H':Hp}{σ:L2.St}{δ:Ba}
theorem StHas.poke{C dx x:Addr}{fl fl':List (Str×V)}(h:StHas K W₀ H₀ W H σ δ)(hW:W x)(h0:H₀ x=none)(hx:H x=some (.ins C dx fl))(no:∀ (j:Nat) (t:S) (v:V),δ[j]? =some (some t)->σ[j]? =some (some v)->¬ Owns H t v x):StHas K W₀ H₀ W (Ib H x (.ins C dx fl')) σ δ:=by
 have kk:Hh W H (Ib H x (.ins C dx fl')):=λb o e n=>by rw[Da (λz=>n (by rw[z];exact hW))];exact e
 have hw:∀ b,W b->W b\/H b=none:=λb z=>.inl z
 have bk:∀ (j:Nat) (s:S) (v:V) (b:Addr),δ[j]? =some (some s)->σ[j]? =some (some v)->Owns (Ib H x (.ins C dx fl')) s v b->Owns H s v b:=λj s v b e e' o=>by
  obtain⟨v',h1,h2⟩:=h.at' j s e
  rw[e']at h1;cases h1
  refine Owns.back h2 (λc o ec z y=>?_) o
  rcases y with⟨y,_⟩|⟨zs,y⟩
  .rw[Da (λq=>by rw[q]at y;exact no j s v e e' y)];exact z
  .rw[Da (λq=>by rw[q,hx]at z;cases z;cases y)];exact z
 refine⟨⟨λb o e=>by rw[Da (Ka e h0)];exact h.fr.ext _ _ e,h.fr.sub,⟨λb z=>?_,λq hq=>by rw[Da (h.fr.wl.noW hW hq)];exact h.fr.wl.tab q hq⟩,h.fr.wl0⟩,h.len,λi s e=>?_,λi j s t u v b ij e1 e2 e3 e4 o1 o2=>h.ap i j s t u v b ij e1 e2 e3 e4 (bk i s u b e1 e3 o1) (bk j t v b e2 e4 o2)⟩
 .by_cases hb:b=x
  .rw[hb];exact⟨_,Ra,trivial⟩
  .rw[Da hb];exact h.fr.wl b z
 .obtain⟨v,h1,h2⟩:=h.at' i s e
  exact⟨v,h1,h2.mv h.fr.wl kk hw λb o e1 h1' _ h3' _=>⟨h1',by rw[Da (λz=>by rw[z]at e1;exact no i s v e h1 e1)];exact h3'⟩⟩
theorem StHas.born{C dx x:Addr}(h:StHas K W₀ H₀ W H σ δ)(hx:H x=none)(hd:H dx=none)(ne:dx≠x):
  StHas K W₀ H₀ (λb=>W b\/b=x) (Ib (Ib H dx (.own x)) x (.ins C dx [])) σ δ:=by
 have sm:Same H (Ib (Ib H dx (.own x)) x (.ins C dx [])):=λb o e=>by rw[Da (Ka e hx),Da (Ka e hd)];exact e
 have hw:∀ b,(W b\/b=x)->W b\/H b=none:=λb z=>z.elim .inl λz=>.inr (by rw[z];exact hx)
 refine⟨⟨h.fr.ext.trans sm,λb z=>.inl (h.fr.sub b z),⟨λb z=>?_,(h.fr.wl.same sm).tab⟩,h.fr.wl0⟩,h.len,λi s e=>?_,(h.same sm).ap⟩
 .rcases z with z|z
  .exact h.fr.wl.same sm b z
  .rw[z];exact⟨_,Ra,trivial⟩
 .obtain⟨v,h1,h2⟩:=h.at' i s e
  exact⟨v,h1,h2.mv h.fr.wl (Same.keep sm) hw λb o _ h1' _ h3' _=>⟨.inl h1',sm _ _ h3'⟩⟩
theorem StHas.front{v:Option V}(h:StHas K W₀ H₀ W H σ δ):StHas K W₀ H₀ W H (v::σ) (none::δ):=by
 refine⟨h.fr,by simp[h.len],λi s e=>?_,λi j s t u v' a hij e1 e2 e3 e4 os ot=>?_⟩
 .cases i with
  |zero=>cases e
  |succ i=>exact h.at' i s e
 .cases i with
  |zero=>cases e1
  |succ i=>
   cases j with
   |zero=>cases e2
   |succ j=>exact h.ap i j s t u v' a (λz=>hij (by rw[z])) e1 e2 e3 e4 os ot
end
def Rj:List (Str×(Ba->Res D))->Ba->Res (List D)
 | [],_=>.ok []
 |p::r,δ=>(p.2 δ).bind λd=>(Rj r δ).bind λds=>.ok (d::ds)
def Iq(n:Nat)(c:Str)(fs:List (Str×(Ba->Res D)))(ds:List D):Res D:=(Rj fs (none::Sa n ds)).bind λes=>.ok (.obj c (fs.map (·.1)) es)
def RI(K:Frag)(W₀:WS)(H₀:Hp)(W:WS)(δ:Ba)(σ:L2.St)(C dx x:Addr)(ks:List Str)(ds:List D)(r:Res (List D))(Dn:Ends):Prop:=match r with
 | .ok es=>∀ H' fl',StHas K W₀ H₀ W H' σ δ->H' x=some (.ins C dx fl')->fl'.map (·.1)=ks->HasL K W H' (ds++es) (fl'.map (·.2))->Dn.nx σ H'
 |_=>False
def ZW(K:Frag)(C:Addr)(fs:List (Str×(Ba->Res D))):TS:=λDn σ H=>∃ W₀ H₀ W δ x dx fl ds,(StHas K W₀ H₀ W H σ δ/\∀ (j:Nat) (t:S) (v:V),δ[j]? =some (some t)->σ[j]? =some (some v)->¬ Owns H t v x)/\σ[0]? =some (some (.ref x))/\W x/\H₀ x=none/\H x=some (.ins C dx fl)/\
 HasL K W H ds (fl.map (·.2))/\(fl.map (·.1)++fs.map (·.1)).Nodup/\fl.length+fs.length<1000/\RI K W₀ H₀ W δ σ C dx x (fl.map (·.1)++fs.map (·.1)) ds (Rj fs δ) Dn
structure XIn(X:Cx)(C:Addr)(sts:List Stmt)(fs:List (Str×(Ba->Res D))):Prop where
 h:PSs X sts (ZW X.K C fs)
section
variable {X:Cx}{xw:XW}{C:Addr}{e a:Expr}{es:List Expr}{f fa fb:Ba->Res D}{fs:List (Str×(Ba->Res D))}{sts:List Stmt}{pos p p1 p2 p3:Pos}{fld c:Str}
theorem EQ:XIn X C [] []:=⟨PSs.weak Zy λDn σ H ⟨W₀,H₀,W,δ,x,dx,fl,ds,⟨st,_⟩,_,_,_,hx,hds,_,_,q⟩=>q H fl st hx (by simp) (by rw[append_nil];exact hds)⟩
theorem Um(cl:Cls X.K C)(hn:NoAttr X.K C fld)(he:XE X Vq e f)(hr:XIn X C sts fs){self:Str}(hN:X.N[0]? =some self:=by rfl)(hv:Bw X.env.scope self:=by first|exact Or.inl rfl|exact Or.inr (Or.inl rfl)|exact Or.inr (Or.inr rfl))(hd:(self==("__debug__":Str))=false:=by decide)(hcd:(self==("__classdict__":Str))=false:=by decide)(hs:swapsWith e (some (.Attribute (.Name self p1) fld p2)) pos.line X.env=pure false:=by rfl):
  XIn X C (.Assign [.Attribute (.Name self p1) fld p2] e pos::sts) ((fld,f)::fs):=⟨by
 refine PSs.weak (Iv (BS (Fh hN hv hd hcd) he.h hs) hr.h) λDn σ H ⟨W₀,H₀,W,δ,x,dx,fl,ds,⟨st,no⟩,e0,hW,h0,hx,hds,nd,ln,q⟩=>?_
 rw[List.length_cons]at ln
 show IN X.K Vq f σ H _
 refine⟨W₀,H₀,W,δ,st,?_⟩
 have eq1:Rj ((fld,f)::fs) δ=(f δ).bind λd=>(Rj fs δ).bind λds=>.ok (d::ds):=rfl
 rw[eq1]at q
 cases h1:f δ with
 |stuck=>rw[h1]at q;exact q.elim
 |ex c fs=>rw[h1]at q;exact q.elim
 |ok d=>
  rw[h1]at q
  intro v H1 k hv
  have hx1:=k _ _ hx
  have st1:=st.same k
  have no1:∀ (j:Nat) (t:S) (v:V),δ[j]? =some (some t)->σ[j]? =some (some v)->¬ Owns H1 t v x:=λj t v e e' o=>by
   obtain⟨v',h1,h2⟩:=st.at' j t e
   rw[e']at h1;cases h1
   exact no j t v e e' (Owns.back h2 (λc o _ z _=>k _ _ z) o)
  refine⟨.ref x,e0,x,C,dx,fl,rfl,hx1,cl,hn,by omega,?_⟩
  have hf:fld∉fl.map (·.1):=λz=>by
   rw[map_cons,nodup_append]at nd
   exact nd.2.2 _ z _ mem_cons_self rfl
  rw[Jv _ _ _ hf]
  have kk:Hh W H1 (Ib H1 x (.ins C dx (fl++ [(fld,v)]))):=λb o e n=>by rw[Da (λz=>n (by rw[z];exact hW))];exact e
  have ek:(fl++ [(fld,v)]).map (·.1)++fs.map (·.1)=fl.map (·.1)++((fld,f)::fs).map (·.1):=by simp
  refine⟨W₀,H₀,W,δ,x,dx,fl++ [(fld,v)],ds++ [d],⟨st1.poke hW h0 hx1 no1,λj t v e e' o=>by
   obtain⟨v',h1,h2⟩:=st1.at' j t e
   rw[e']at h1;cases h1
   refine no1 j t v e e' (Owns.back h2 (λc o _ z y=>?_) o)
   rcases y with⟨y,_⟩|⟨zs,y⟩
   .rw[Da (λq=>by rw[q]at y;exact no1 j t v e e' y)];exact z
   .rw[Da (λq=>by rw[q,hx1]at z;cases z;cases y)];exact z⟩,e0,hW,h0,Ra,?_,by rw[ek];exact nd,by rw[length_append,length_singleton];omega,?_⟩
  .rw[map_append]
   exact HasL.keep kk st1.fr.wl (λb z=>.inl z) ((hds.same k st.fr.wl).snoc hv)
  .rw[ek]
   cases h2:Rj fs δ with
   |stuck=>rw[h2]at q;exact q.elim
   |ex c gs=>rw[h2]at q;exact q.elim
   |ok es=>
    rw[h2]at q
    intro H' fl' g1 g2 g3 g4
    rw[append_assoc]at g4
    exact q H' fl' g1 g2 g3 g4⟩
end
def Y2(K:Frag)(C:Addr)(n:Nat)(nl:Nat)(c:Str)(fs:List (Str×(Ba->Res D))):Sp:=λvs H Q _=>∃ x dx vs' H1 W ds,vs=V.ref x::vs'/\vs'.length=n/\H=Ib (Ib H1 dx (.own x)) x (.ins C dx [])/\H1 x=none/\H1 dx=none/\dx≠x/\
 WL W H1/\HasL K W H1 ds vs'/\match Rj fs (none::Sa nl ds) with
  | .ok es=>∀ H' fl,Same H1 H'->H' x=some (.ins C dx fl)->fl.map (·.1)=fs.map (·.1)->HasL K W H' es (fl.map (·.2))->Q .non H'
  |_=>False
structure FnI(P:Program)(w:World)(K:Frag)(mg:Str->Option Value)(base:Heap)(k:Nat)(c:Str)(n nl:Nat)(fs:List (Str×(Ba->Res D))):Prop where
 ex:∃ j C f fd ps,j+1<=k/\FnOk P w K mg base Qm j f fd ps (Y2 K C n nl c fs)/\Mk K C f/\mg c=some (.ref C)/\nsIn K mainGlobals c=some (some (.ref C))/\Binds K fd ps []
theorem FnI.mono{P:Program}{w:World}{K:Frag}{mg:Str->Option Value}{base:Heap}{j k n nl:Nat}{c:Str}{fs:List (Str×(Ba->Res D))}(F:FnI P w K mg base j c n nl fs)(h:j<=k):FnI P w K mg base k c n nl fs:=by
 obtain⟨i,C,f,fd,ps,a,b⟩:=F.ex
 exact⟨i,C,f,fd,ps,le_trans a h,b⟩
theorem MJ{P:Program}{w:World}{K:Frag}{mg:Str->Option Value}{base:Heap}{k n nl:Nat}{c qual:Str}{st:Stmt}{C fa:Addr}{fd:FuncData}{N ps:List Str}{fs:List (Str×(Ba->Res D))}(F:Fun K "__init__" qual st fa fd)(S:FnScope N ps (Ca st))(M:Mk K C fa)(hm:mg c=some (.ref C))(hc:nsIn K mainGlobals c=some (some (.ref C)))(hb:Binds K fd ps [])(body:∀ (cdv:Value) (A:Around) (outer:List Env) (s:Shared) (H:Hp) (E:XK),Room k (A.deeper (envOfC qual (Ca st) s.heap.objs.size fa cdv))->
   XIn (Km Qm P w K mg base N qual (Ca st) fa cdv A outer s H E).nox C (Bb st) fs)(hps:ps.length=n+1:=by rfl)(hN:N.length=nl+1:=by rfl)(hnd:(fs.map (·.1)).Nodup:=by decide +kernel)(hl:fs.length<1000:=by decide):FnI P w K mg base (k+1+1) c n nl fs:=by
 refine⟨k+1,C,fa,fd,ps,le_refl _,F.ok S (λvs H Q E h=>?_) (λcdv A outer s H vs Q E hr h=>?_),M,hm,hc,hb⟩
 .obtain⟨x,dx,vs',H1,W,ds,rfl,h1,_⟩:=h
  rw[List.length_cons,h1,hps]
 .obtain⟨x,dx,vs',H1,W,ds,rfl,h1,rfl,hx,hdx,ne,wl,hd,q⟩:=h
  have s0:=Lj (N:=replicate nl ("":Str)) wl hd
  rw[length_replicate]at s0
  have es:L2.start N (V.ref x::vs')=some (V.ref x)::L2.start (replicate nl ("":Str)) vs':=by
   unfold L2.start
   rw[length_replicate,hN,List.length_cons,map_cons,cons_append,Nat.add_sub_add_right]
  refine⟨_,(body cdv A outer s _ E hr).h,W,H1,(λb=>W b\/b=x),none::Sa nl ds,x,dx,[],[],?_,by rw[es];rfl,.inr rfl,hx,Ra,HasL.nil,by simpa using hnd,by simpa using hl,?_⟩
  .rw[es]
   refine⟨(s0.born hx hdx ne).front,λj t v e _ o=>?_⟩
   cases j with
   |zero=>cases e
   |succ j=>
    have e:(Sa nl ds)[j]? =some (some t):=e
    unfold Sa at e
    rcases mem_append.mp (mem_of_getElem? e) with m|m
    .obtain⟨d,_,ed⟩:=mem_map.mp m
     cases ed
     exact o
    .have:=(List.mem_replicate.mp m).2
     cases this
  .cases h2:Rj fs (none::Sa nl ds) with
   |stuck=>rw[h2]at q;exact q.elim
   |ex c gs=>rw[h2]at q;exact q.elim
   |ok es=>
    rw[h2]at q
    exact λH' fl' st' g2 g3 g4=>q H' fl' st'.fr.ext g2 (by simpa using g3) (HasL.keep (λ_ _ e _=>e) st'.fr.wl (λb z=>.inl (.inl z)) (show HasL K (λb=>W b\/b=x) H' es (fl'.map (·.2)) from g4))
section
variable {X:Cx}{xw:XW}{e a b:Expr}{es:List Expr}{f fa fb:Ba->Res D}{gs:Ba->Res (List D)}{fs:List (Str×(Ba->Res D))}{pos p p1 p2 p3:Pos}{fld c:Str}
theorem AU{k n nl:Nat}(F:FnI X.prog X.w X.K X.mg X.base k c n nl fs)(hr:Room k X.A)(ha:XA X xw (a::es) gs)(hg:Gl X c:=by rfl)(hdb:(c==("__debug__":Str))=false:=by decide)(he:starEach (a::es) X.env=(false,eval a X.env)::starEach es X.env:=by rfl)(hpl:(backTo pos (starEach es X.env)).any (·.1)=false:=by rfl):
  XE X xw (.Call (.Name c p) (a::es) [] pos) (b1 (Ha n (Iq nl c fs)) gs):=⟨by
 obtain⟨j,C,fi,fd,ps,hj,G,M,hm,hn,hb⟩:=F.ex
 refine PE.weak (FL M G (hr.mono hj) hg hm hb .nil EN ha.h hdb he hpl) λσ H Q ⟨W₀,H₀,W,δ,st,q⟩=>?_
 refine Kl st q λH2 ds vs k w st2 hv _ q2=>?_
 unfold Ha at q2
 split at q2
 .rename_i hl
  intro x dx hx hdx ne
  rw[append_nil]
  refine⟨x,dx,vs,H2,W,ds,rfl,by rw[<-hv.length];exact hl,rfl,hx,hdx,ne,w,hv,?_⟩
  unfold Iq at q2
  cases h:Rj fs (none::Sa nl ds) with
  |stuck=>rw[h]at q2;exact q2.elim
  |ex c gs=>rw[h]at q2;exact q2.elim
  |ok es=>
   rw[h]at q2
   exact λH' fl k' g1 g2 g3=>⟨rfl,q2 _ _ k' (by
    rw[Has]
    exact⟨x,C,dx,fl,rfl,hn,g1,(λz=>by obtain⟨o,e,_⟩:=w x z;rw[hx]at e;cases e),g2,g3⟩)⟩
 .exact q2.elim⟩
def Ti(c fld:Str):D->Res D
 | .obj c' ks ds=>if c'=c then(match (ks.zip ds).lookup fld with|some d=>.ok d|none=>.stuck) else .stuck
 |_=>.stuck
structure FldK(K:Frag)(c fld:Str):Prop where
 ex:∃ C,nsIn K mainGlobals c=some (some (.ref C))/\Cls K C/\NoAttr K C fld
theorem Jy{K:Frag}{W:WS}{H:Hp}{g:Str}{d:D}:∀ {fl:List (Str×V)} {ds:List D},HasL K W H ds (fl.map (·.2))->((fl.map (·.1)).zip ds).lookup g=some d->∃ v,fl.lookup g=some v/\Has K W H d v
 | [],ds,_,e=>by simp at e
 |(k,v)::r,[],h,e=>by simp at e
 |(k,v)::r,d'::ds,h,e=>by
  rw[HasL]at h
  obtain⟨x,r',e1,h1,h2⟩:=h
  rw[map_cons]at e1
  cases e1
  rw[map_cons,List.zip_cons_cons,lookup_cons]at e
  rw[lookup_cons]
  cases hk:g==k with
  |true=>rw[hk]at e;cases e;exact⟨_,rfl,h1⟩
  |false=>rw[hk]at e;exact Jy h2 e
theorem Tq(T:FldK X.K c fld)(he:XE X xw e f)(hb:attributeBase e fld X.env (eval e X.env)=eval e X.env:=by rfl):XE X xw (.Attribute e fld pos) (b1 (Ti c fld) f):=
 ⟨PE.weak (QR he.h hb) λσ H Q ⟨W₀,H₀,W,δ,st,q⟩=>IB st q λH2 d v k w st2 hv _ q2=>by
  unfold Ti at q2
  cases d with
  |obj c' ks ds=>
   dsimp only at q2
   split at q2
   .rename_i hc
    subst hc
    split at q2
    .rename_i d' hd
     rw[Has]at hv
     obtain⟨ar,C,dx,fl,rfl,hn,hH,_,rfl,hL⟩:=hv
     obtain⟨C',hn',cl,na⟩:=T.ex
     rw[hn]at hn'
     cases hn'
     obtain⟨u,hu,hh⟩:=Jy hL hd
     exact⟨ar,C,dx,fl,u,rfl,hH,cl,na,hu,q2 u H2 (Same.refl _) hh⟩
    .exact q2.elim
   .exact q2.elim
  |_=>exact q2.elim⟩
def QY(w:World)(e:DictEntry)(p:Str×Str):Prop:=e.hash=LQ w (.inr p.1)/\(∃ t,e.key=.str p.1 t)/\∃ t,e.val=.str p.2 t
structure GlobQ(w:World)(K:Frag)(mg:Str->Option Value)(x:Str)(l:List (Str×Str)):Prop where
 h:∃ (ad:Addr) (o:Obj) (es:Array DictEntry) (n:Nat),mg x=some (.ref ad)/\K.lookup ad=some o/\o.ExactDict/\o.data=.dict es n/\Paired (QY w) es.toList l/\(l.map (·.1)).Nodup
end
section
variable {X:Cx}{xw:XW}{e a b:Expr}{f fa fb:Ba->Res D}{pos pos' p p1 p2 p3:Pos}
def Qq(j i:Nat):Ba->Out:=λδ=>match δ[i]? with
 |some (some (.o ds))=>match ds[ds.length-1]? with
  |some d=>.nx ((δ.set i (some (.o ds.dropLast))).set j (some (.d d)))
  |none=>.stuck
 |_=>.stuck
theorem HasL.dropLast{K:Frag}{W:WS}{H:Hp}{ds:List D}{xs:List V}(h:HasL K W H ds xs):HasL K W H ds.dropLast xs.dropLast:=by
 rw[List.dropLast_eq_take,List.dropLast_eq_take,h.length]
 exact HasL.take _ h
theorem ZS(j i:Nat){x y:Str}(hNd:X.N.Nodup)(hN:X.N[i]? =some x:=by rfl)(hNj:X.N[j]? =some y:=by rfl)(hv:Bw X.env.scope x:=by first|exact Or.inl rfl|exact Or.inr (Or.inl rfl)|exact Or.inr (Or.inr rfl))(hd:(x==("__debug__":Str))=false:=by decide)(hcd:(x==("__classdict__":Str))=false:=by decide)(hx:Ew X.env.scope y:=by first|exact Or.inl rfl|exact Or.inr rfl)(hbase:attributeBase (.Name x p1) "pop" X.env (eval (.Name x p1) X.env)=eval (.Name x p1) X.env:=by rfl)(hline:(p2.endLine==p3.line)=true:=by rfl)(hsw:swapsWith (.Call (.Attribute (.Name x p1) "pop" p2) [] [] p3) (some (.Name y pos')) pos.line X.env=pure false:=by rfl)(hf:X.fn y=true\/X.env.scope.names.lookup y=some .local:=by first|exact .inl rfl|exact .inr rfl|assumption):
  XS X xw (.Assign [.Name y pos'] (.Call (.Attribute (.Name x p1) "pop" p2) [] [] p3) pos) (Qq j i):=⟨
 PS.weak (Js hNd hNj hx (OR PySem.F.plainAttrs_list PySem.F.slot_list_pop PySem.F.type_list_pop YQ (Fh hN hv hd hcd) hbase hline) hsw hf) λDn σ H h=>by
  obtain⟨W₀,H₀,W,δ,st,q⟩:=h
  unfold Qq at q
  split at q
  .rename_i ds h
   split at q
   .rename_i d hd
    obtain⟨v,e1,a,xs,rfl,r2,r3,r4,r5⟩:=st.at' i _ h
    rw[r5.length]at hd
    obtain⟨u,hu,hh⟩:=r5.get hd
    have kk:Hh W H (Ib H a (.lst xs.dropLast)):=λb o e n=>by rw[Da (λz=>n (by rw[z];exact r2))];exact e
    have st2:=st.change h e1 r4 r2 r5.dropLast
    exact⟨_,e1,.inl ⟨rfl,xs,.of r4⟩,a,xs,u,rfl,rfl,r4,hu,q W _ _ ⟨kk,λ_ z=>.inl z⟩ (st2.set (Has.keep kk st.fr.wl (λb z=>.inl z) hh))⟩
   .exact q.elim
  .exact q.elim⟩
theorem Wr(l b:Addr)(xs ys:Array Value)(n m:Nat)(sl:Array (Option Value))(g0:¬(!xs.isEmpty&&Builtin.List.listTooLong (xs.size+ys.size))=true)(g1:xs.size<=sizeLine)(g2:xs.size+ys.size<=sizeLine+1):
  Meets (Builtin.«list.extend» ⟨[.ref l,.ref b],[]⟩) (λ_ R s=>s.heap.get? l=some {cls:=.type "list",data:=.seq xs n}/\s.heap.get? b=some {cls:=.type "list",data:=.seq ys m,slots:=sl}/\
   R (.ok (.ret .none)) {s with heap:=s.heap.update l (Obj.mapSeq (· ++ys))}):=
 .of_wp λ_ _ _ _ s h=>by
  obtain⟨h0,h1,h2,h3,h4⟩:=s
  obtain⟨el,eb,r⟩:=h
  have g3:(xs++ys).size<=sizeLine+1:=by rw[Array.size_append];exact g2
  wp_walk using (wpAny_updateSeq el rfl (hz:=g1) (_hz':=g3)),wpAny_loadPart' el,wpAny_loadPart' eb
  exact⟨_,rfl,r⟩
def JW(K:Frag):V->List V->Hp->VK->Prop:=λx vs H Q=>∃ l b xs zs,x=.ref l/\vs= [.ref b]/\H l=some (.lst xs)/\SqL K H b zs/\xs.length+zs.length<=sizeLine/\Q .non (Ib H l (.lst (xs++zs)))
theorem HK:NU X "list.extend" (JW X.K):=by
 intro pins s σ H x vs v us Q I rx rv h
 obtain⟨l,b,xs,zs,rfl,rfl,hH,hB,hz,q⟩:=h
 cases rx
 obtain⟨u,rfl,ru⟩:=rv.one
 cases ru
 obtain⟨z,its,n,r,hl,e⟩:=I.lstM hH
 obtain⟨its2,r2,⟨⟨cls2,dd2,data2,sl2⟩,n2,e2,hc2,hd2,hs2⟩,hz2⟩:=I.list hB
 simp only at hc2 hd2 hs2
 subst hc2 hd2 hs2
 have k1:=r.length
 have k2:=r2.length
 have hsz:its.toArray.size+its2.toArray.size<=sizeLine:=by rw[size_toArray,size_toArray];omega
 have hlong:¬ (!its.toArray.isEmpty&&Builtin.List.listTooLong (its.toArray.size+its2.toArray.size))=true:=by rw[GF hsz,Bool.and_false];exact Bool.false_ne_true
 refine call_meets F.slot_list_extend ⟨_,e,rfl⟩ F.entry_list_extend (F.args_list_extend_2 _ _) (Wr l b its.toArray its2.toArray n n2 sl2 hlong (by rw[size_toArray];omega) (by omega)) ⟨e,e2,?_⟩
 refine⟨.non,_,I.lset (its':=its++its2) hH e (by simp) (r.append r2) ?_,rfl,q⟩
 rw[length_append]
 omega
noncomputable def ID(i:Nat)(δ:Ba)(r:Res D):Out:=match δ[i]? with
 |some (some (.o ds))=>Ul r λx=>match x with
  | .lst es=>@ite Out (ds.length+es.length<=100000) (propDecidable _) (.nx (δ.set i (some (.o (ds++es))))) .stuck
  |_=>.stuck
 |_=>.stuck
noncomputable def Ov(i:Nat)(f:Ba->Res D):Ba->Out:=λδ=>ID i δ (f δ)
theorem US(i:Nat){x:Str}(he:XE X xw e f)(hN:X.N[i]? =some x:=by rfl)(hv:Bw X.env.scope x:=by first|exact Or.inl rfl|exact Or.inr (Or.inl rfl)|exact Or.inr (Or.inr rfl))(hd:(x==("__debug__":Str))=false:=by decide)(hcd:(x==("__classdict__":Str))=false:=by decide)(hsE:starEach [e] X.env=(false,eval e X.env)::starEach [] X.env:=by rfl)(hbase:attributeBase (.Name x p1) "extend" X.env (eval (.Name x p1) X.env)=eval (.Name x p1) X.env:=by rfl)(hfew:((backTo p3 (starEach [e] X.env)).all (λx=> !x.1)&&(backToKw p3 (keywordEach [] X.env)).all (λx=>x.1.isSome)
   &&decide (([e]:List Expr).length+([]:List Keyword).length+(if([]:List Keyword).isEmpty then 0 else 1)<30))=true:=by rfl)(hline:(p2.endLine==p3.line)=true:=by rfl)(hplain:(backTo p3 (starEach [] X.env)).any (·.1)=false:=by rfl)(hsw:swapsWith (.Call (.Attribute (.Name x p1) "extend" p2) [e] [] p3) none pos.line X.env=pure false:=by rfl):
  XS X xw (.Expr (.Call (.Attribute (.Name x p1) "extend" p2) [e] [] p3) pos) (Ov i f):=⟨
 PS.weak (Hs (FN PySem.F.plainAttrs_list PySem.F.slot_list_extend PySem.F.type_list_extend HK (Fh hN hv hd hcd) (Vg he.h Ck hsE) hbase hfew hline hsE hplain) hsw) λDn σ H h=>by
  obtain⟨W₀,H₀,W,δ,st,q⟩:=h
  unfold Ov ID at q
  split at q
  .rename_i ds h
   obtain⟨v,e1,a,xs,rfl,r2,r3,r4,r5⟩:=st.at' i _ h
   refine⟨_,e1,.inl ⟨rfl,xs,.of r4⟩,?_⟩
   refine Ph st q λH2 d u st2 hu q2=>?_
   cases d with
   |lst es=>
    dsimp only at q2
    split at q2
    .rename_i hlen
     obtain⟨v',e1',a',ys,e',r2',r3',r4',r5'⟩:=st2.at' i _ h
     rw[e1]at e1'
     cases e1'
     cases e'
     rw[Has]at hu
     obtain⟨b,zs,rfl,lr,hz⟩:=hu
     have sz:sizeLine=16777216:=sizeLine_eq
     refine⟨a,b,ys,zs,rfl,rfl,r4',lr.sq,?_,?_⟩
     .have:=r5'.length;have:=hz.length;omega
     .refine q2 W _ σ ⟨λc o e n=>?_,λ_ z=>.inl z⟩ (st2.change h e1 r4' r2' (r5'.append hz))
      rw[Da (λz=>n (by rw[z];exact r2'))];exact e
    .exact q2.elim
   |_=>exact q2.elim
  .exact q.elim⟩
def HN:V->List V->Hp->VK->Prop:=λx vs H Q=>∃ a kvs k d,x=.ref a/\vs= [kV k,d]/\Rd H a (.dK kvs)/\Q ((Zb kvs k).getD d) H
theorem IK:NU X "dict.get" HN:=by
 intro pins s σ H x vs v us Q I rx rv h
 obtain⟨a,kvs,k,d,rfl,rfl,hr,q⟩:=h
 cases rx
 cases rv with
 |cons ry rv=>
  obtain⟨u,rfl,ru⟩:=(show Vals [d] _ from rv).one
  obtain⟨_,hS,ws,rel,dd⟩:=Pq I.hok hr
  refine call_meetsIn PySem.F.slot_dict_get dd.typeIs PySem.F.entry_dict_get (PySem.F.args_dict_get_3 _ _ _) (meets_dict_get_default (Tc X.prog X.w) a (Yj ry) hS u) ⟨_,dd.mapOf,?_⟩
  refine⟨_,H,I.tok _,?_,q⟩
  obtain⟨g1,g2⟩:=Bo rel k
  cases h:Zb kvs k with
  |some z=>
   obtain⟨w',hw,rw'⟩:=g1 z h
   rw[hw];exact rw'
  |none=>rw[g2 h];exact ru
def Ky(l:List (Ab×D))(d e:D):Res D:=match Ou d with
 |some k=>.ok ((Zb l k).getD e)
 |none=>.stuck
def Tz(f:Ba->Res (List (Ab×D)))(g:Ba->Res (List D)):Ba->Res D:=λδ=>(f δ).bind λl=>(g δ).bind λds=>match ds with
 | [d,e]=>Ky l d e
 |_=>.stuck
theorem EL{o:Expr}{es:List Expr}{to:TE}{t:TA}{apos cpos:Pos}(ho:PE X o to)(ha:PA X (e::es) t)(hbase:attributeBase o "get" X.env (eval o X.env)=eval o X.env:=by rfl)(hfew:((backTo cpos (starEach (e::es) X.env)).all (λx=> !x.1)&&(backToKw cpos (keywordEach [] X.env)).all (λx=>x.1.isSome)
   &&decide ((e::es).length+([]:List Keyword).length+(if([]:List Keyword).isEmpty then 0 else 1)<30))=true:=by rfl)(hline:(apos.endLine==cpos.line)=true:=by rfl)(hs:starEach (e::es) X.env=(false,eval e X.env)::starEach es X.env:=by rfl)(hplain:(backTo cpos (starEach es X.env)).any (·.1)=false:=by rfl):
  PE X (.Call (.Attribute o "get" apos) (e::es) [] cpos) (λσ H Q=>to σ H λx H1=>(∃ a kvs,x=.ref a/\Rd H1 a (.dK kvs))/\t σ H1 λxs H2=>HN x xs H2 Q):=by
 intro pins s σ H Q I h
 refine wpAny_Call_method_late hbase hfew hline rfl (Yc (ho pins s σ H _ I h) λv s1 ⟨x,H1,I1,r1,ty,q1⟩=>?_)
 obtain⟨a,kvs,rfl,hr⟩:=ty
 have r2:=r1
 cases r2
 obtain⟨_,hS,ws,rel,dd⟩:=Pq I1.hok hr
 refine⟨"dict","dict.get",PySem.F.plainAttrs_dict,PySem.F.slot_dict_get,PySem.F.type_dict_get,dd.typeIs,dd.mapOf.noDict,?_⟩
 have hA:=ha cpos pins s1 σ H1 _ I1 q1
 rw[hs]at hA ⊢
 refine Calls.callWith_builtin (by show(false||(backTo cpos (starEach es X.env)).any (·.1))=false;rw[hplain]<;>rfl) (Calls.evalArgs_plain ?_)
 exact Yc hA λus s2 ⟨vs,H2,I2,r3,q2⟩=>IK pins s2 σ H2 _ vs _ us Q I2 r1 r3 q2
theorem ZT{es:List Expr}{apos cpos:Pos}{fq:Ba->Res (List (Ab×D))}{gs:Ba->Res (List D)}(ho:XQ X xw a fq)(ha:XA X xw (e::es) gs)(hbase:attributeBase a "get" X.env (eval a X.env)=eval a X.env:=by rfl)(hfew:((backTo cpos (starEach (e::es) X.env)).all (λx=> !x.1)&&(backToKw cpos (keywordEach [] X.env)).all (λx=>x.1.isSome)
   &&decide ((e::es).length+([]:List Keyword).length+(if([]:List Keyword).isEmpty then 0 else 1)<30))=true:=by rfl)(hline:(apos.endLine==cpos.line)=true:=by rfl)(hs:starEach (e::es) X.env=(false,eval e X.env)::starEach es X.env:=by rfl)(hplain:(backTo cpos (starEach es X.env)).any (·.1)=false:=by rfl):
  XE X xw (.Call (.Attribute a "get" apos) (e::es) [] cpos) (Tz fq gs):=⟨
 PE.weak (EL ho.h ha.h hbase hfew hline hs hplain) λσ H Q h=>by
  obtain⟨W₀,H₀,W,δ,st,q⟩:=h
  unfold Tz at q
  refine⟨W₀,H₀,W,δ,st,?_⟩
  cases h1:fq δ with
  |stuck=>rw[h1]at q;exact q
  |ex c fs=>rw[h1]at q;exact q
  |ok l=>
   rw[h1]at q
   intro ar kvs H1 k1 hr hp
   refine⟨⟨ar,kvs,rfl,hr⟩,W₀,H₀,W,δ,st.same k1,?_⟩
   simp only[Res.bind_ok]at q
   cases h2:gs δ with
   |stuck=>rw[h2]at q;exact q
   |ex c fs=>rw[h2]at q;exact λH2 k2=>q H2 (k1.trans k2)
   |ok ds=>
    rw[h2,Res.bind_ok]at q
    intro vs H2 k2 hvs
    split at q
    .rename_i d e'
     unfold Ky at q
     split at q
     .rename_i k hk
      rw[HasL]at hvs
      obtain⟨x1,r1,rfl,g1,hvs⟩:=hvs
      rw[HasL]at hvs
      obtain⟨x2,r2,rfl,g2,hvs⟩:=hvs
      rw[HasL]at hvs
      subst hvs
      have e1:=Kh g1.top hk
      have hp2:=hp.same k2 (st.same k1).fr.wl
      obtain⟨p1,p2⟩:=hp2.get k
      refine⟨ar,kvs,k,x2,rfl,by rw[e1],Rd.same hr k2,q _ H2 (k1.trans k2) ?_⟩
      cases hg:Zb l k with
      |some d'=>
       obtain⟨v,hv,hh⟩:=p1 d' hg
       rw[hv];exact hh
      |none=>rw[p2 hg];exact g2
     .exact q.elim
    .exact q.elim⟩
end
section
variable {X:Cx}{xw:XW}{e:Expr}{ff:Ba->Res (List D)}{pos:Pos}
end
section
variable {X:Cx}{xw:XW}{a b:Expr}{fa fb:Ba->Res D}{pos:Pos}
noncomputable def DB:D->D->Res D
 | .str x,.int n=>@ite (Res D) (0<=n/\n<=1000/\x.length<=1000) (propDecidable _) (.ok (.str (PySem.Txt.mul x n))) .stuck
 |_,_=>.stuck
theorem Hx{x:Str}:MulOk x 0:=by
 refine⟨?_,λ_ h=>?_,λh=>?_⟩<;>first|rfl|omega|simp_all|decide
theorem CH(ha:XP X xw a fa)(hb:XP X xw b fb):XE X xw (.BinOp a .Mult b pos) (b2 DB fa fb):=⟨by
 refine Xj TK (λW H d e v u Q w hv hu q=>?_) ha.h hb.h
 unfold DB at q
 split at q
 .split at q
  .rename_i n hj
   refine⟨_,_,hv.str,hu.int,?_,q.str⟩
   by_cases h:1<=n
   .exact Wu h hj.2.1 hj.2.2
   .have:n=0:=by omega
    rw[this];exact Hx
  .exact q.elim
 .exact q.elim⟩
end
end L3
namespace L2
open PySem PySem.Spec PyProof.Rows
variable {X:Cx}{pos:Pos}
end L2
namespace L3
open PySem PySem.Spec PyProof.Rows L2 SeqAt
variable {X:Cx}{pos:Pos}{tgs:List Expr}{ts:List D->Ba->Res Ba}
end L3
namespace PySem
open Sem (wp)
section
variable {prog:Program}{w:World}{A:Around}{E:Value->Shared->Prop}{h:Heap}{g:Array GenState}{d:Drawn}{t:Nat}{os:OsState}
variable {nm q:Str}{C N f:Addr}{bs bm bmB:List Value}{hdct:Bool}{sn:List Str}{sub:List Value}{ab:Bool}{col:Option Bool}{dd:Option Addr}{k0 k1 k2 k3 k5:Option Value}{B newId initId:String}
end
end PySem
namespace PySem
open Sem (wp)
open Builtin Builtin.ObjectAttr W
section
variable {prog:Program}{w:World}{A:Around}{E:Value->Shared->Prop}{h:Heap}{g:Array GenState}{d:Drawn}{t:Nat}{os:OsState}{K:Frag}
variable {nm q:Str}{C N e:Addr}{bs bm bmB:List Value}{hdct:Bool}{sn:List Str}{sub:List Value}{ab:Bool}{col:Option Bool}{dd:Option Addr}{k0 k1 k2 k3 k5:Option Value}{newId:String}
abbrev KN:List Value:= [.type "ValueError",.type "Exception",.type "BaseException",.type "object"]
def DN:Nat->List Value->Bool
 |0,l=>l==KN
 |n+1,.ref _::r=>DN n r
 |_+1,_=>false
end
end PySem
namespace PySem
open Sem (wp)
open W
section
variable {prog:Program}{w:World}{A:Around}{E:Value->Shared->Prop}{h:Heap}{g:Array GenState}{d:Drawn}{t:Nat}{os:OsState}
variable {nm q:Str}{C N e:Addr}{bs bm bmB:List Value}{hdct:Bool}{sn:List Str}{sub:List Value}{ab:Bool}{col:Option Bool}{dd:Option Addr}{k0 k1 k2 k3 k5:Option Value}{B newId initId:String}
end
end PySem
namespace L2
open PySem PySem.Spec PyProof.Rows
def Qz(a C:Addr)(h:Heap):Prop:=∃ t0 sl,h.get? a=some ⟨.ref C,none,.fields #[.ref t0,.none,.none,.none,.bool false,.none],sl⟩
def Rz(a C:Addr)(dx:Option Addr)(h:Heap):Prop:=∃ t0 sl,h.get? a=some ⟨.ref C,dx,.fields #[.ref t0,.none,.none,.none,.bool false,.none],sl⟩
structure XInit(K:Frag)(C S f:Addr):Prop where
 obj:∃ nm q N bs bm hdct sn sub ab col dd k0 k1 k2 k3 k5,K.lookup C=some (excClassObj nm q C N bs bm hdct sn sub ab col dd k0 k1 k2 k3 k5 "ValueError.__new__")/\PySem.W.nsOkIn K N=true/\
  nsIn K N "__init__"=some (some (.ref f))/\PySem.W.tailIn K KN bm=true
 ini:PySem.W.typeIn K (.ref f)=some (.type "function")
 kpC:keepIn K (.ref C)=true
 sa:findIn K (.ref C) "__setattr__"=some (some (.builtin "object.__setattr__"))
 ob:mroIn K C (.type "object")=some true
 cl:∃ cd n,PySem.W.clsIn K C=some cd/\DN n cd.mro=true/\cd.hasDict=true
 bga:specialIn K (.ref S) "__getattribute__"=some (some (.builtin "type.__getattribute__"))
 brd:PySem.W.readsIn K S (.type "type")=true
 bfi:PySem.W.findCls K (.ref S) (.type "type") "__init__"=some (.val (.builtin "ValueError.__init__"))
section
variable {X:Cx}{pos p apos p2:Pos}{a b o e:Expr}{es:List Expr}{ta tb to:TE}{t:TA}{C S f:Addr}
end
end L2
namespace L3
open PySem PySem.Spec PyProof.Rows L2 SeqAt
def V2(C:Addr)(attr:Str):Sp:=λvs H Q _=>∃ a i,vs= [.ref a,.int i]/\i.natAbs.log2<1920/\(toString i:Str).length<=1000/\H a=some (.ext (Qz a C))/\∀ d,H d=none->Q .non (Ib (Ib H a (.ext (Rz a C (some d)))) d (.xd [(attr,.int i)]))
structure XInE(X:Cx)(C:Addr)(attr:Str)(sts:List Stmt):Prop where
 h:PSs X sts (λD σ H=>∃ a i,σ[0]? =some (some (.ref a))/\σ[1]? =some (some (.int i))/\i.natAbs.log2<1920/\(toString i:Str).length<=1000/\H a=some (.ext (Qz a C))/\∀ d,H d=none->D.nx σ (Ib (Ib H a (.ext (Rz a C (some d)))) d (.xd [(attr,.int i)])))
section
variable {X:Cx}{C S f:Addr}{xb self x attr c0:Str}{p1 p2 p3 p4 p5 p6 p7 p8 p9 q1 q2 q3 q4:Pos}{j:Nat}
end
section
variable {X:Cx}{pins:List (Addr×Obj)}{σ:L2.St}{H:Hp}{s:Shared}{a C:Addr}{dx:Option Addr}{M:Model}{Ex:Value->Shared->Prop}
end
end L3
namespace PySem
open Sem (wp)
section
variable {M:Model}{A:Around}{E:Value->Shared->Prop}{s:Shared}{env:Env}
variable {nm q:Str}{C N:Addr}{bs bm:List Value}{hdct:Bool}{sn:List Str}{sub:List Value}{ab:Bool}{col:Option Bool}{dd:Option Addr}{k0 k1 k2 k3 k5:Option Value}{newId:String}
end
end PySem
namespace L2
open PySem PySem.Spec PyProof.Rows
section
variable {X:Cx}{C S f:Addr}{fd:FuncData}{ps:List Str}{sp:Sp}{k:Nat}{x:Str}{p pos:Pos}{e:Expr}{es:List Expr}{t:TA}
end
end L2
namespace L3
open PySem PySem.Spec PyProof.Rows L2 SeqAt
structure FnE(P:Program)(w:World)(K:Frag)(mg:Str->Option Value)(base:Heap)(k:Nat)(c attr:Str):Prop where
 ex:∃ j C S f fd ps,j+1<=k/\FnOk P w K mg base Qm j f fd ps (V2 C attr)/\XInit K C S f/\mg c=some (.ref C)/\nsIn K mainGlobals c=some (some (.ref C))/\Binds K fd ps []
section
variable {X:Cx}{xw:XW}{C S f:Addr}{fd:FuncData}{ps:List Str}{k:Nat}{x c attr:Str}{p pos np cpos:Pos}{e a:Expr}{es:List Expr}{t:TA}{fs:Ba->Res (List D)}
end
section
variable {X:Cx}{xw:XW}{tg it:Expr}{f:Ba->Res (List D)}
end
end L3
namespace L3
open PySem PySem.Spec PySem.Calls PyProof.Rows PySem.W Builtin Builtin.ObjectAttr Builtin.Getset_descriptor
section
variable {prog:Program}{w:World}{A:Around}{E:Value->Shared->Prop}{h:Heap}{g:Array GenState}{d:Drawn}{t:Nat}{os:OsState}{K:Frag}{a C:Addr}{o:Obj}{od:Option Obj}{name:Str}{v:Value}
end
end L3
namespace L3
open PySem PySem.Spec PyProof.Rows L2 SeqAt
structure FldX(K:Frag)(c attr:Str):Prop where
 ex:∃ C,nsIn K mainGlobals c=some (some (.ref C))/\ExcK K C/\hasDictIn K C=true/\findIn K (.ref C) attr=some none
section
variable {X:Cx}{xw:XW}{e:Expr}{f:Ba->Res D}{pos:Pos}{attr:Str}{ta:TE}
end
end L3
namespace PySem
open Sem (wp)
open Builtin Builtin.ObjectAttr W
section
variable {prog:Program}{w:World}{A:Around}{E:Value->Shared->Prop}{h:Heap}{g:Array GenState}{d:Drawn}{t:Nat}{os:OsState}{K:Frag}{C e dx:Addr}{m:Str->Option Value}{ns:List Str}
end
end PySem
namespace L2
open PySem PySem.Spec PyProof.Rows
def GC:V->Prop
 | .int i=>i.natAbs.log2<1920/\(toString i:Str).length<=1000
 | .str x=>(reprText x).length<=1000
 | .non=>True
 |_=>False
structure PJ(X:Cx)(parts:List Expr)(P:St->Prop)(b:Nat):Prop where
 h:∀ (pins:List (Addr×Obj)) (s:Shared) (σ:St) (H:Hp) (acc:Str) (Q:Value->Shared->Prop),Inv X pins σ H s->P σ->acc.length+b<=sizeLine->(∀ s' z tk,Inv X pins σ H s'->Q (.str z tk) s')->wpAny (model X.prog X.w) X.A (joinParts acc (evalEach parts X.env)) Q X.xe s
section
variable {X:Cx}{pos p:Pos}{parts:List Expr}{P:St->Prop}{b:Nat}
end
section
variable {X:Cx}{apos:Pos}{o:Expr}{to:TE}{C S f:Addr}
end
structure RoomH(k:Nat)(A:Around):Prop where
 dp:A.depth+3*k+5<recursionLimit
 un:A.units+16*k+200<cLine
 gd:A.guards=some []
structure FnOkH(P:Program)(w:World)(K:Frag)(mg:Str->Option Value)(base:Heap)(CX:Dw)(k:Nat)(f:Addr)(fd:FuncData)(ps:List Str)(sp:Sp):Prop where
 len:∀ vs H Q E,sp vs H Q E->vs.length=ps.length
 run:∀ (A:Around) (outer:List Env) (s:Shared) (H:Hp) (args:Args) (us:List Value) (vs:List V) (Q:VK) (E:XK),RoomH k A->Env0 P w K mg base A outer s H->BindsTo s fd args (ps.zip us)->Vals vs us->sp vs H Q E->
  codeAny (model P w) A (.call (.ref f) args) (CR CX outer P w H s Q E) s
section
variable {X:Cx}{C S f:Addr}{fd:FuncData}{ps:List Str}{sp:Sp}{k:Nat}
end
end L2
namespace L3
open PySem PySem.Spec PyProof.Rows L2 SeqAt
def PN:Bool->V->Prop
 |true,v=>∃ n,v=.int n/\GC (.int n)
 |false,v=>GC v
def SmallL:List (Str×Bool)->List V->Prop
 | [],[]=>True
 |k::ks,v::vs=>PN k.2 v/\SmallL ks vs
 |_,_=>False
def X2(C:Addr)(ks:List (Str×Bool)):Sp:=λvs H Q _=>∃ a xs,vs=.ref a::xs/\SmallL ks xs/\H a=some (.ext (Qz a C))/\∀ d,H d=none->Q .non (Ib (Ib H a (.ext (Rz a C (some d)))) d (.xd ((ks.map (·.1)).zip xs)))
theorem SmallL.length:∀ {ks:List (Str×Bool)} {xs:List V},SmallL ks xs->xs.length=ks.length
 | [],[],_=>rfl
 |_::_,_::_,h=>by rw[List.length_cons,List.length_cons,SmallL.length h.2]
 | [],_::_,h=>h.elim
 |_::_,[],h=>h.elim
structure XInG(X:Cx)(C:Addr)(ks:List (Str×Bool))(sts:List Stmt):Prop where
 h:PSs X sts (λD σ H=>∃ a xs,σ[0]? =some (some (.ref a))/\(∀ i v,xs[i]? =some v->σ[i+1]? =some (some v))/\SmallL ks xs/\H a=some (.ext (Qz a C))/\∀ d,H d=none->D.nx σ (Ib (Ib H a (.ext (Rz a C (some d)))) d (.xd ((ks.map (·.1)).zip xs))))
section
variable {X:Cx}{C S f:Addr}{xb self x y attr attr2:Str}{p1 p2 p3 p7 p8 p9 q1 q2 q3 q4 r1 r2 r3 r4:Pos}{v1 v2:Expr}{rest:List Expr}{P:L2.St->Prop}{b:Nat}{k k2:Bool}
end
structure FnG(P:Program)(w:World)(K:Frag)(mg:Str->Option Value)(base:Heap)(k:Nat)(c:Str)(ks:List (Str×Bool)):Prop where
 ex:∃ j C S f fd ps,j+1<=k/\FnOkH P w K mg base Qm j f fd ps (X2 C ks)/\XInit K C S f/\mg c=some (.ref C)/\nsIn K mainGlobals c=some (some (.ref C))/\Binds K fd ps []
section
variable {X:Cx}{xw:XW}{C S f:Addr}{fd:FuncData}{ps:List Str}{k:Nat}{x c:Str}{ks:List (Str×Bool)}{p pos np cpos:Pos}{e a:Expr}{es:List Expr}{t:TA}{fs:Ba->Res (List D)}
end
end L3
namespace PySem
open Sem (wp)
section
variable {prog:Program}{w:World}{A:Around}{E:Value->Shared->Prop}{s:Shared}{env:Env}
variable {nm q:Str}{C N:Addr}{bs bm:List Value}{hdct:Bool}{sn:List Str}{sub:List Value}{ab:Bool}{col:Option Bool}{dd:Option Addr}{k0 k1 k2 k3 k5:Option Value}{newId:String}
end
end PySem
namespace L3
open PySem PySem.Spec PyProof.Rows L2 SeqAt
section
variable {X:Cx}{pins:List (Addr×Obj)}{σ:L2.St}{H:Hp}{s s1:Shared}{b C:Addr}{cls a0:Value}{dx:Option Addr}{M:Model}{A:Around}{Ex:Value->Shared->Prop}{Q:Unit->Shared->Prop}
end
section
variable {X:Cx}{xw:XW}{pins:List (Addr×Obj)}{σ:L2.St}{H:Hp}{s:Shared}{ar:Addr}{Ex:Value->Shared->Prop}{k:Nat}{c:Str}{ks:List (Str×Bool)}{np cpos pos p:Pos}{j:Nat}{a:Expr}{es:List Expr}{fs:Ba->Res (List D)}
end
section
variable {X:Cx}{xw:XW}{a ea:Expr}{es eas:List Expr}{fs fa:Ba->Res (List D)}{p pos cpos hpos tpos np np2 cpos2 pos2 p2:Pos}{st:Stmt}{orelse:List Stmt}{k k2 nn jj:Nat}{x C n c2:Str}{ks:List (Str×Bool)}{m:List D->Res D}{gK:D->Ba->Out}{go:Ba->Out}
end
section
variable {X:Cx}{xw:XW}{pins:List (Addr×Obj)}{σ:L2.St}{W:WS}{H:Hp}{s:Shared}
end
section
variable {X:Cx}{xw:XW}{pos p pos2 p2:Pos}{a:Expr}{fa:Ba->Res D}
end
section
variable {K:Frag}{xw:XW}{W₀ W W1:WS}{H₀ H H1:Hp}{Dn:Ends}
def OU(K:Frag)(W₀:WS)(H₀:Hp)(ks:List Ab)(ds:List D)(Q:V->Hp->Prop):Prop:=∀ a kvs H',Same H₀ H'->H₀ a=none->H' a=some (.dK kvs)->kvs.map (·.1)=ks->HasL K (λb=>W₀ b\/b=a) H' ds (kvs.map (·.2))->Q (.ref a) H'
def F2(K:Frag)(xw:XW)(W₀:WS)(H₀:Hp)(W:WS)(H:Hp)(o:Out)(Dn:Ends):Prop:=match o with
 | .rt (.dct ks ds)=>OU K W₀ H₀ ks ds Dn.rt
 |o=>RS K xw W₀ H₀ W H o Dn
def U0(K:Frag)(xw:XW)(g:Ba->Out):TS:=λDn σ H=>∃ W₀ H₀ W δ,StHas K W₀ H₀ W H σ δ/\F2 K xw W₀ H₀ W H (g δ) Dn
end
structure NoQ(g:Ba->Out):Prop where
 h:∀ δ ks ds,g δ≠ .rt (.dct ks ds)
section
variable {X:Cx}{xw:XW}{st:Stmt}{sts:List Stmt}{g1 g2:Ba->Out}{pos p:Pos}{a:Expr}{es:List Expr}
structure XSQ(X:Cx)(xw:XW)(sts:List Stmt)(g:Ba->Out):Prop where
 h:PSs X sts (U0 X.K xw g)
def N0(K:Frag)(n:Nat)(m:List D->Res D):Sp:=λvs H Q E=>vs.length=n/\∃ W ds,WL W H/\HasL K W H ds vs/\match m ds with
 | .ok (.dct ks fs)=>OU K W H ks fs Q
 | .ok d=>∀ v H',Same H H'->Has K W H' d v->Q v H'
 | .ex c fs=>∀ cls dx H',nsIn K mainGlobals c=some (some cls)->Same H H'->ExF H' dx fs->E cls dx H'
 | .stuck=>False
structure FnQX(P:Program)(w:World)(K:Frag)(mg:Str->Option Value)(base:Heap)(k:Nat)(x:Str)(n:Nat)(m:List D->Res D):Prop where
 ex:∃ f fd ps,FnOk P w K mg base (LY P w) k f fd ps (N0 K n m)/\mg x=some (.ref f)/\keepIn K (.ref f)=true/\Binds K fd ps []
end
theorem YD:Mu "dict":=by intro K T hT;simp only[mem_cons,not_mem_nil,or_false]at hT;rcases hT with rfl|rfl|rfl|rfl|rfl|rfl|rfl<;>kernel_rfl
theorem Zs:∀ {xs:List V} {us:List Value},xs.length=us.length->(∀ (i:Nat) (x:V) (u:Value),xs[i]? =some x->us[i]? =some u->RelV x u)->Vals xs us
 | [],[],_,_=>.nil
 | [],_::_,h,_=>by simp at h
 |_::_,[],h,_=>by simp at h
 |x::xs,u::us,h,r=>.cons (r 0 x u rfl rfl) (Zs (by simpa using h) λi y v e1 e2=>r (i+1) y v (by simpa using e1) (by simpa using e2))
section
variable {X:Cx}{xw:XW}{e:Expr}{f:Ba->Res D}{p pos:Pos}
theorem MF{te:TE}(hc:X.calm=true)(hm:X.mg "list"=none)(hg:Gl X "list")(h:PE X e te)(he:starEach [e] X.env=(false,eval e X.env)::starEach [] X.env)(hpl:(backTo pos (starEach [] X.env)).any (·.1)=false):
  PE X (.Call (.Name "list" p) [e] [] pos) (λσ H Q=>te σ H λx H1=>∃ a o kvs,x=.ref a/\H1 a=some (.frz o (.dK kvs))/\kvs.length<=sizeLine/\∀ n,H1 n=none->Q (.ref n) (Ib H1 n (.lst (kvs.map λq=>kV q.1)))):=by
 intro pins s σ H Q I q
 refine wpAny_Call_Name_kw (Vf I hg hm (show bootBuiltins "list"=some (.type "list") by decide +kernel) ?_ (by decide) (by decide))
 refine PyProof.Rows.callWith_type1 ?_ he hpl
 rw[he]
 show wpAny _ _ (spliced ((false,eval _ X.env)::backTo pos (starEach [] X.env))) _ _ s
 refine Calls.spliced_cons (Yc (h pins s σ H _ I q) λv s1 ⟨x,H1,I1,r1,q1⟩=>?_)
 refine Calls.spliced_nil ?_
 obtain⟨a,o,kvs,rfl,hq,hn,qn⟩:=q1
 cases r1
 obtain⟨h1',_,hS,vs',r',o',es,ep,g1,g2,g3,g4⟩:=(show _/\_ from I1.hok a _ hq)
 rw[h1']at g1;cases g1
 obtain⟨hs,vs,rel,dat⟩:=Nr I1.hok hq g3
 refine PySem.W.kdl_call (s:=s1) (PySem.W.kdl_dict (prog:=X.prog) (w:=X.w) (d:=a) (knd:=Tc X.prog X.w) (kvs:=vs) (ep:=ep) hs) (I1.ok.hd hc) dat (by rw[<-Wi rel];exact hn) λh' tk acc' c' kk hS hacc=>?_
 obtain⟨e1,e2⟩:=hacc
 have hv:Vals (kvs.map λq=>kV q.1) acc'.toList:=by
  refine Zs (by have:=Wi rel;have e9:acc'.toList.length=vs.length:=e1;rw[length_map,e9];exact this) λi x u hx hu=>?_
  rw[getElem?_map]at hx
  obtain⟨q,hq',rfl⟩:=map_eq_some_iff.mp hx
  rw[getElem?_toList]at hu
  obtain⟨k,y,ek,hk⟩:=e2 i u hu
  obtain⟨y2,e3,_⟩:=CN rel hq'
  rw[e3]at ek
  cases ek
  exact WD hk
 refine⟨.ref _,_,I1.laid (t':=tk) (o:=.lst (kvs.map λq=>kV q.1)) (λb u e=>kk b u e) (le_refl _) ?_,rfl,qn _ I1.fresh⟩
 exact⟨by rw[length_map];exact hn,acc'.toList,c',hv,hS⟩
noncomputable def Vi:D->Res (List D)
 | .dct ks _=>@ite (Res (List D)) (ks.length<=sizeLine) (propDecidable _) (.ok (ks.map Sj)) .stuck
 |_=>.stuck
theorem Hq{K:Frag}{W:WS}{H:Hp}:∀ ks:List Ab,HasL K W H (ks.map Sj) (ks.map kV)
 | []=>by rw[map_nil,map_nil,HasL]
 |k::ks=>by rw[map_cons,map_cons,HasL];exact⟨_,_,rfl,Fq k,Hq ks⟩
theorem Gy(hc:X.calm=true)(hm:X.mg "list"=none)(h:XE X xw e f)(hg:Gl X "list":=by rfl)(he:starEach [e] X.env=(false,eval e X.env)::starEach [] X.env:=by rfl)(hpl:(backTo pos (starEach [] X.env)).any (·.1)=false:=by rfl):
  XF X xw (.Call (.Name "list" p) [e] [] pos) (Dt Vi f):=
 ⟨PE.weak (MF hc hm hg h.h he hpl) λσ H Q ⟨W₀,H₀,W,δ,st,q⟩=>by
  refine⟨W₀,H₀,W,δ,st,?_⟩
  unfold Dt at q
  cases h1:f δ with
  |stuck=>rw[h1]at q;exact q
  |ex c fs=>rw[h1]at q;exact q
  |ok d=>
   rw[h1]at q
   intro v H1 k1 hv
   have q':RF X.K xw W H (Vi d) Q:=q
   unfold Vi at q'
   split at q'
   .rename_i ks ds
    split at q'
    .rename_i hn
     rw[Has]at hv
     obtain⟨a,kvs,rfl,⟨o,ea⟩,r5,r6⟩:=hv
     have hl:kvs.length<=sizeLine:=by rw[<-r5,length_map]at hn;exact hn
     refine⟨a,o,kvs,rfl,ea,hl,λn hn=>?_⟩
     have e3:(kvs.map λq=>kV q.1)=ks.map kV:=by rw[<-r5,map_map];rfl
     rw[e3]
     exact q' n _ H1 k1 hn (Hq ks)
    .exact q'.elim
   .exact q'.elim⟩
end
section
variable {X:Cx}{xw:XW}{e:Expr}{f:Ba->Res D}{p pos apos pos2:Pos}
end
section
variable {X:Cx}{xw:XW}{a b e:Expr}{fa fb:Ba->Res (List (Ab×D))}{p pos:Pos}
end
section
variable {K:Frag}{W₀ W:WS}{H₀ H H':Hp}{σ:L2.St}{δ:Ba}
end
section
variable {X:Cx}{xw:XW}{pos p p1 p2 p3:Pos}{e ie:Expr}{f fi:Ba->Res D}{ff:Ba->Res (List D)}
def tNil:TE:=λ_ H Q=>∀ a,H a=none->Q (.ref a) (Ib H a (.lst []))
variable {scope:Scope}{tg iter:Expr}{fl:Ba->Res (List D)}{t:D->Ba->Res Ba}
end
section
variable {X:Cx}{xw:XW}{tg a:Expr}{p pos:Pos}{fs:Ba->Res (List D)}
end
section
variable {X:Cx}{xw:XW}{e:Expr}{f:Ba->Res D}{pos p1 p2 p3:Pos}
end
structure NoR(g:Ba->Out):Prop where
 h:∀ δ d,g δ≠ .rt d
def SU(xs:List Str):Prop:=xs.length<=100/\∀ x∈xs,(reprText x).length<=1000
section
variable {X:Cx}{pos p p1 p2:Pos}
end
def A3(K:Frag)(C:Addr)(attr:Str):Sp:=λvs H Q _=>∃ a l xs,vs= [.ref a,.ref l]/\SqL K H l (xs.map V.str)/\SU xs/\H a=some (.ext (Qz a C))/\∀ n o d,H n=none->H d=none->d≠n->Q .non (Ib (Ib (Ib H n (.frz o (.lst (xs.map V.str)))) a (.ext (Rz a C (some d)))) d (.xd [(attr,.ref n)]))
structure XInR(X:Cx)(C:Addr)(attr:Str)(sts:List Stmt):Prop where
 h:PSs X sts (λD σ H=>∃ a l xs,σ[0]? =some (some (.ref a))/\σ[1]? =some (some (.ref l))/\SqL X.K H l (xs.map V.str)/\SU xs/\H a=some (.ext (Qz a C))/\∀ n o d,H n=none->H d=none->d≠n->D.nx σ (Ib (Ib (Ib H n (.frz o (.lst (xs.map V.str)))) a (.ext (Rz a C (some d)))) d (.xd [(attr,.ref n)])))
section
variable {X:Cx}{C S f:Addr}{xb self x attr:Str}{p1 p2 p3 p7 p8 p9 q1 q2 q3 q4 q5 q6 r1 r2 r3:Pos}{z:Str}{k:Nat}
end
structure FnR(P:Program)(w:World)(K:Frag)(mg:Str->Option Value)(base:Heap)(k:Nat)(c attr:Str):Prop where
 ex:∃ j C S f fd ps,j+1<=k/\FnOkH P w K mg base Qm j f fd ps (A3 K C attr)/\XInit K C S f/\mg c=some (.ref C)/\nsIn K mainGlobals c=some (some (.ref C))/\Binds K fd ps []
section
variable {X:Cx}{xw:XW}{C S f:Addr}{fd:FuncData}{ps:List Str}{k:Nat}{x c attr:Str}{p pos np cpos:Pos}{e a:Expr}{es:List Expr}{t:TA}{fs:Ba->Res (List D)}
end
section
variable {X:Cx}
end
section
variable {K:Frag}{W:WS}{H:Hp}
end
section
variable {X:Cx}{xw:XW}{o e:Expr}{f:Ba->Res D}{fs:Ba->Res (List D)}{apos cpos:Pos}
end
section
variable {prog:Program}{w:World}{A:Around}{E:Value->Shared->Prop}{s:Shared}{it l:Addr}{xs:Array Value}
end
section
variable {X:Cx}{xw:XW}{a:Expr}{p p2 pos pos2:Pos}
end
section
variable {X:Cx}{xw:XW}{a:Expr}{es:List Expr}{pos p:Pos}{fs:Ba->Res (List D)}
end
end L3
namespace L3
open PySem
open Sem (wp)
def Zz{K:Type}[DecidableEq K](σ:List K)(k:K):List K:=if k∈σ then σ else σ++ [k]
def Xr{K:Type}[DecidableEq K](ks:List K):List K:=ks.foldl Zz []
theorem CI{K:Type}[DecidableEq K](σ:List K)(k:K):(Zz σ k).length<=σ.length+1:=by unfold Zz;split<;>simp
theorem Yp{K:Type}[DecidableEq K]:∀ (ns σ:List K),(ns.foldl Zz σ).length<=σ.length+ns.length
 | [],σ=>by simp
 |n::ns,σ=>by have:=Yp ns (Zz σ n);have:=CI σ n;rw[foldl_cons,List.length_cons];omega
theorem Yr{K:Type}[DecidableEq K](ns:List K):(Xr ns).length<=ns.length:=by have:=Yp ns [];simpa [Xr] using this
theorem WE{K:Type}[DecidableEq K]{ns:List K}{i:Nat}{k:K}(h:ns[i]? =some k):Xr (ns.take (i+1))=Zz (Xr (ns.take i)) k:=by
 unfold Xr
 rw[List.take_add_one,List.foldl_append,h]
 rfl
section
variable {prog:Program}{w:World}{K:Type}[DecidableEq K]{knd:KeyKind prog w K}{A:Around}{R:Result->Shared->Prop}{I:Addr}{fp wr:List Addr}{G:Array GenState->Array GenState->Prop}{n:Nat}{P:Nat->Value->Prop}{St:Nat->Shared->Prop}{E:Value->Shared->Prop}{s:Shared}
def SB(knd:KeyKind prog w K)(h:Heap)(a:Addr)(σ:List K):Prop:=h.SetOf knd a (λk=>decide (k∈σ)) σ.length
theorem SB.at'{h h':Heap}{a:Addr}{σ:List K}(x:SB knd h a σ)(k:∀ o,h.get? a=some o->h'.get? a=some o):SB knd h' a σ:=by
 obtain⟨o,es,ep,t,ho,r⟩:=x;exact⟨o,es,ep,t,k o ho,r⟩
theorem BT{a:Addr}{σ:List K}{k:K}{v:Value}{Q:Bool->Shared->Prop}(hk:knd.is k v=true)(hsc:v.scannable=true)(hS:SB knd s.heap a σ)(room:σ.length+1<scanBound)(h:∀ h' b,SameBut a s.heap h'->SB knd h' a (Zz σ k)->Q b {s with heap:=h'}):wpAny (model prog w) A (setAddHashed a v (knd.hash k)) Q E s:=by
 refine wpAny_setAddHashed_of hk hsc hS room λh' sb hS'=>h h' _ sb ?_
 unfold SB Zz
 by_cases hm:k∈σ
 .rw[if_pos hm]
  rw[decide_eq_true hm]at hS'
  have e:(λk'=>decide (k'∈σ)||decide (k'=k))=λk'=>decide (k'∈σ):=by
   funext k'
   by_cases h1:k'=k
   .rw[h1,decide_eq_true hm];rfl
   .rw[decide_eq_false h1,Bool.or_false]
  rw[e]at hS'
  exact hS'
 .rw[if_neg hm]
  rw[decide_eq_false hm]at hS'
  have e:(λk'=>decide (k'∈σ)||decide (k'=k))=λk'=>decide (k'∈σ++ [k]):=by
   funext k'
   by_cases h1:k'=k
   .rw[h1];simp
   .simp[h1]
  rw[e]at hS'
  rw[length_append,length_singleton]
  exact hS'
theorem ZL(W:WalksS prog w A.in1 I fp wr G n P St)(S:Addr)(hSf:S∉fp)(ks:List K)(hn:ks.length=n)(hv:∀ i v,P i v->∃ k,ks[i]? =some k/\knd.is k v=true/\v.scannable=true)(hb:n+1<scanBound):
  ∀ (k i:Nat) (s:Shared),n-i=k->i<=n->St i s->SB knd s.heap S (Xr (ks.take i))->(∀ s',Moved (S::wr) G s s'->SB knd s'.heap S (Xr ks)->R (.ok (.ret .none)) s')->
   codeAny (model prog w) A (.builtin "set.update.loop" ⟨[.ref S,.ref I],[]⟩) R s:=by
 have hSw:S∉wr:=λh=>hSf (W.sub _ h)
 have up:∀ b∈wr,b∈S::wr:=λb hb=>mem_cons_of_mem _ hb
 intro k
 induction k with
 |zero=>
  intro i s hk hi st hS hR
  have:i=n:=by omega
  subst this
  refine codeAny_builtin PyProof.Rows.F.entry_set_update_loop ?_;rw[Around.under_plainId PyProof.Rows.F.plain_set_update_loop _]
  show wpAny _ A.in1 (pyNext (.ref I) >>= _) _ _ s
  refine wpAny_bind (W.done s _ _ st λs' mv=>wpAny_pure (hR s' (mv.mono up) ?_))
  rw[take_of_length_le (Nat.le_of_eq hn)]at hS
  exact hS.at' λo e=>mv.heap S o hSw e
 |succ k ih=>
  intro i s hk hi st hS hR
  have lt:i<n:=by omega
  refine codeAny_builtin PyProof.Rows.F.entry_set_update_loop ?_;rw[Around.under_plainId PyProof.Rows.F.plain_set_update_loop _]
  show wpAny _ A.in1 (pyNext (.ref I) >>= _) _ _ s
  refine wpAny_bind (W.item i s _ _ lt st λv s' pv st' mv=>?_)
  obtain⟨kk,ek,hkk,hsc⟩:=hv i v pv
  have hS':SB knd s'.heap S (Xr (ks.take i)):=hS.at' λo e=>mv.heap S o hSw e
  have room:(Xr (ks.take i)).length+1<scanBound:=by have:=Yr (ks.take i);rw[length_take]at this;omega
  show wpAny _ A.in1 (holding [v] (setAdd S v) >>= _) _ _ s'
  refine wpAny_bind (wpAny_holding ?_)
  unfold setAdd
  refine wpAny_holding (wpAny_bind (knd.pyHash (k:=kk) hkk ?_))
  refine BT (s:= {s' with toks:=s'.toks+1}) hkk hsc hS' room λh' b sb hS2=>wpAny_pure ⟨plainId_quiet PyProof.Rows.F.plain_set_update_loop _,?_⟩
  refine ih (i+1) _ (by omega) lt (W.frame _ s' _ _ st' (le_succ _) λb hb o e=>sb.extBut _ _ (λq=>hSf (q▸hb)) e) (by rw[WE ek];exact hS2) λs'' mv2 hS3=>hR s'' ?_ hS3
  exact Moved.trans W.gtrans ((mv.mono up).then_heap (le_succ _) λb o hb e=>sb.extBut _ _ (λq=>hb (by rw[q];exact mem_cons_self)) e) mv2
theorem ZF{h:Heap}{a:Addr}{led:Bool}(hg:h.get? a=some {cls:=.type "set",dict:=none,data:=.set #[] 0 (.fresh 0 0 led)}):SB knd h a []:=
 ⟨_,#[],0,_,hg,⟨rfl,rfl,rfl⟩,rfl,λe he=>by simp at he,λk=>by simp,by decide,by rfl,rfl⟩
theorem Yo{T:String}{l:Addr}{ol:Obj}{items:Array Value}{ks:List K}{Q:Value->Shared->Prop}(hh:A.handled=none)(hol:s.heap.get? l=some ol)(hcl:ol.cls=.type T)(hs1:isSubtype (.type T) (.type "set")=pure false)(hs2:isSubtype (.type T) (.type "frozenset")=pure false)(hnd:(Value.type T==Value.type "dict")=false)(hit:Itr prog w l ol items)(hn:ks.length=items.size)(hv:∀ (i:Nat) (v:Value),items[i]? =some v->∃ k,ks[i]? =some k/\knd.is k v=true/\v.scannable=true)(hb:items.size+1<scanBound)(h:∀ h' tk,SB knd h' s.heap.objs.size (Xr ks)->(∀ b o,s.heap.get? b=some o->h'.get? b=some o)->Q (.ref s.heap.objs.size) {s with heap:=h',toks:=tk}):wpAny (model prog w) A (call (.type "set") [.ref l]) Q E s:=by
 obtain⟨c,tl,hmro⟩:=PySem.F.called_set.mro
 have hmade:=PySem.F.called_set.made
 have hsub:=PySem.F.called_set.sub
 refine wpAny_call (codeAny_of_tree ?_);show wpAny _ _ (callAny (.type "set") _) _ _ _
 refine wpAny_pure ⟨Code.quiet_builtin _ (by decide +kernel),codeAny_builtin PySem.F.entry_type_call ?_⟩;rw[Around.under_plain (weight_type_call_type "set" [.ref l] []) rfl]
 have q1:=PySem.F.called_set.notType
 have q2:=PySem.F.called_set.canCreate
 have q3:=PySem.F.typeCall_set_1 (.ref l)
 repeat (any_goals (first|assumption|wp_step))
 refine codeAny_mono (CG (.ref l) (E:=E) (Q₁:=λobj s₁=>∃ led:Bool,led=(!w.params.followText "set-order")/\obj=.ref s.heap.objs.size/\s₁= {s with heap:=s.heap.push {cls:=.type "set",dict:=none,data:=.set #[] 0 (.fresh 0 0 led)}}) λled e=>⟨led,e,rfl,rfl⟩) λr s₁ hr=>?_
 cases r with
 |error e=>exact hr
 |ok fl=>
  cases fl with
  |ret obj=>
   obtain⟨led,hled,rfl,rfl⟩:=hr
   generalize hg:s.heap.push {cls:=.type "set",dict:=none,data:=.set #[] 0 (.fresh 0 0 led)}=h1
   have k1:∀ b o,s.heap.get? b=some o->h1.get? b=some o:=λb o e=>by rw[<-hg];exact get?_push_of_some _ e
   have n1:h1.get? s.heap.objs.size=some {cls:=.type "set",dict:=none,data:=.set #[] 0 (.fresh 0 0 led)}:=by rw[<-hg];exact get?_push_size _ rfl
   have z1:h1.objs.size=s.heap.objs.size+1:=by rw[<-hg,size_push]
   clear hg
   have hT:Shared.TypeIs {s with heap:=h1} (.ref s.heap.objs.size) "set":=⟨_,n1,rfl⟩
   have q4:=PySem.F.called_set.init.lookup
   have q5:=PySem.F.called_set.init.bind (.ref s.heap.objs.size)
   repeat (any_goals (first|assumption|wp_step))
   refine codeAny_mono (codeAny_call_builtin (R:=wants (λr s₂=>r=.none/\∃ h' tk,s₂= {s with heap:=h',toks:=tk}/\SB knd h' s.heap.objs.size (Xr ks)/\∀ b o,s.heap.get? b=some o->h'.get? b=some o) E)
    PySem.F.called_set.init.plain PySem.F.entry_set_init (check_set_init_1 hT ?_)) λr₂ s₂ hr₂=>?_
   .have hol':=k1 _ _ hol
    have hTl:Shared.TypeIs {s with heap:=h1} (.ref l) T:=⟨_,hol',hcl⟩
    unfold Builtin.«set.__init__» noKeywords Builtin.Frozenset.updateFrom
    generalize hPI:pyIter=PI
    wp_walk
    subst hPI
    refine hit _ _ _ _ hol' λI St h2 W st eI k2=>?_
    refine wpAny_bind (wpAny_runValue ?_)
    have lS:s.heap.objs.size<I:=by rw[eI];show _<h1.objs.size;rw[z1];exact Nat.lt_succ_self _
    have ll:l<s.heap.objs.size:=lt_size hol
    have hSf:s.heap.objs.size∉ [I,l]:=by
     simp only[mem_cons,not_mem_nil,or_false,not_or]
     exact⟨ne_of_lt lS,ne_of_gt ll⟩
    refine ZL ((W _ (by simp[hh])).toS) s.heap.objs.size hSf ks hn hv hb items.size 0 _ (by omega) (zero_le _) st (ZF (k2 _ _ n1)) λs' mv hS=>?_
    obtain⟨h',g',d',tk',os'⟩:=s'
    have eg:g'=s.gens:=mv.gens
    have ed:d'=s.drawn:=mv.drawn
    have eo:os'=s.os:=mv.os
    subst eg ed eo
    refine wpAny_pure (wpAny_pure ⟨rfl,h',tk',rfl,hS,λb o e=>?_⟩)
    have lb:b<s.heap.objs.size:=lt_size e
    refine mv.heap b o (λz=>?_) (k2 _ _ (k1 _ _ e))
    simp only[mem_cons,not_mem_nil,or_false]at z
    rcases z with z|z
    .rw[z]at lb;exact lt_irrefl _ lb
    .rw[z]at lb;exact lt_irrefl _ (lt_trans lb lS)
   .cases r₂ with
    |error e=>exact hr₂
    |ok fl₂=>
     cases fl₂ with
     |ret r=>
      obtain⟨rfl,h',tk,rfl,hS',hk'⟩:=hr₂
      repeat (any_goals (first|assumption|wp_step))
      exact h _ _ hS' hk'
     |_=>exact hr₂.elim
  |_=>exact hr.elim
end
end L3
namespace L3
open PySem PySem.Spec PyProof.Rows L2 SeqAt
section
variable {X:Cx}{xw:XW}{pos p pos2 p2:Pos}{a e:Expr}{fa:Ba->Res D}
theorem Jz:∀ {us:List Value} {xs:List Str},Vals (xs.map V.str) us->xs.length=us.length/\∀ (i:Nat) v,us[i]? =some v->∃ k,xs[i]? =some k/\Value.isStrOf k v=true/\v.scannable=true
 |us,[],r=>by cases r;exact⟨rfl,λi v h=>by simp at h⟩
 |us,x::xs,r=>by
  cases r with
  |cons h1 t=>
   obtain⟨l,q⟩:=Jz t
   refine⟨by rw[List.length_cons,List.length_cons,l],λi v hv=>?_⟩
   cases i with
   |zero=>
    obtain⟨tk,rfl⟩:=h1
    have e:Value.str x tk=v:=by simpa using hv
    subst e
    exact⟨x,rfl,by simp[Value.isStrOf],rfl⟩
   |succ i=>
    obtain⟨k,e1,e2⟩:=q i v (by simpa using hv)
    exact⟨k,by simpa using e1,e2⟩
end
section
variable {X:Cx}{xw:XW}{e a o:Expr}{es:List Expr}{f fa:Ba->Res D}{gs:Ba->Res (List D)}{pos p p2 apos:Pos}{fld m:Str}{cs:List Str}
structure OwnK(K:Frag)(C:Addr):Prop where
 hg:plainGet K C "__class__"=true
 hd:hasDictIn K C=true
 ha:findIn K (.ref C) "__class__"=some (some (.builtin "object.__class__"))
 hn:specialIn K (.builtin "object.__class__") "__get__"=some (some (.builtin "getset_descriptor.__get__"))
 ht:PySem.W.takesIn K (.builtin "object.__class__")=some true
 hm:mroIn K C (.type "object")=some true
structure IsiO(K:Frag)(tb:List (Str×Bool))(vc:V):Prop where
 cls:∃ a,vc=.ref a
 ok:∀ c b,tb.lookup c=some b->∃ C,nsIn K mainGlobals c=some (some (.ref C))/\OwnK K C/\PySem.W.kitOne K (.ref C) (QX vc)=some b
structure MtK(P:Program)(w:World)(K:Frag)(mg:Str->Option Value)(base:Heap)(k:Nat)(c m:Str)(n:Nat)(g:List D->Res D):Prop where
 ex:∃ C f fd ps,nsIn K mainGlobals c=some (some (.ref C))/\Cls K C/\Meth K C m f/\FnOk P w K mg base Qm k f fd ps (ET K n g)/\Binds K fd ps []
end
end L3
namespace L3
open PySem PyProof.Rows
section
variable {prog:Program}{w:World}{A:Around}{E:Value->Shared->Prop}{s:Shared}{T:String}{r d:Addr}{n:Nat}{P:Nat->Value->Prop}{OK:Heap->Prop}
end
end L3
namespace L3
open PySem PySem.Spec PyProof.Rows L2 SeqAt
section
variable {X:Cx}{xw:XW}{e:Expr}{f:Ba->Res D}{p pos:Pos}
end
end L3
namespace L3
open PySem PySem.SeqAt PySem.MeetsSeq PySem.MeetsSeq2 PySem.MeetsSeq3
section
variable {P:Program}{w:World}
end
end L3
namespace L3
open PySem PySem.Spec PyProof.Rows L2 SeqAt
section
variable {X:Cx}{xw:XW}{pins:List (Addr×Obj)}{σ:L2.St}{W:WS}{H:Hp}{s:Shared}
end
section
variable {K:Frag}{W₀ W:WS}{H₀ H H':Hp}{σ:L2.St}{δ:Ba}
end
section
variable {X:Cx}{xw:XW}{pins:List (Addr×Obj)}{σ:L2.St}{H:Hp}{s:Shared}{e:Expr}{f:Ba->Res D}
end
end L3
namespace L3
open PySem PySem.Spec PyProof.Rows L2
section
variable {prog:Program}{w:World}{A:Around}{E:Value->Shared->Prop}{s:Shared}{z TI TO i1 i2:Addr}{f1 f2:List Addr}{n1 n2 k:Nat}{P1 P2:Nat->Value->Prop}{S1 S2:Nat->Heap->Prop}
end
structure ZN(z TI TO i1 i2 l1 l2 N:Addr):Prop where
 za:ZA z TI TO i1 i2 [i1,l1] [i2,l2]
 n1:l1≠i1
 n2:l2≠i2
 nz:N≠z
 nT:N≠TI
 nO:N≠TO
 m1:N≠i1
 m2:N≠i2
 k1:N≠l1
 k2:N≠l2
section
variable {prog:Program}{w:World}{A:Around}{E:Value->Shared->Prop}{s:Shared}{z TI TO i1 i2 l1 l2 N:Addr}{k:Nat}{t1 t2:Bool}{xs ys:Array Value}
end
structure ZG(xs ys:Array Value)(lo:Addr)(h:Heap)(as:List Addr):Prop where
 rise:as.Pairwise (· < ·)
 above:∀ a∈as,lo<a
 pairs:∀ (j:Nat) (a:Addr),as[j]? =some a->∃ x y,xs[j]? =some x/\ys[j]? =some y/\IsPair h a x y
section
variable {prog:Program}{w:World}{A:Around}{E:Value->Shared->Prop}{s:Shared}{R:Result->Shared->Prop}{z TI TO i1 i2 l1 l2 N:Addr}{t1 t2:Bool}{xs ys:Array Value}
end
section
variable {X:Cx}{xw:XW}{a b:Expr}{fs:Ba->Res (List D)}{p p2 pos pos2:Pos}
end
end L3
namespace L3
open PySem PySem.Spec PyProof.Rows L2 SeqAt
section
variable {X:Cx}{xw:XW}{pos p pos' spos:Pos}{a:Expr}{fa:Ba->Res D}
end
section
variable {X:Cx}{xw:XW}{e:Expr}{f:Ba->Res Bool}
end
section
variable {X:Cx}{xw:XW}{e ie:Expr}{f fi:Ba->Res D}{pos:Pos}
end
end L3
namespace L3
open PySem PySem.Spec PyProof.Rows L2
section
variable {prog:Program}{w:World}{A:Around}{E:Value->Shared->Prop}{s:Shared}
end
section
variable {X:Cx}{xw:XW}{elts:List Expr}{kt:Nat}{pt p kp pos:Pos}{a b:Expr}{fs:Ba->Res (List D)}
end
end L3
namespace L3
open PySem PySem.Spec PyProof.Rows L2 SeqAt
section
variable {X:Cx}{xw:XW}{pos p p2 apos cpos:Pos}{a b e o:Expr}{f fa fb:Ba->Res D}{fs:Ba->Res (List D)}
def PY{α:Type}(w:World)(R:Value->α->Prop)(e:DictEntry)(p:Str×α):Prop:=e.hash=LQ w (.inr p.1)/\(∃ t,e.key=.str p.1 t)/\R e.val p.2
structure GlobG{α:Type}(R:Value->α->Prop)(w:World)(K:Frag)(mg:Str->Option Value)(x:Str)(l:List (Str×α)):Prop where
 h:∃ (ad:Addr) (o:Obj) (es:Array DictEntry) (n:Nat),mg x=some (.ref ad)/\K.lookup ad=some o/\o.ExactDict/\o.data=.dict es n/\Paired (PY w R) es.toList l/\(l.map (·.1)).Nodup/\(ad==sysModules)=false
end
end L3
namespace L3
open PySem PySem.Spec PyProof.Rows L2 SeqAt
open Builtin Builtin.Str
section
variable {X:Cx}{xw:XW}{pos p p2 apos cpos:Pos}{a b e o:Expr}{f fa fb:Ba->Res D}{fs:Ba->Res (List D)}
end
section
variable {X:Cx}{xw:XW}{apos cpos:Pos}{o:Expr}{f:Ba->Res D}
end
end L3
namespace L3
open PySem
def DY(m i:Nat):Nat:=(i*5+1)%m
def GH(m:Nat):Nat->Nat->Nat
 |0,i=>i
 |d+1,i=>GH m d (DY m i)
def A0(m:Nat):Nat->Nat->List Nat
 |0,_=> []
 |n+1,i=>i::A0 m n (DY m i)
theorem Wy{m j:Nat}:∀ {n i:Nat},j∈A0 m n i->∃ d,d<n/\GH m d i=j
 |n+1,i,h=>by
  rcases mem_cons.mp h with e|h
  .exact⟨0,by omega,e.symm⟩
  .obtain⟨d,h1,h2⟩:=Wy h
   exact⟨d+1,by omega,h2⟩
theorem Vm(m b:Nat):∀ (a i:Nat),GH m (a+b) i=GH m b (GH m a i)
 |0,i=>by rw[zero_add];rfl
 |a+1,i=>by rw[show a+1+b=(a+b)+1 by omega];exact Vm m b a (DY m i)
def Nw(m:Nat):Bool:=Nat.beq (GH m m 0) 0&&(range m).all λj=>(A0 m m 0).any λi=>Nat.beq i j
theorem VC:(Nw 8&&Nw 16&&Nw 32&&Nw 64&&Nw 128)=true:=by decide +kernel
def Msk(mask:Nat):Prop:=mask=7\/mask=15\/mask=31\/mask=63\/mask=127
theorem Msk.cov{mask:Nat}(h:Msk mask):∀ i j,i<=mask->j<=mask->∃ d,d<=mask/\GH (mask+1) d i=j:=by
 have c:Nw (mask+1)=true:=by
  have:=VC
  simp only[and_eq_true]at this
  rcases h with rfl|rfl|rfl|rfl|rfl
  .exact this.1.1.1.1
  .exact this.1.1.1.2
  .exact this.1.1.2
  .exact this.1.2
  .exact this.2
 unfold Nw at c
 rw[and_eq_true]at c
 have c0:=Nat.eq_of_beq_eq_true c.1
 have at':∀ j,j<=mask->∃ d,d<mask+1/\GH (mask+1) d 0=j:=λj hj=>by
  have:=all_eq_true.mp c.2 j (mem_range.mpr (by omega))
  obtain⟨i,h1,h2⟩:=List.any_eq_true.mp this
  cases Nat.eq_of_beq_eq_true h2
  exact Wy h1
 intro i j hi hj
 obtain⟨a,ha,ea⟩:=at' i hi
 obtain⟨b,hb,eb⟩:=at' j hj
 by_cases hab:a<=b
 .exact⟨b-a,by omega,by rw[<-ea,<-Vm,show a+(b-a)=b by omega,eb]⟩
 .exact⟨mask+1-a+b,by omega,by rw[<-ea,<-Vm,show a+(mask+1-a+b)=(mask+1)+b by omega,Vm,c0,eb]⟩
section
variable {mask:Nat}{owner:Array (Option Nat)}
theorem JA{n i p:Nat}(h:owner[i]? =some none):∃ j,SetTable.layClean.free mask owner (n+1) i p=some j/\owner[j]? =some none:=by
 unfold SetTable.layClean.free
 cases hf:(range (SetTable.runEnd mask i+1-i)).find? λk=>(owner.getD (i+k) (some 0)).isNone with
 |some k=>
  refine⟨i+k,rfl,?_⟩
  have:=find?_some hf
  simp only[Array.getD_eq_getD_getElem?]at this
  cases hg:owner[i+k]? with
  |none=>rw[hg]at this;simp at this
  |some o=>rw[hg]at this;simp at this;rw[this]
 |none=>
  have:=List.find?_eq_none.mp hf 0 (mem_range.mpr (by unfold SetTable.runEnd;split<;>omega))
  simp[Array.getD_eq_getD_getElem?,h]at this
theorem Bq{n i p:Nat}(h:∃ j,SetTable.layClean.free mask owner n (SetTable.leap mask i p).1 (SetTable.leap mask i p).2=some j/\owner[j]? =some none):
  ∃ j,SetTable.layClean.free mask owner (n+1) i p=some j/\owner[j]? =some none:=by
 unfold SetTable.layClean.free
 cases hf:(range (SetTable.runEnd mask i+1-i)).find? λk=>(owner.getD (i+k) (some 0)).isNone with
 |some k=>
  refine⟨i+k,rfl,?_⟩
  have:=find?_some hf
  simp only[Array.getD_eq_getD_getElem?]at this
  cases hg:owner[i+k]? with
  |none=>rw[hg]at this;simp at this
  |some o=>rw[hg]at this;simp at this;rw[this]
 |none=>exact h
theorem Eu{j0:Nat}(h0:owner[j0]? =some none):∀ (d n i:Nat),d<n->GH (mask+1) d i=j0->∃ j,SetTable.layClean.free mask owner n i 0=some j/\owner[j]? =some none
 |0,n+1,i,_,e=>by cases (show i=j0 from e);exact JA h0
 |d+1,n+1,i,h,e=>Bq (Eu h0 d n _ (by omega) (by simpa [SetTable.leap,GH,DY] using e))
theorem Cq(hm:Msk mask){j0:Nat}(h0:owner[j0]? =some none)(hj:j0<=mask):∀ (m n i p:Nat),p<32^m->i<=mask->m+mask<n->∃ j,SetTable.layClean.free mask owner n i p=some j/\owner[j]? =some none
 |0,n,i,p,hp,hi,hn=>by
  have:p=0:=by simpa using hp
  subst this
  obtain⟨d,h1,h2⟩:=hm.cov i j0 hi hj
  exact Eu h0 d n i (by omega) h2
 |m+1,n+1,i,p,hp,hi,hn=>by
  refine Bq (Cq hm h0 hj m n _ _ ?_ ?_ (by omega))
  .show p / 32<32^m
   rw[Nat.pow_succ]at hp;omega
  .show(i*5+1+p / 32)%(mask+1)<=mask
   have:=Nat.mod_lt (i*5+1+p / 32) (show mask+1>0 by omega)
   omega
theorem Tv{k:Nat}:∀ {l:List (Option Nat)} {j:Nat},l[j]? =some none->((l.set j (some k)).filterMap id).Perm (k::l.filterMap id)
 |none::l,0,_=>by simp
 |some x::l,0,h=>by simp at h
 |x::l,j+1,h=>by
  have:=Tv (k:=k) (l:=l) (j:=j) (by simpa using h)
  cases x with
  |none=>simpa using this
  |some x=>simpa using (this.cons x).trans (Perm.swap _ _ _)
theorem Vy:∀ {l:List (Option Nat)},(l.filterMap id).length<l.length->∃ j:Nat,l[j]? =some none
 | [],h=>by simp at h
 |none::l,_=>⟨0,rfl⟩
 |some x::l,h=>by
  obtain⟨j,hj⟩:=Vy (l:=l) (by simpa using h)
  exact⟨j+1,by simpa using hj⟩
theorem XH(h:Int):SetTable.bits h<32^13:=by unfold SetTable.bits;omega
def WQ(mask:Nat)(acc:Option (Array (Option Nat)×Nat))(h:Int):Option (Array (Option Nat)×Nat):=do
 let (owner,k) <-acc
 let j <-SetTable.layClean.free mask owner (SetTable.turns mask) (SetTable.bits h%(mask+1)) (SetTable.bits h)
 pure (owner.setIfInBounds j (some k),k+1)
theorem Qu(hm:Msk mask):∀ (hs:List Int) (owner:Array (Option Nat)) (k:Nat),owner.size=mask+1->(owner.toList.filterMap id).Perm (range k)->k+hs.length<=mask->
  ∃ o',hs.foldl (WQ mask) (some (owner,k))=some (o',k+hs.length)/\o'.size=mask+1/\(o'.toList.filterMap id).Perm (range (k+hs.length))
 | [],owner,k,h1,h2,_=>⟨owner,rfl,h1,h2⟩
 |h::hs,owner,k,h1,h2,h3=>by
  rw[List.length_cons]at h3
  obtain⟨j0,hj0⟩:=Vy (l:=owner.toList) (by rw[h2.length_eq,length_range,length_toList,h1];omega)
  have hb:j0<owner.size:=by rw[<-length_toList];exact(List.getElem?_eq_some_iff.mp hj0).1
  have hlt:=Nat.mod_lt (SetTable.bits h) (show mask+1>0 by omega)
  obtain⟨j,hf,hj⟩:=Cq hm (j0:=j0) (owner:=owner) (by rw[<-getElem?_toList];exact hj0) (by omega) 13 (SetTable.turns mask) (SetTable.bits h%(mask+1)) (SetTable.bits h) (XH h) (by omega) (by unfold SetTable.turns;omega)
  obtain⟨o',e1,e2,e3⟩:=Qu hm hs (owner.setIfInBounds j (some k)) (k+1) (by rw[Array.size_setIfInBounds,h1])
   (by rw[Array.toList_setIfInBounds];exact(Tv (by rw[getElem?_toList];exact hj)).trans (((h2.cons k).trans (List.perm_append_singleton k _).symm).trans (by rw[List.range_succ]))) (by omega)
  refine⟨o',?_,e2,?_⟩
  .rw[foldl_cons,show WQ mask (some (owner,k)) h=some (owner.setIfInBounds j (some k),k+1) by unfold WQ;simp[hf],e1,List.length_cons]
   congr 2;omega
  .rw[List.length_cons];rw[show k+1+hs.length=k+(hs.length+1) by omega]at e3;exact e3
theorem NE(l:List (Option Nat)):((range l.length).filterMap λj=>((l[j]?).getD none).map (j,·)).map (·.2)=l.filterMap id:=by
 rw[List.map_filterMap]
 have e:(λj=>Option.map (λx:Nat×Nat=>x.2) (Option.map (j,·) ((l[j]?).getD none)))=λj=>id ((l[j]?).getD none):=by
  funext j;cases (l[j]?).getD none<;>rfl
 rw[e,show(λj=>id ((l[j]?).getD none))=id∘λj=>(l[j]?).getD none from rfl,<-List.filterMap_map]
 congr 1
 apply List.ext_getElem
 .simp
 .intro i h1 h2
  simp[getElem?_eq_getElem h2]
theorem Pu(hm:Msk mask){finger moves:Nat}{led plain:Bool}{hs:Array Int}(h:hs.size<=mask):
  ∃ t order,SetTable.laid mask finger moves led plain hs=some (t,order)/\order.toList.Perm (range hs.size)/\t.fits hs.size=true/\t.mask=mask/\t.fill=hs.size:=by
 obtain⟨o',e1,e2,e3⟩:=Qu hm hs.toList (Array.replicate (mask+1) none) 0 (by simp) (by simp) (by simpa using h)
 rw[zero_add,length_toList]at e1 e3
 have e:SetTable.layClean mask hs=some o':=by
  unfold SetTable.layClean
  rw[<-Array.foldl_toList]
  exact(congrArg (Option.map (·.1)) (show hs.toList.foldl _ _=_ from e1))
 unfold SetTable.laid
 rw[e]
 have hl:(range (mask+1)).filterMap (λj=>(o'.getD j none).map (j,·))=(range o'.toList.length).filterMap λj=>((o'.toList[j]?).getD none).map (j,·):=by
  rw[length_toList,e2];congr 1;funext j;rw[Array.getD_eq_getD_getElem?,getElem?_toList]
 have hs2:=NE o'.toList
 rw[<-hl]at hs2
 have hz:((range (mask+1)).filterMap (λj=>(o'.getD j none).map (j,·))).length=hs.size:=by
  have:=congrArg List.length hs2
  rw[length_map,e3.length_eq,length_range]at this
  exact this
 refine⟨_,_,rfl,?_,?_,rfl,?_⟩
 .exact(Perm.of_eq hs2).trans e3
 .rw[<-hz]at h ⊢;simp[SetTable.fits,SetTable.fill]at h ⊢;exact h
 .rw[<-hz];simp[SetTable.fill]
end
section
variable {prog:Program}{w:World}{K:Type}[DecidableEq K]{knd:KeyKind prog w K}{A:Around}{E:Value->Shared->Prop}{s:Shared}
def Mm(knd:KeyKind prog w K)(es:List (Int×Value))(k:K):Prop:=∃ e∈es,knd.is k e.2=true
def JH(knd:KeyKind prog w K)(es:List (Int×Value)):Prop:=es.Pairwise λe f=>∀ k,knd.is k e.2=true->¬ knd.is k f.2=true
theorem R1:∀ (σ:List K) (es:List (Int×Value)),σ.Nodup->(∀ k∈σ,Mm knd es k)->σ.length<=es.length
 | [],_,_,_=>zero_le _
 |k::σ,es,nd,h=>by
  obtain⟨e,he,hk⟩:=h k mem_cons_self
  obtain⟨l1,l2,rfl⟩:=List.append_of_mem he
  rw[nodup_cons]at nd
  have:=R1 σ (l1++l2) nd.2 λk' h'=>by
   obtain⟨e',he',hk'⟩:=h k' (mem_cons_of_mem _ h')
   refine⟨e',?_,hk'⟩
   simp only[mem_append,mem_cons]at he' ⊢
   rcases he' with z|z|z
   .exact .inl z
   .subst z;exact absurd (knd.inj _ _ _ hk hk'▸h') nd.1
   .exact .inr z
  simp only[length_append,List.length_cons]at this ⊢
  omega
theorem DD:∀ (es:List (Int×Value)) (σ:List K),σ.Nodup->(∀ k,k∈σ↔Mm knd es k)->es.length=σ.length->(∀ e∈es,∃ k,knd.is k e.2=true)->JH knd es
 | [],_,_,_,_,_=>Pairwise.nil
 |e::es,σ,nd,h,hl,hk=>by
  obtain⟨k,hke⟩:=hk e mem_cons_self
  have hkσ:k∈σ:=(h k).mpr ⟨e,mem_cons_self,hke⟩
  have hno:∀ f∈es,¬ knd.is k f.2=true:=λf hf z=>by
   have:=R1 σ es nd λk' h'=>by
    obtain⟨e',he',hk'⟩:=(h k').mp h'
    rcases mem_cons.mp he' with z'|z'
    .subst z';cases knd.inj _ _ _ hke hk';exact⟨f,hf,z⟩
    .exact⟨e',z',hk'⟩
   rw[List.length_cons]at hl;omega
  refine pairwise_cons.mpr ⟨λf hf k' h1 h2=>hno f hf (knd.inj _ _ _ h1 hke▸h2),?_⟩
  refine DD es (σ.erase k) (nd.erase k) (λk'=>?_) ?_ λf hf=>hk f (mem_cons_of_mem _ hf)
  .rw[nd.mem_erase_iff,h k']
   refine⟨λ⟨h1,e',h2,h3⟩=>?_,λ⟨f,h1,h2⟩=>⟨λz=>hno f h1 (z▸h2),f,mem_cons_of_mem _ h1,h2⟩⟩
   rcases mem_cons.mp h2 with z|z
   .subst z;exact absurd (knd.inj _ _ _ h3 hke) h1
   .exact⟨e',z,h3⟩
  .rw[List.length_erase_of_mem hkσ,<-hl,List.length_cons];rfl
theorem CB(ks:List K):(Xr ks).Nodup:=by
 unfold Xr
 suffices h:∀ (ks σ:List K),σ.Nodup->(ks.foldl Zz σ).Nodup from h ks [] List.nodup_nil
 intro ks
 induction ks with
 |nil=>intro σ h;exact h
 |cons k ks ih=>
  intro σ h
  refine ih _ ?_
  unfold Zz
  split
  .exact h
  .rename_i hk
   rw[nodup_append]
   exact⟨h,by simp,λa ha b hb=>by rw[mem_singleton]at hb;subst hb;exact λz=>hk (z▸ha)⟩
theorem JK{k:K}(ks:List K):k∈Xr ks↔k∈ks:=by
 unfold Xr
 suffices h:∀ (ks σ:List K),k∈ks.foldl Zz σ↔k∈σ\/k∈ks by simpa using h ks []
 intro ks
 induction ks with
 |nil=>intro σ;simp
 |cons x ks ih=>
  intro σ
  rw[foldl_cons,ih,mem_cons]
  have:k∈Zz σ x↔k∈σ\/k=x:=by
   unfold Zz
   split
   .rename_i hx;exact⟨.inl,λz=>z.elim id λe=>e▸hx⟩
   .simp
  rw[this,or_assoc]
structure At(knd:KeyKind prog w K)(h:Heap)(a:Addr)(o:Obj)(es:Array (Int×Value))(ep:Nat)(t:SetTable):Prop where
 get:h.get? a=some o
 ex:o.ExactSet
 dat:o.data=.set es ep t
 el:ElemsOf knd es.toList
 sz:es.size<64
 fit:t.fits es.size=true
theorem At.ty{a:Addr}{o:Obj}{es:Array (Int×Value)}{ep:Nat}{t:SetTable}(x:At knd s.heap a o es ep t):s.TypeIs (.ref a) "set":=⟨o,x.get,x.ex.1⟩
theorem At.up{h h':Heap}{a:Addr}{o:Obj}{es:Array (Int×Value)}{ep:Nat}{t:SetTable}(x:At knd h a o es ep t)(k:h'.get? a=some o):At knd h' a o es ep t:=⟨k,x.ex,x.dat,x.el,x.sz,x.fit⟩
theorem At.store{h:Heap}{a:Addr}{o:Obj}{es:Array (Int×Value)}{ep:Nat}{t:SetTable}(x:At knd h a o es ep t){es':Array (Int×Value)}{t':SetTable}(el:ElemsOf knd es'.toList)(sz:es'.size<64)(fit:t'.fits es'.size=true):
  At knd (h.update a (Obj.putSet es' t')) a {o with data:=.set es' (ep+1) t'} es' (ep+1) t':=by
 have hg:(h.update a (Obj.putSet es' t')).get? a=some {o with data:=.set es' (ep+1) t'}:=by
  have:=Heap.get?_update_self (Obj.putSet es' t') x.get (by rw[putSet_of es' t' x.dat];rfl)
  rw[putSet_of es' t' x.dat]at this;exact this
 exact⟨hg,x.ex,rfl,el,sz,fit⟩
section
variable {a b r:Addr}{o oo ro:Obj}{es eo re:Array (Int×Value)}{ep epo rp:Nat}{t tb rt:SetTable}
theorem Zc(x:At knd s.heap a o es ep t){Q:(Array (Int×Value)×Nat×SetTable)->Shared->Prop}(h:Q (es,ep,t) s):wpAny (model prog w) A (setState a) Q E s:=wpAny_setState_of x.get x.dat x.fit h
theorem Gn(x:At knd s.heap a o es ep t){Q:Array (Int×Value)->Shared->Prop}(h:Q es s):wpAny (model prog w) A (setEntries a) Q E s:=wpAny_setEntries_of x.get x.dat x.fit h
theorem Gj(x:At knd s.heap a o es ep t){Q:Nat->Shared->Prop}(h:Q es.size s):wpAny (model prog w) A (Builtin.Frozenset.sizeOf a) Q E s:=by
 unfold Builtin.Frozenset.sizeOf
 exact wpAny_bind (Gn x (wpAny_pure h))
theorem Li(x:At knd s.heap a o es ep t){Q:Nat->Shared->Prop}(h:Q ep s):wpAny (model prog w) A (setEpoch a) Q E s:=wpAny_setEpoch_of x.get x.dat x.fit h
theorem Cr(x:At knd s.heap a o es ep t){id:String}{Q:Unit->Shared->Prop}(h:Q () s):wpAny (model prog w) A (Builtin.Frozenset.unchanged id a ep) Q E s:=by
 unfold Builtin.Frozenset.unchanged
 refine wpAny_bind (Li x ?_)
 rw[if_neg (by simp)]
 exact wpAny_pure h
theorem Wx(x:At knd s.heap a o es ep t){k:K}{v:Value}(hk:knd.is k v=true)(hsc:v.scannable=true){Q:Option Nat->Shared->Prop}(h:Q (es.toList.findIdx? λe=>knd.is k e.2) s):
  wpAny (model prog w) A (setFind a v (knd.hash k)) Q E s:=by
 unfold setFind setFindIn
 refine wpAny_bind (Zc x ?_)
 dsimp only
 rw[byScan_of hsc (lt_trans x.sz (by decide)) x.el]
 simp only[↓reduceIte]
 refine wpAny_bind (wpAny_rule ?_)
 refine wpAny_bind (wpAny_setScan_of hk x.get x.dat x.fit x.el ?_)
 cases hr:List.findIdx? (λe=>knd.is k e.2) es.toList with
 |none=>rw[hr]at h;exact wpAny_pure h
 |some j=>rw[hr]at h;dsimp only;rw[zero_add];exact wpAny_pure h
theorem Mi(x:At knd s.heap a o es ep t){es':Array (Int×Value)}{t':SetTable}{Q:Unit->Shared->Prop}(sz:es'.size<64)(h:Q () {s with heap:=s.heap.update a (Obj.putSet es' t')}):wpAny (model prog w) A (storeSet a es' t') Q E s:=
 wpAny_storeSet_of x.get x.dat h (fits_of_scanBound (lt_trans sz (by decide)))
theorem Xp{k:K}:(es.toList.findIdx? λe=>knd.is k e.2).isSome=true↔Mm knd es.toList k:=by
 rw[List.findIdx?_isSome,List.any_eq_true];rfl
theorem Gg(x:At knd s.heap a o es ep t){Q:Bool->Shared->Prop}(h:Q true s):wpAny (model prog w) A (Builtin.Frozenset.isAnySet (.ref a)) Q E s:=by
 unfold Builtin.Frozenset.isAnySet
 refine wpAny_bind (wpAny_isInstance x.ty sub_set_self ?_)
 exact wpAny_pure h
theorem Br(x:At knd s.heap a o es ep t){Q:Value->Shared->Prop}(h:Q (.type "set") s):wpAny (model prog w) A (Builtin.Frozenset.baseOf a) Q E s:=by
 unfold Builtin.Frozenset.baseOf
 exact wpAny_bind (wpAny_isInstance x.ty sub_set_self (wpAny_pure h))
theorem Jt{others:List Addr}(hq:∀ b∈others,∃ o es ep t,At knd s.heap b o es ep t){Q:Bool->Shared->Prop}(h:Q true s):wpAny (model prog w) A (setsQuiet others) Q E s:=by
 unfold setsQuiet
 refine wpAny_bind (wpAny_forIn_list _ (λrest (b:Option Bool×Unit) s'=>b=(none,())/\s'=s/\∀ x∈rest,x∈others) _ ?_ (λb s' ⟨hb,hs,_⟩=>by subst hb hs;exact wpAny_pure h) others _ ⟨rfl,rfl,λ_ h=>h⟩)
 rintro x rest b s' ⟨rfl,rfl,hm⟩
 obtain⟨o,es,ep,t,g⟩:=hq x (hm x mem_cons_self)
 refine wpAny_bind (Gn g ?_)
 refine wpAny_bind (MeetsSeq2.wpAny_forIn_array _ (λrest (b:Option Bool×Unit) s''=>b=(none,())/\s''=s'/\∀ x∈rest,x∈es.toList) _ ?_ (λb s'' ⟨hb,hs,_⟩=>by subst hb hs;exact wpAny_pure ⟨rfl,rfl,λy hy=>hm y (mem_cons_of_mem _ hy)⟩) es _ ⟨rfl,rfl,λ_ h=>h⟩)
 rintro e rest b s'' ⟨rfl,rfl,hm⟩
 have:=(g.el e (hm e mem_cons_self)).2
 obtain⟨hh,v⟩:=e
 cases v<;>first|exact wpAny_pure ⟨rfl,rfl,λy hy=>hm y (mem_cons_of_mem _ hy)⟩|cases this
theorem Yx(x:At knd s.heap a o es ep t){Q:Array (Int×Value)->Shared->Prop}(hs:w.params.followText "set-order"=true\/(t.led=true/\t.plain=true)\/es.size<=1)(h:∀ L:Array (Int×Value),L.toList.Perm es.toList->Q L s):wpAny (model prog w) A (setWalk a) Q E s:=by
 unfold setWalk setsByText
 refine wpAny_bind (Zc x ?_)
 dsimp only
 refine wpAny_bind (wpAny_bind (wpAny_askSetting (wpAny_pure ?_)))
 show wpAny _ _ (if w.params.followText "set-order"=true then _ else _) _ _ _
 by_cases hb:w.params.followText "set-order"=true
 .rw[if_pos hb]
  exact wpAny_bind (wpAny_askSetting (wpAny_pure (h _ (Ko _ _))))
 .rw[if_neg hb]
  rcases hs with z|z
  .exact absurd z hb
  .have e1:(!t.plain&&decide (es.size>1))=false:=by
    rcases z with z|z
    .rw[z.2];rfl
    .rw[decide_eq_false (by omega),Bool.and_false]
   have e2:(!t.led&&decide (es.size>1))=false:=by
    rcases z with z|z
    .rw[z.1];rfl
    .rw[decide_eq_false (by omega),Bool.and_false]
   show wpAny _ _ (if(!t.plain&&decide (es.size>1))=true then _ else _) _ _ _
   rw[e1,if_neg Bool.false_ne_true]
   refine wpAny_bind ?_
   show wpAny _ _ (if(!t.led&&decide (es.size>1))=true then _ else _) _ _ _
   rw[e2,if_neg Bool.false_ne_true]
   exact wpAny_pure (wpAny_pure (h es (Perm.refl _)))
theorem MC(x:At knd s.heap a o es ep t){others:List Addr}(hq:∀ b∈a::others,∃ o es ep t,At knd s.heap b o es ep t){Q:Array (Int×Value)->Shared->Prop}(h:∀ L:Array (Int×Value),L.toList.Perm es.toList->Q L s):
  wpAny (model prog w) A (setWalkUnseen a others none) Q E s:=by
 unfold setWalkUnseen setsByText
 refine wpAny_bind (Zc x ?_)
 dsimp only
 refine wpAny_bind (wpAny_bind (wpAny_askSetting (wpAny_pure ?_)))
 show wpAny _ _ (if(w.params.followText "set-order"||(t.led&&t.plain)||decide (es.size<=1))=true then _ else _) _ _ _
 split
 .rename_i hc
  refine Yx x ?_ h
  simp only[Bool.or_eq_true,and_eq_true,decide_eq_true_eq]at hc
  rcases hc with(z|z)|z
  .exact .inl z
  .exact .inr (.inl z)
  .exact .inr (.inr z)
 .refine wpAny_bind (Jt hq ?_)
  exact wpAny_bind (wpAny_rule (wpAny_pure (h es (Perm.refl _))))
theorem Nt(x:At knd s.heap a o es ep t)(y:At knd s.heap r ro re rp rt){others:List Addr}(hq:∀ b∈a::others,∃ o es ep t,At knd s.heap b o es ep t){Q:Array (Int×Value)->Shared->Prop}(h:∀ (L:Array (Int×Value)) h' ro' rp' rt',L.toList.Perm es.toList->SameBut r s.heap h'->At knd h' r ro' re rp' rt'->Q L {s with heap:=h'}):
  wpAny (model prog w) A (setWalkUnseen a others (some r)) Q E s:=by
 unfold setWalkUnseen setsByText
 refine wpAny_bind (Zc x ?_)
 dsimp only
 refine wpAny_bind (wpAny_bind (wpAny_askSetting (wpAny_pure ?_)))
 show wpAny _ _ (if(w.params.followText "set-order"||(t.led&&t.plain)||decide (es.size<=1))=true then _ else _) _ _ _
 have h0:∀ L:Array (Int×Value),L.toList.Perm es.toList->Q L s:=λL p=>h L s.heap _ _ _ p (SameBut.refl _ _) y
 split
 .rename_i hc
  refine Yx x ?_ h0
  simp only[Bool.or_eq_true,and_eq_true,decide_eq_true_eq]at hc
  rcases hc with(z|z)|z
  .exact .inl z
  .exact .inr (.inl z)
  .exact .inr (.inr z)
 .refine wpAny_bind (Jt hq ?_)
  refine wpAny_bind (wpAny_rule ?_)
  refine wpAny_bind (Zc y ?_)
  dsimp only
  split
  .refine wpAny_bind (Mi y y.sz (wpAny_pure ?_))
   exact h es _ _ _ _ (Perm.refl _) (SameBut.update _ _ _) (y.store y.el y.sz (by have:=y.fit;cases rt;exact this))
  .exact wpAny_pure (h0 es (Perm.refl _))
theorem UN(x:At knd s.heap r ro re rp rt){k:K}{v:Value}(hk:knd.is k v=true)(hsc:v.scannable=true)(room:re.size+1<64){Q:Bool->Shared->Prop}(h:∀ h' c ro' re' rp' rt',SameBut r s.heap h'->At knd h' r ro' re' rp' rt'->re'.size<=re.size+1->(∀ k',Mm knd re'.toList k'↔Mm knd re.toList k'\/k'=k)->Q c {s with heap:=h'}):
  wpAny (model prog w) A (setAddHashed r v (knd.hash k)) Q E s:=by
 classical
 have hS:s.heap.SetOf knd r (λk=>decide (Mm knd re.toList k)) re.size:=⟨ro,re,rp,rt,x.get,x.ex,x.dat,x.el,λk=>by rw[decide_eq_true_eq];rfl,lt_trans x.sz (by decide),x.fit,rfl⟩
 refine wpAny_setAddHashed_of hk hsc hS (lt_trans room (by decide)) λh' sb hS'=>?_
 obtain⟨o',es',ep',t',g1,g2,g3,g4,g5,g6,g7,g8⟩:=hS'
 have hz:es'.size<=re.size+1:=by rw[g8];split<;>omega
 refine h h' _ o' es' ep' t' sb ⟨g1,g2,g3,g4,by omega,g7⟩ hz λk'=>?_
 have:=g5 k'
 rw[Bool.or_eq_true,decide_eq_true_eq,decide_eq_true_eq]at this
 exact this.symm
theorem Zk{l l':List (Int×Value)}(p:l'.Perm l)(k:K):Mm knd l' k↔Mm knd l k:=⟨λ⟨e,h1,h2⟩=>⟨e,p.mem_iff.mp h1,h2⟩,λ⟨e,h1,h2⟩=>⟨e,p.mem_iff.mpr h1,h2⟩⟩
theorem Xx(want:Bool){id:String}(x:At knd s.heap a o es ep t)(y:At knd s.heap b oo eo epo tb)(z:At knd s.heap r ro re rp rt)(hra:r≠a)(hrb:r≠b)(he:re= #[])(L:Array (Int×Value))(hL:ElemsOf knd L.toList)(hz:L.size<63){Q:Unit->Shared->Prop}(h:∀ h' ro' re' rp' rt',SameBut r s.heap h'->At knd h' r ro' re' rp' rt'->(∀ k,Mm knd re'.toList k↔Mm knd L.toList k/\(Mm knd eo.toList k↔want=true))->Q () {s with heap:=h'})(body:Int×Value->Unit->Sem (ForInStep Unit))(hb:∀ e u,body e u=(do holding [e.2] (do if((<-setFind b e.2 e.1).isSome==want)=true then(do let _ <-setAddHashed r e.2 e.1;pure ()) else pure ());Builtin.Frozenset.unchanged id a ep;pure (ForInStep.yield ()))):
  wpAny (model prog w) A (forIn L () body) Q E s:=by
 subst he
 refine MeetsSeq2.wpAny_forIn_array _ (λrest _ s'=>∃ done h' ro' re' rp' rt',L.toList=done++rest/\s'= {s with heap:=h'}/\SameBut r s.heap h'/\At knd h' r ro' re' rp' rt'/\re'.size<=done.length/\(∀ k,Mm knd re'.toList k↔Mm knd done k/\(Mm knd eo.toList k↔want=true))) _ ?_ ?_ L () ⟨[],s.heap,ro,#[],rp,rt,rfl,rfl,SameBut.refl _ _,z,by simp,λk=>⟨λ⟨_,q,_⟩=>by simp at q,λ⟨⟨_,q,_⟩,_⟩=>by simp at q⟩⟩
 .rintro e rest u s' ⟨done,h',ro',re',rp',rt',e1,rfl,sb,g,hsz,mm⟩
  rw[hb]
  have hee:=hL e (by rw[e1];simp)
  obtain⟨⟨k,hk,hh⟩,hsc⟩:=hee
  have x':At knd h' a o es ep t:=x.up (sb.extBut _ _ (Ne.symm hra) x.get)
  have y':At knd h' b oo eo epo tb:=y.up (sb.extBut _ _ (Ne.symm hrb) y.get)
  have hl:done.length+(rest.length+1)=L.size:=by rw[<-length_toList,e1];simp
  refine wpAny_bind (wpAny_holding (wpAny_bind ?_))
  rw[hh]
  refine Wx (s:= {s with heap:=h'}) y' hk hsc ?_
  have fs:=Xp (knd:=knd) (es:=eo) (k:=k)
  have step:∀ h2 ro2 re2 rp2 rt2,SameBut r h' h2->At knd h2 r ro2 re2 rp2 rt2->re2.size<=re'.size+1->(∀ k',Mm knd re2.toList k'↔Mm knd (done++ [e]) k'/\(Mm knd eo.toList k'↔want=true))->
    ∃ done h3 ro' re' rp' rt',L.toList=done++rest/\({s with heap:=h2}:Shared)= {s with heap:=h3}/\SameBut r s.heap h3/\At knd h3 r ro' re' rp' rt'/\re'.size<=done.length/\(∀ k,Mm knd re'.toList k↔Mm knd done k/\(Mm knd eo.toList k↔want=true)):=λh2 ro2 re2 rp2 rt2 sb2 g2 hs2 mm2=>
   ⟨done++ [e],h2,ro2,re2,rp2,rt2,by rw[e1];simp,rfl,sb.trans sb2,g2,by rw[length_append,length_singleton];omega,mm2⟩
  have app:∀ k',Mm knd (done++ [e]) k'↔Mm knd done k'\/k'=k:=λk'=>by
   constructor
   .rintro⟨f,h1,h2⟩
    rcases mem_append.mp h1 with q|q
    .exact .inl ⟨f,q,h2⟩
    .rw[mem_singleton]at q;subst q;exact .inr (knd.inj _ _ _ h2 hk)
   .rintro(⟨f,h1,h2⟩|rfl)
    .exact⟨f,mem_append_left _ h1,h2⟩
    .exact⟨e,by simp,hk⟩
  split
  .rename_i hc
   refine wpAny_bind (UN (s:= {s with heap:=h'}) g hk hsc (by omega) λh2 c ro2 re2 rp2 rt2 sb2 g2 hs2 mm2=>wpAny_pure (wpAny_bind (Cr (s:= {s with heap:=h2}) (x'.up (sb2.extBut _ _ (Ne.symm hra) x'.get)) (wpAny_pure (step h2 ro2 re2 rp2 rt2 sb2 g2 hs2 λk'=>?_)))))
   rw[mm2,mm,app]
   have:Mm knd eo.toList k↔want=true:=by rw[<-fs,beq_iff_eq.mp hc]
   constructor
   .rintro(⟨q1,q2⟩|rfl)
    .exact⟨.inl q1,q2⟩
    .exact⟨.inr rfl,this⟩
   .rintro⟨q1|rfl,q2⟩
    .exact .inl ⟨q1,q2⟩
    .exact .inr rfl
  .rename_i hc
   refine wpAny_pure (wpAny_bind (Cr (s:= {s with heap:=h'}) x' (wpAny_pure (step h' ro' re' rp' rt' (SameBut.refl _ _) g (by omega) λk'=>?_))))
   rw[mm,app]
   have:¬ (Mm knd eo.toList k↔want=true):=λq=>hc (by rw[beq_iff_eq];rw[<-fs]at q;exact Bool.eq_iff_iff.mpr q)
   constructor
   .rintro⟨q1,q2⟩;exact⟨.inl q1,q2⟩
   .rintro⟨q1|rfl,q2⟩
    .exact⟨q1,q2⟩
    .exact absurd q2 this
 .rintro u s' ⟨done,h',ro',re',rp',rt',e1,rfl,sb,g,hsz,mm⟩
  rw[append_nil]at e1
  rw[<-e1]at mm
  exact h h' ro' re' rp' rt' sb g mm
end
end
section
variable {prog:Program}{w:World}{K:Type}[DecidableEq K]{knd:KeyKind prog w K}{A:Around}{E:Value->Shared->Prop}{s:Shared}
variable {a b r:Addr}{o oo ro:Obj}{es eo re:Array (Int×Value)}{ep epo rp:Nat}{t tb rt:SetTable}
theorem Ft:∀ n,n<128->(Msk (SetTable.sizeAbove n-1))/\n<=SetTable.sizeAbove n-1/\SetTable.sizeAbove n<=128:=by
 have h:(range 128).all (λn=>decide ((SetTable.sizeAbove n-1=7\/SetTable.sizeAbove n-1=15\/SetTable.sizeAbove n-1=31\/SetTable.sizeAbove n-1=63\/SetTable.sizeAbove n-1=127)/\n<=SetTable.sizeAbove n-1/\SetTable.sizeAbove n<=128))=true:=by decide +kernel
 intro n hn
 have:=all_eq_true.mp h n (mem_range.mpr hn)
 rw[decide_eq_true_eq]at this
 exact this
theorem Mt{es:Array (Int×Value)}{l:Option (SetTable×Array Nat)}{t:SetTable}{order:Array Nat}{Q:Array (Int×Value)×SetTable->Shared->Prop}(hl:l=some (t,order))(hp:order.toList.Perm (range es.size))(h:∀ es':Array (Int×Value),es'.toList.Perm es.toList->Q (es',t) s):
  wpAny (model prog w) A (do
   let some (t,order):=l|unsupported "internal:set-table-without-room"
   let es':=order.filterMap (es[·]?)
   if es'.size != es.size then unsupported "internal:set-table-lost-an-element"
   pure (es',t)) Q E s:=by
 subst hl
 dsimp only
 have p:(order.filterMap (es[·]?)).toList.Perm es.toList:=by
  rw[Array.toList_filterMap]
  exact(hp.filterMap _).trans (by rw[filterMap_getElem?_range])
 have e:(order.filterMap (es[·]?)).size=es.size:=by rw[<-length_toList,p.length_eq,length_toList]
 rw[if_neg (by rw[e];simp)]
 exact wpAny_pure (h _ p)
theorem Kt(x:At knd s.heap r ro re rp rt){n:Nat}(hn:n<128)(hz:re.size<=n){Q:Unit->Shared->Prop}(h:∀ h' ro' re' rp' rt',SameBut r s.heap h'->At knd h' r ro' re' rp' rt'->re'.toList.Perm re.toList->rt'.mask=SetTable.sizeAbove n-1->rt'.fill=re.size->Q () {s with heap:=h'}):
  wpAny (model prog w) A (setRelay r n) Q E s:=by
 obtain⟨hm,h1,h2⟩:=Ft n hn
 unfold setRelay
 refine wpAny_bind (Zc x ?_)
 dsimp only
 rw[if_neg (by rw[sizeLine_eq];omega)]
 obtain⟨t',order,e1,e2,e3,e4,e5⟩:=Pu hm (finger:=rt.finger) (moves:=rt.movedTo (SetTable.sizeAbove n-1)) (led:=rt.led) (plain:=rt.plain) (hs:=re.map (·.1)) (by rw[size_map];omega)
 rw[size_map]at e2 e3 e5
 refine wpAny_bind (Mt (t:=t') (order:=order) e1 e2 λes' p=>?_)
 have ez:es'.size=re.size:=by rw[<-length_toList,p.length_eq,length_toList]
 dsimp only
 refine Mi x (by rw[ez];exact x.sz) ?_
 exact h _ _ _ _ _ (SameBut.update _ _ _) (x.store (x.el.perm p) (by rw[ez];exact x.sz) (by rw[ez];exact e3)) p e4 e5
theorem Hw{Q:Value->Shared->Prop}(h:∀ ro led,(s.heap.get? s.heap.objs.size=none)->At knd (s.heap.push {cls:=.type "set",dict:=none,data:=.set #[] 0 (.fresh 0 0 led)}) s.heap.objs.size ro #[] 0 (.fresh 0 0 led)->
   Q (.ref s.heap.objs.size) {s with heap:=s.heap.push {cls:=.type "set",dict:=none,data:=.set #[] 0 (.fresh 0 0 led)}}):
  wpAny (model prog w) A (newSet (.type "set")) Q E s:=by
 unfold newSet setsByText
 refine wpAny_bind (wpAny_bind (wpAny_askSetting (wpAny_pure ?_)))
 dsimp only
 simp only[newObj]
 refine wpAny_bind (wpAny_alloc (wpAny_pure (h _ _ ?_ ⟨get?_push_size _ rfl,⟨rfl,rfl,rfl⟩,rfl,λe he=>by simp at he,by decide,by rfl⟩)))
 cases hg:s.heap.get? s.heap.objs.size with
 |none=>rfl
 |some o=>exact absurd (lt_size hg) (lt_irrefl _)
theorem QH(x:At knd s.heap a o es ep t)(hz:es.size<32){Q:Value->Shared->Prop}(h:∀ h' ro' re' rp' rt',(∀ b o,s.heap.get? b=some o->h'.get? b=some o)->At knd h' s.heap.objs.size ro' re' rp' rt'->re'.toList.Perm es.toList->Q (.ref s.heap.objs.size) {s with heap:=h'}):
  wpAny (model prog w) A (Builtin.Frozenset.copyOf a) Q E s:=by
 unfold Builtin.Frozenset.copyOf
 refine wpAny_bind (Br x (wpAny_bind (Hw (knd:=knd) λro led hno y=>?_)))
 generalize hg:s.heap.push {cls:=.type "set",dict:=none,data:=.set #[] 0 (.fresh 0 0 led)}=h1 at y
 have k1:∀ b o,s.heap.get? b=some o->h1.get? b=some o:=λb o e=>by rw[<-hg];exact get?_push_of_some _ e
 have x1:At knd h1 a o es ep t:=x.up (k1 _ _ x.get)
 have lt:∀ b o,s.heap.get? b=some o->b≠s.heap.objs.size:=λb o e=>ne_of_lt (lt_size e)
 clear hg
 generalize s.heap.objs.size=r at y lt h ⊢
 have hra:r≠a:=Ne.symm (lt _ _ x.get)
 have kk:∀ h2,SameBut r h1 h2->∀ b o,s.heap.get? b=some o->h2.get? b=some o:=λh2 sb b o e=>sb.extBut _ _ (lt _ _ e) (k1 _ _ e)
 refine wpAny_bind (wpAny_pure (wpAny_bind ?_))
 unfold setMerge
 rw[if_neg (by simpa using hra)]
 refine wpAny_bind (Zc (s:= {s with heap:=h1}) x1 ?_)
 dsimp only
 split
 .rename_i he
  have:es= #[]:=by simpa using he
  subst this
  exact wpAny_pure (wpAny_pure (h _ _ _ _ _ k1 y (Perm.refl _)))
 .have go:∀ h2 ro2 re2 rp2 rt2,SameBut r h1 h2->At knd h2 r ro2 re2 rp2 rt2->Msk rt2.mask->es.size<=rt2.mask->rt2.fill=0->
    wpAny (model prog w) A (do
     let (_,_,ts) <-setState r
     match ts.road t with
     | .slotForSlot=>storeSet r es {t with finger:=ts.finger,led:=ts.led&&t.led,moves:=ts.moves,plain:=ts.plain&&t.plain}
     | .clean=>do
      let (es,t) <-(do
       let some (t,order):=(SetTable.laid ts.mask ts.finger ts.moves (led:=ts.led&&t.led) (plain:=ts.plain&&t.plain) (es.map (·.1)))|unsupported "internal:set-table-without-room"
       let es':=order.filterMap (es[·]?)
       if es'.size != es.size then unsupported "internal:set-table-lost-an-element"
       pure (es',t))
      storeSet r es t
     | .oneByOne=>do
      for (h,x) in <-setWalkUnseen a [r] (some r) do
       let _ <-holding [x] (setAddHashed r x h)
       pure ()
       if(<-setState a).2.1 != ep then unsupported "set.changed-during-merge")
     (λ_ s'=>wpAny (model prog w) A (pure (Value.ref r)) Q E s') E {s with heap:=h2}:=λh2 ro2 re2 rp2 rt2 sb y2 hm hn hf=>by
   refine wpAny_bind (Zc (s:= {s with heap:=h2}) y2 ?_)
   dsimp only
   unfold SetTable.road
   rw[hf,if_neg (by simp)]
   split
   .rename_i hr
    split at hr
    .refine Mi (s:= {s with heap:=h2}) y2 x.sz (wpAny_pure ?_)
     exact h _ _ _ _ _ (kk _ (sb.trans (SameBut.update _ _ _))) (y2.store x.el x.sz (show SetTable.fits _ _=true from x.fit)) (Perm.refl _)
    .cases hr
   .obtain⟨t',order,e1,e2,e3,e4,e5⟩:=Pu hm (finger:=rt2.finger) (moves:=rt2.moves) (led:=rt2.led&&t.led) (plain:=rt2.plain&&t.plain) (hs:=es.map (·.1)) (by rw[size_map];exact hn)
    rw[size_map]at e2 e3
    refine wpAny_bind (Mt (t:=t') (order:=order) e1 e2 λes' p=>?_)
    have ez:es'.size=es.size:=by rw[<-length_toList,p.length_eq,length_toList]
    dsimp only
    refine Mi (s:= {s with heap:=h2}) y2 (by rw[ez];exact x.sz) (wpAny_pure ?_)
    exact h _ _ _ _ _ (kk _ (sb.trans (SameBut.update _ _ _))) (y2.store (x.el.perm p) (by rw[ez];exact x.sz) (by rw[ez];exact e3)) p
   .rename_i hr
    split at hr<;>cases hr
  refine wpAny_bind ?_
  unfold setRoomFor
  refine wpAny_bind (Zc (s:= {s with heap:=h1}) y ?_)
  show wpAny _ _ (match (if(0+es.size)*5>=7*3 then some ((0+es.size)*2) else none) with|some wanted=>setRelay r wanted|_=>pure PUnit.unit) _ _ _
  split
  .rename_i wanted hw
   split at hw
   .cases hw
    refine Kt (s:= {s with heap:=h1}) y (by omega) (by simp) λh2 ro2 re2 rp2 rt2 sb y2 p e4 e5=>?_
    obtain⟨hm,h1,_⟩:=Ft ((0+es.size)*2) (by omega)
    exact go h2 ro2 re2 rp2 rt2 sb y2 (by rw[e4];exact hm) (by rw[e4];omega) e5
   .cases hw
  .rename_i hw
   split at hw
   .exact absurd rfl (hw _)
   .exact wpAny_pure (go h1 _ _ _ _ (SameBut.refl _ _) y (.inl rfl) (by show _<=7;omega) rfl)
end
section
variable {prog:Program}{w:World}{K:Type}[DecidableEq K]{knd:KeyKind prog w K}{A:Around}{E:Value->Shared->Prop}{s:Shared}
variable {a b r:Addr}{o oo ro:Obj}{es eo re:Array (Int×Value)}{ep epo rp:Nat}{t tb rt:SetTable}
theorem Vn{α:Type}(xs:Array α)(i:Nat):(SetTable.eraseAt xs i).toList=xs.toList.take i++xs.toList.drop (i+1):=by
 simp[SetTable.eraseAt,List.extract_eq_take_drop,take_of_length_le]
theorem GA{n i:Nat}(h:t.fits n=true)(hi:i<n):(t.drop i).fits (n-1)=true:=by
 unfold SetTable.fits at h ⊢
 rw[and_eq_true,beq_iff_eq,decide_eq_true_eq]at h
 have hp:t.place[i]? =some (t.place[i]'(by omega)):=Array.getElem?_eq_getElem _
 unfold SetTable.drop
 rw[hp]
 have h1:(SetTable.eraseAt t.place i).size=n-1:=by rw[<-length_toList,Vn];simp;omega
 have h2:∀ p j,(SetTable.insertAt t.dummies p j).size=t.dummies.size+1:=λp j=>by
  rw[<-length_toList,(SetTable.insertAt_perm _ _ _).length_eq];simp
 have h3:=h.2
 unfold SetTable.fill at h3 ⊢
 simp only[h1,h2,and_eq_true,beq_self_eq_true,true_and,decide_eq_true_eq]
 omega
theorem RH(x:At knd s.heap r ro re rp rt)(hd:JH knd re.toList){k:K}{v:Value}(hk:knd.is k v=true)(hsc:v.scannable=true){Q:Bool->Shared->Prop}(h:∀ h' c ro' re' rp' rt',SameBut r s.heap h'->At knd h' r ro' re' rp' rt'->JH knd re'.toList->re'.size<=re.size->(∀ k',Mm knd re'.toList k'↔Mm knd re.toList k'/\k'≠k)->Q c {s with heap:=h'}):
  wpAny (model prog w) A (setDiscardHashed r v (knd.hash k)) Q E s:=by
 unfold setDiscardHashed
 refine wpAny_bind (Wx x hk hsc ?_)
 cases hf:re.toList.findIdx? λe=>knd.is k e.2 with
 |none=>
  refine wpAny_pure (h s.heap _ _ _ _ _ (SameBut.refl _ _) x hd (le_refl _) λk'=>⟨λq=>⟨q,λz=>?_⟩,λq=>q.1⟩)
  subst z
  have:=(Xp (knd:=knd) (es:=re)).mpr q
  rw[hf]at this;cases this
 |some i=>
  obtain⟨hi,hki,_⟩:=List.findIdx?_eq_some_iff_getElem.mp hf
  dsimp only
  refine wpAny_bind (Zc x ?_)
  dsimp only
  have hi':i<re.size:=by rw[<-length_toList];exact hi
  have el:=Vn re i
  have hsub:∀ e∈(SetTable.eraseAt re i).toList,e∈re.toList:=λe he=>by
   rw[el]at he
   rcases mem_append.mp he with q|q
   .exact List.mem_of_mem_take q
   .exact List.mem_of_mem_drop q
  have hz:(SetTable.eraseAt re i).size=re.size-1:=by rw[<-length_toList,el];simp;omega
  have split:re.toList=re.toList.take i++re.toList[i]::re.toList.drop (i+1):=by
   rw[<-List.drop_eq_getElem_cons hi,List.take_append_drop]
  have hd2:=hd
  unfold JH at hd2
  rw[split,List.pairwise_append,pairwise_cons]at hd2
  have hel:ElemsOf knd (SetTable.eraseAt re i).toList:=λe he=>x.el e (hsub e he)
  have fit:(rt.drop i).fits (SetTable.eraseAt re i).size=true:=by rw[hz];exact GA x.fit hi'
  refine wpAny_bind (Mi x (by rw[hz];have:=x.sz;omega) (wpAny_bind (wpAny_point (wpAny_pure ?_))))
  refine h _ _ _ _ _ _ (SameBut.update _ _ _) (x.store hel (by rw[hz];have:=x.sz;omega) fit) ?_ (by omega) λk'=>?_
  .unfold JH
   rw[el,List.pairwise_append]
   exact⟨hd2.1,hd2.2.1.2,λe he f hf=>hd2.2.2 e he f (mem_cons_of_mem _ hf)⟩
  .constructor
   .rintro⟨e,he,hke⟩
    refine⟨⟨e,hsub e he,hke⟩,λz=>?_⟩
    subst z
    rw[el]at he
    rcases mem_append.mp he with q|q
    .exact hd2.2.2 e q _ mem_cons_self k' hke hki
    .exact hd2.2.1.1 e q k' hki hke
   .rintro⟨⟨e,he,hke⟩,hne⟩
    refine⟨e,?_,hke⟩
    rw[split]at he
    rw[el]
    rcases mem_append.mp he with q|q
    .exact mem_append_left _ q
    .rcases mem_cons.mp q with q|q
     .exact absurd (knd.inj _ _ _ hke (q▸hki)) hne
     .exact mem_append_right _ q
theorem LC{id:String}(y:At knd s.heap b oo eo epo tb)(z:At knd s.heap r ro re rp rt)(hd:JH knd re.toList)(hrb:r≠b)(L:Array (Int×Value))(hL:ElemsOf knd L.toList){Q:Unit->Shared->Prop}(h:∀ h' ro' re' rp' rt',SameBut r s.heap h'->At knd h' r ro' re' rp' rt'->re'.size<=re.size->(∀ k,Mm knd re'.toList k↔Mm knd re.toList k/\¬ Mm knd L.toList k)->Q () {s with heap:=h'})(body:Int×Value->Unit->Sem (ForInStep Unit))(hb:∀ e u,body e u=(do let _ <-holding [e.2] (setDiscardHashed r e.2 e.1);Builtin.Frozenset.unchanged id b epo;pure (ForInStep.yield ()))):
  wpAny (model prog w) A (forIn L () body) Q E s:=by
 refine MeetsSeq2.wpAny_forIn_array _ (λrest _ s'=>∃ done h' ro' re' rp' rt',L.toList=done++rest/\s'= {s with heap:=h'}/\SameBut r s.heap h'/\At knd h' r ro' re' rp' rt'/\JH knd re'.toList/\re'.size<=re.size/\(∀ k,Mm knd re'.toList k↔Mm knd re.toList k/\¬ Mm knd done k)) _ ?_ ?_ L () ⟨[],s.heap,ro,re,rp,rt,rfl,rfl,SameBut.refl _ _,z,hd,le_refl _,λk=>⟨λq=>⟨q,λ⟨_,q,_⟩=>by simp at q⟩,λq=>q.1⟩⟩
 .rintro e rest u s' ⟨done,h',ro',re',rp',rt',e1,rfl,sb,g,hd',hsz,mm⟩
  rw[hb]
  obtain⟨⟨k,hk,hh⟩,hsc⟩:=hL e (by rw[e1];simp)
  have y':At knd h' b oo eo epo tb:=y.up (sb.extBut _ _ (Ne.symm hrb) y.get)
  refine wpAny_bind (wpAny_holding ?_)
  rw[hh]
  refine RH (s:= {s with heap:=h'}) g hd' hk hsc λh2 c ro2 re2 rp2 rt2 sb2 g2 hd2 hs2 mm2=>?_
  refine wpAny_bind (Cr (s:= {s with heap:=h2}) (y'.up (sb2.extBut _ _ (Ne.symm hrb) y'.get)) (wpAny_pure ⟨done++ [e],h2,ro2,re2,rp2,rt2,by rw[e1];simp,rfl,sb.trans sb2,g2,hd2,by omega,λk'=>?_⟩))
  rw[mm2,mm]
  constructor
  .rintro⟨⟨q1,q2⟩,q3⟩
   refine⟨q1,λ⟨f,h1,h2⟩=>?_⟩
   rcases mem_append.mp h1 with q|q
   .exact q2 ⟨f,q,h2⟩
   .rw[mem_singleton]at q;subst q;exact q3 (knd.inj _ _ _ h2 hk)
  .rintro⟨q1,q2⟩
   exact⟨⟨q1,λ⟨f,h1,h2⟩=>q2 ⟨f,mem_append_left _ h1,h2⟩⟩,λz=>q2 ⟨e,by simp,z▸hk⟩⟩
 .rintro u s' ⟨done,h',ro',re',rp',rt',e1,rfl,sb,g,_,hsz,mm⟩
  rw[append_nil]at e1
  rw[<-e1]at mm
  exact h h' ro' re' rp' rt' sb g hsz mm
theorem SH(x:At knd s.heap r ro re rp rt)(hz:re.size<32){Q:Unit->Shared->Prop}(h:∀ h' ro' re' rp' rt',SameBut r s.heap h'->At knd h' r ro' re' rp' rt'->re'.toList.Perm re.toList->Q () {s with heap:=h'}):wpAny (model prog w) A (setTidy r) Q E s:=by
 unfold setTidy
 refine wpAny_bind (Zc x ?_)
 dsimp only
 split
 .have:SetTable.grown re.size=re.size*4:=if_neg (by omega)
  rw[this]
  exact Kt x (by omega) (by omega) λh' ro' re' rp' rt' sb y p _ _=>h h' ro' re' rp' rt' sb y p
 .exact wpAny_pure (h s.heap _ _ _ _ (SameBut.refl _ _) x (Perm.refl _))
def Op(knd:KeyKind prog w K)(s:Shared)(P:K->Prop)(Q:Value->Shared->Prop):Prop:=
 ∀ h' ro' re' rp' rt',(∀ b o,s.heap.get? b=some o->h'.get? b=some o)->At knd h' s.heap.objs.size ro' re' rp' rt'->(∀ k,Mm knd re'.toList k↔P k)->Q (.ref s.heap.objs.size) {s with heap:=h'}
theorem WN{id:String}(x:At knd s.heap a o es ep t)(y:At knd s.heap b oo eo epo tb)(hd:JH knd es.toList)(hz:es.size<32)(hzo:eo.size<32){Q:Value->Shared->Prop}(h:Op knd s (λk=>Mm knd es.toList k/\¬ Mm knd eo.toList k) Q):
  wpAny (model prog w) A (Builtin.Frozenset.difference id a (.ref b)) Q E s:=by
 unfold Builtin.Frozenset.difference
 refine wpAny_bind (Gg y ?_)
 simp only[Bool.not_true,false_eq_true,if_false,Bool.false_and,if_true]
 refine wpAny_bind (wpAny_pure (wpAny_bind (Gj y (wpAny_bind (Gj x ?_)))))
 have lt:∀ b o,s.heap.get? b=some o->s.heap.objs.size≠b:=λb o e=>ne_of_gt (lt_size e)
 split
 .refine wpAny_bind (wpAny_rule (wpAny_bind (QH x hz λh1 ro re rp rt k1 g p=>?_)))
  have hlen:re.size=es.size:=by rw[<-length_toList,p.length_eq,length_toList]
  refine wpAny_bind (wpAny_pure ?_)
  have y1:At knd h1 b oo eo epo tb:=y.up (k1 _ _ y.get)
  have hrb:=lt _ _ y.get
  have x1:At knd h1 a o es ep t:=x.up (k1 _ _ x.get)
  unfold Op at h
  generalize s.heap.objs.size=r at g lt hrb h ⊢
  refine wpAny_bind (wpAny_holding ?_)
  unfold Builtin.Frozenset.differenceUpdate
  rw[if_neg (by simpa using Ne.symm hrb)]
  refine wpAny_bind (Gg (s:= {s with heap:=h1}) y1 ?_)
  simp only[if_true]
  refine wpAny_bind (wpAny_pure (wpAny_bind (Gj (s:= {s with heap:=h1}) y1 (wpAny_bind (Gj (s:= {s with heap:=h1}) g ?_)))))
  rw[if_neg (by omega)]
  refine wpAny_bind (Li (s:= {s with heap:=h1}) y1 ?_)
  refine wpAny_bind (wpAny_holding (wpAny_bind (MC (s:= {s with heap:=h1}) y1 (λc hc=>?_) λL pL=>wpAny_bind ?_)))
  .rcases mem_cons.mp hc with z|z
   .subst z;exact⟨_,_,_,_,y1⟩
   .rw[mem_singleton]at z;subst z;exact⟨_,_,_,_,g⟩
  refine LC (s:= {s with heap:=h1}) (id:=id) y1 g (hd.perm p.symm λ{e f} q k h1 h2=>q k h2 h1) hrb L (y1.el.perm pL) (λh2 ro2 re2 rp2 rt2 sb g2 hs2 mm=>wpAny_pure ?_) _ λe u=>rfl
  refine SH (s:= {s with heap:=h2}) g2 (by omega) λh3 ro3 re3 rp3 rt3 sb3 g3 p3=>wpAny_pure ?_
  refine h h3 ro3 re3 rp3 rt3 (λc oc e=>(sb.trans sb3).extBut _ _ (Ne.symm (lt _ _ e)) (k1 _ _ e)) g3 λk=>?_
  rw[Zk p3,mm,Zk p,Zk pL]
 .refine wpAny_bind (Br x (wpAny_bind (Hw (knd:=knd) λro led hno z=>wpAny_bind (wpAny_pure ?_))))
  generalize hg:s.heap.push {cls:=.type "set",dict:=none,data:=.set #[] 0 (.fresh 0 0 led)}=h1 at z ⊢
  have k1:∀ b o,s.heap.get? b=some o->h1.get? b=some o:=λb o e=>by rw[<-hg];exact get?_push_of_some _ e
  clear hg
  unfold Op at h
  generalize s.heap.objs.size=r at z lt h ⊢
  have x1:At knd h1 a o es ep t:=x.up (k1 _ _ x.get)
  have y1:At knd h1 b oo eo epo tb:=y.up (k1 _ _ y.get)
  have hra:=lt _ _ x.get
  have hrb:=lt _ _ y.get
  refine wpAny_bind (Li (s:= {s with heap:=h1}) x1 ?_)
  refine wpAny_bind (wpAny_holding (wpAny_bind (Nt (s:= {s with heap:=h1}) x1 z (λc hc=>?_) λL h2 ro2 rp2 rt2 pL sb g=>?_)))
  .simp only[mem_cons,not_mem_nil,or_false]at hc
   rcases hc with q|q|q
   .subst q;exact⟨_,_,_,_,x1⟩
   .subst q;exact⟨_,_,_,_,y1⟩
   .subst q;exact⟨_,_,_,_,z⟩
  have x2:At knd h2 a o es ep t:=x1.up (sb.extBut _ _ (Ne.symm hra) x1.get)
  have y2:At knd h2 b oo eo epo tb:=y1.up (sb.extBut _ _ (Ne.symm hrb) y1.get)
  have hlen:L.size=es.size:=by rw[<-length_toList,pL.length_eq,length_toList]
  refine wpAny_bind ?_
  refine Xx (s:= {s with heap:=h2}) false (id:=id) x2 y2 g hra hrb rfl L (x2.el.perm pL) (by omega) (λh3 ro3 re3 rp3 rt3 sb3 g3 mm=>?_) _ λe u=>?_
  .refine wpAny_pure ?_
   refine wpAny_pure ?_
   refine h h3 ro3 re3 rp3 rt3 (λc oc e=>(sb.trans sb3).extBut _ _ (Ne.symm (lt _ _ e)) (k1 _ _ e)) g3 λk=>?_
   rw[mm,Zk pL];simp
  .simp
theorem VN{id:String}(x:At knd s.heap a o es ep t)(y:At knd s.heap b oo eo epo tb)(hne:a≠b)(hz:es.size<32)(hzo:eo.size<32){Q:Value->Shared->Prop}(h:Op knd s (λk=>Mm knd es.toList k/\Mm knd eo.toList k) Q):
  wpAny (model prog w) A (Builtin.Frozenset.intersection id a (.ref b)) Q E s:=by
 unfold Builtin.Frozenset.intersection
 rw[if_neg (by simpa using Ne.symm hne)]
 have lt:∀ b o,s.heap.get? b=some o->s.heap.objs.size≠b:=λb o e=>ne_of_gt (lt_size e)
 refine wpAny_bind (Br x (wpAny_bind (Hw (knd:=knd) λro led hno z=>wpAny_bind (wpAny_pure ?_))))
 generalize hg:s.heap.push {cls:=.type "set",dict:=none,data:=.set #[] 0 (.fresh 0 0 led)}=h1 at z ⊢
 have k1:∀ b o,s.heap.get? b=some o->h1.get? b=some o:=λb o e=>by rw[<-hg];exact get?_push_of_some _ e
 clear hg
 unfold Op at h
 generalize s.heap.objs.size=r at z lt h ⊢
 have x1:At knd h1 a o es ep t:=x.up (k1 _ _ x.get)
 have y1:At knd h1 b oo eo epo tb:=y.up (k1 _ _ y.get)
 have hra:=lt _ _ x.get
 have hrb:=lt _ _ y.get
 refine wpAny_bind (wpAny_holding (wpAny_bind (Gg (s:= {s with heap:=h1}) y1 ?_)))
 simp only[if_true]
 refine wpAny_bind (wpAny_pure (wpAny_bind (Gj (s:= {s with heap:=h1}) y1 (wpAny_bind (Gj (s:= {s with heap:=h1}) x1 ?_)))))
 have main:∀ {c d:Addr} {oc od:Obj} {ec ed:Array (Int×Value)} {pc pd:Nat} {tc td:SetTable},At knd h1 c oc ec pc tc->At knd h1 d od ed pd td->r≠c->r≠d->ec.size<32->(∀ k,(Mm knd es.toList k/\Mm knd eo.toList k)↔(Mm knd ec.toList k/\Mm knd ed.toList k))->∀ (body:Int×Value->Unit->Sem (ForInStep Unit)),(∀ e u,body e u=(do holding [e.2] (do if((<-setFind d e.2 e.1).isSome==true)=true then(do let _ <-setAddHashed r e.2 e.1;pure ()) else pure ());Builtin.Frozenset.unchanged id c pc;pure (ForInStep.yield ())))->
   wpAny (model prog w) A (do let L <-setWalkUnseen c [d,r] (some r);forIn L () body;pure ()) (λ_ s'=>wpAny (model prog w) A (pure (Value.ref r)) Q E s') E {s with heap:=h1}:=by
  intro c d oc od ec ed pc pd tc td xc yd hrc hrd hsz hmm body hbody
  refine wpAny_bind (Nt (s:= {s with heap:=h1}) xc z (λq hq=>?_) λL h2 ro2 rp2 rt2 pL sb g=>?_)
  .simp only[mem_cons,not_mem_nil,or_false]at hq
   rcases hq with e|e|e
   .subst e;exact⟨_,_,_,_,xc⟩
   .subst e;exact⟨_,_,_,_,yd⟩
   .subst e;exact⟨_,_,_,_,z⟩
  have x2:At knd h2 c oc ec pc tc:=xc.up (sb.extBut _ _ (Ne.symm hrc) xc.get)
  have y2:At knd h2 d od ed pd td:=yd.up (sb.extBut _ _ (Ne.symm hrd) yd.get)
  have hlen:L.size=ec.size:=by rw[<-length_toList,pL.length_eq,length_toList]
  refine wpAny_bind ?_
  refine Xx (s:= {s with heap:=h2}) true (id:=id) x2 y2 g hrc hrd rfl L (x2.el.perm pL) (by omega) (λh3 ro3 re3 rp3 rt3 sb3 g3 mm=>?_) body hbody
  refine wpAny_pure ?_
  refine wpAny_pure ?_
  refine h h3 ro3 re3 rp3 rt3 (λc oc e=>(sb.trans sb3).extBut _ _ (Ne.symm (lt _ _ e)) (k1 _ _ e)) g3 λk=>?_
  rw[mm,Zk pL]
  simp only[iff_true]
  exact(hmm k).symm
 split
 .dsimp only
  refine wpAny_bind (Li (s:= {s with heap:=h1}) x1 ?_)
  exact main x1 y1 hra hrb hz (λk=>Iff.rfl) _ λe u=>by simp
 .dsimp only
  refine wpAny_bind (Li (s:= {s with heap:=h1}) y1 ?_)
  exact main y1 x1 hrb hra hzo (λk=>And.comm) _ λe u=>by simp
end
end L3
namespace L3
open PySem PySem.Spec PyProof.Rows L2 SeqAt
theorem Ap:entryFor table "set.__sub__"=some Builtin.«frozenset.__sub__» :=entryFor_alias (id':="frozenset.__sub__") (by kernel_rfl) rfl (by decide +kernel) (by kernel_rfl)
theorem Zo:entryFor table "set.__and__"=some Builtin.«frozenset.__and__» :=entryFor_alias (id':="frozenset.__and__") (by kernel_rfl) rfl (by decide +kernel) (by kernel_rfl)
section
variable {prog:Program}{w:World}{K:Type}[DecidableEq K]{knd:KeyKind prog w K}{A:Around}{E:Value->Shared->Prop}{s:Shared}
variable {a b:Addr}{σ τ:List K}
def Tg(op:Operator)(σ τ:List K):List K:=match op with
 | .Sub=>σ.filter λk=>decide (k∉τ)
 |_=>σ.filter λk=>decide (k∈τ)
theorem CT(op:Operator)(hop:op= .Sub\/op= .BitAnd)(x:SB knd s.heap a σ)(y:SB knd s.heap b τ)(hne:a≠b)(nd:σ.Nodup)(h1:σ.length<32)(h2:τ.length<32){Q:Value->Shared->Prop}(h:∀ h' o es ep t,(∀ b o,s.heap.get? b=some o->h'.get? b=some o)->h'.get? s.heap.objs.size=some o->o.ExactSet->o.data=.set es ep t->t.fits es.size=true->es.size<64->(es.size=0↔Tg op σ τ= [])->Q (.ref s.heap.objs.size) {s with heap:=h'}):
  wpAny (model prog w) A (binaryOp op (.ref a) (.ref b)) Q E s:=by
 obtain⟨o,es,ep,t,a1,a2,a3,a4,a5,a6,a7,a8⟩:=x
 obtain⟨oo,eo,epo,tb,b1,b2,b3,b4,b5,b6,b7,b8⟩:=y
 have x:At knd s.heap a o es ep t:=⟨a1,a2,a3,a4,by rw[a8];omega,a7⟩
 have y:At knd s.heap b oo eo epo tb:=⟨b1,b2,b3,b4,by rw[b8];omega,b7⟩
 have mx:∀ k,k∈σ↔Mm knd es.toList k:=λk=>by rw[<-decide_eq_true_eq (p:=k∈σ)];exact a5 k
 have my:∀ k,k∈τ↔Mm knd eo.toList k:=λk=>by rw[<-decide_eq_true_eq (p:=k∈τ)];exact b5 k
 have hd:JH knd es.toList:=DD es.toList σ nd mx (by rw[length_toList];exact a8) λe he=>(a4 e he).1.elim λk hk=>⟨k,hk.1⟩
 have fin:∀ P:K->Prop,(∀ k,k∈Tg op σ τ↔P k)->Op knd s P λv s'=>v≠ .notImplemented/\Q v s':=λP hP h' ro re rp rt keep g mm=>by
  refine⟨by simp,h h' ro re rp rt keep g.get g.ex g.dat g.fit g.sz ?_⟩
  constructor
  .intro z
   refine List.eq_nil_iff_forall_not_mem.mpr λk hk=>?_
   obtain⟨e,he,_⟩:=(mm k).mpr ((hP k).mp hk)
   have:re= #[]:=Array.eq_empty_of_size_eq_zero z
   subst this;simp at he
  .intro z
   cases hl:re.toList with
   |nil=>rw[<-length_toList,hl];rfl
   |cons e l=>
    obtain⟨⟨k,hk,_⟩,_⟩:=g.el e (by rw[hl];exact mem_cons_self)
    have:=(hP k).mpr ((mm k).mp ⟨e,by rw[hl];exact mem_cons_self,hk⟩)
    rw[z]at this;simp at this
 rcases hop with rfl|rfl
 .refine wpAny_binaryOp_same (T:="set") (op:= .Sub) x.ty y.ty F.fills_set_sub F.slot_set_sub (wpAny_call_entry F.slot_set_sub x.ty Ap ?_ (F.args_set_sub_2 _ _))
  show wpAny _ _ (Builtin.Frozenset.slot1 "__sub__" _ >>= _) _ _ _
  refine wpAny_bind (wpAny_pure ?_)
  refine wpAny_bind (wpAny_bind (Gg x (Gg y ?_)))
  refine wpAny_bind (wpAny_pure (wpAny_bind ?_))
  exact WN x y hd (by rw[a8];exact h1) (by rw[b8];exact h2) λh' ro re rp rt k g mm=>wpAny_pure ⟨_,rfl,fin _ (λk=>by simp[Tg,mx,my]) h' ro re rp rt k g mm⟩
 .refine wpAny_binaryOp_same (T:="set") (op:= .BitAnd) x.ty y.ty F.fills_set_and F.slot_set_and (wpAny_call_entry F.slot_set_and x.ty Zo ?_ (F.args_set_and_2 _ _))
  show wpAny _ _ (Builtin.Frozenset.slot1 "__and__" _ >>= _) _ _ _
  refine wpAny_bind (wpAny_pure ?_)
  refine wpAny_bind (wpAny_bind (Gg x (Gg y ?_)))
  refine wpAny_bind (wpAny_pure (wpAny_bind ?_))
  exact VN x y hne (by rw[a8];exact h1) (by rw[b8];exact h2) λh' ro re rp rt k g mm=>wpAny_pure ⟨_,rfl,fin _ (λk=>by simp[Tg,mx,my]) h' ro re rp rt k g mm⟩
end
section
variable {X:Cx}{xw:XW}{pos p1 p2 p3 p4 p5 p6 pc pcc:Pos}{a b:Expr}{fa fb:Ba->Res D}{op:Operator}
def D3(K:Frag)(op:Operator)(ta tb:TE):TE:=λσ H Q=>ta σ H λv H1=>∃ l xs,v=.ref l/\SqL K H1 l (xs.map V.str)/\xs.length<32/\tb σ H1 λu H2=>∃ m ys,u=.ref m/\SqL K H2 m (ys.map V.str)/\ys.length<32/\
 ∀ n:Nat,(n=0↔Tg op xs ys= [])->Q (.int n) H2
theorem AB(op:Operator)(xs ys:List Str):Tg op (Xr xs) (Xr ys)= []↔Tg op xs ys= []:=by
 unfold Tg
 split<;>simp[filter_eq_nil_iff,JK]
theorem Yy{ta:TE}{R:List Str->Hp->Prop}{pins:List (Addr×Obj)}{s:Shared}{σ:L2.St}{H:Hp}{Q:Value->Shared->Prop}(hc:X.calm=true)(hg2:Gl X "set")(hm2:X.mg "set"=none)(ha:PE X a ta)(h2:starEach [a] X.env=(false,eval a X.env)::starEach [] X.env)(h4:(backTo p3 (starEach [] X.env)).any (·.1)=false)(I:Inv X pins σ H s)(h:ta σ H λv H1=>∃ l xs,v=.ref l/\SqL X.K H1 l (xs.map V.str)/\xs.length<32/\R xs H1)(hq:∀ (xs:List Str) H1 s1 h' tk,Inv X pins σ H1 s1->R xs H1->xs.length<32->SB (strKind X.prog X.w) h' s1.heap.objs.size (Xr xs)->(∀ b o,s1.heap.get? b=some o->h'.get? b=some o)->Q (.ref s1.heap.objs.size) {s1 with heap:=h',toks:=tk}):
  wpAny (model X.prog X.w) X.A (eval (.Call (.Name "set" p2) [a] [] p3) X.env) Q X.xe s:=by
 refine wpAny_Call_Name_kw (Vf I hg2 hm2 (show bootBuiltins "set"=some (.type "set") by decide +kernel) ?_)
 refine PyProof.Rows.callWith_type1 ?_ h2 h4
 rw[h2]
 show wpAny _ _ (spliced ((false,eval a X.env)::backTo p3 (starEach [] X.env))) _ _ s
 refine Calls.spliced_cons (Yc (ha pins s σ H _ I h) λu s1 ⟨x,H1,I1,r1,q1⟩=>?_)
 refine Calls.spliced_nil ?_
 obtain⟨l,xs,rfl,sq,hlen,q1⟩:=q1
 cases (show u=Value.ref l from r1)
 obtain⟨its,rv,ps,_⟩:=I1.list sq
 obtain⟨el,hat⟩:=Jz rv
 have hb:its.toArray.size+1<scanBound:=by rw[size_toArray,<-el];unfold scanBound;omega
 obtain⟨ol,nl,hol,hcl,_,hd⟩:=ps
 refine Yo (knd:=strKind X.prog X.w) (I1.ok.hd hc) hol hcl (by rw[isSubtype_type];kernel_rfl) (by rw[isSubtype_type];kernel_rfl) (by decide) (AE hcl hd) (by rw[size_toArray];exact el) (λi v e=>hat i v (by simpa using e)) hb λh' tk hS k=>?_
 exact hq xs H1 s1 h' tk I1 q1 hlen hS k
theorem LF{ta tb:TE}(hop:op= .Sub\/op= .BitAnd)(hc:X.calm=true)(hg1:Gl X "len")(hm1:X.mg "len"=none)(hg2:Gl X "set")(hm2:X.mg "set"=none)(ha:PE X a ta)(hb:PE X b tb)(h1:starEach [.BinOp (.Call (.Name "set" p2) [a] [] p3) op (.Call (.Name "set" p4) [b] [] p5) p6] X.env=(false,eval (.BinOp (.Call (.Name "set" p2) [a] [] p3) op (.Call (.Name "set" p4) [b] [] p5) p6) X.env)::starEach [] X.env)(h2:starEach [a] X.env=(false,eval a X.env)::starEach [] X.env)(h2b:starEach [b] X.env=(false,eval b X.env)::starEach [] X.env)(h3:(backTo pos (starEach [] X.env)).any (·.1)=false)(h4:(backTo p3 (starEach [] X.env)).any (·.1)=false)(h5:(backTo p5 (starEach [] X.env)).any (·.1)=false):
  PE X (.Call (.Name "len" p1) [.BinOp (.Call (.Name "set" p2) [a] [] p3) op (.Call (.Name "set" p4) [b] [] p5) p6] [] pos) (D3 X.K op ta tb):=by
 intro pins s σ H Q I h
 refine wpAny_Call_Name_kw (Vf I hg1 hm1 (show bootBuiltins "len"=some (.builtin "len") by decide +kernel) ?_)
 refine PyProof.Rows.callWith_builtin1 ?_ h1 h3
 rw[h1]
 show wpAny _ _ (spliced ((false,eval (.BinOp (.Call (.Name "set" p2) [a] [] p3) op (.Call (.Name "set" p4) [b] [] p5) p6) X.env)::backTo pos (starEach [] X.env))) _ _ s
 refine Calls.spliced_cons (wpAny_BinOp (Yy hc hg2 hm2 ha h2 h4 I h λxs H1 s1 h1' tk1 I1 q1 hl1 hS1 k1=>?_))
 have J1:Inv X pins σ H1 {s1 with heap:=h1',toks:=tk1}:=I1.kept (t':=tk1) k1
 have hp:s1.heap.objs.size<=s1.heap.objs.size:=le_refl _
 have hf1:H1 s1.heap.objs.size=none:=I1.hok.fresh hp
 have hx1:s1.heap.objs.size≠X.env.locals:=ne_of_gt I1.lt
 have hy1:s1.heap.objs.size∉X.fs:=I1.nofs hp
 generalize s1.heap.objs.size=A1 at hS1 hf1 hx1 hy1 ⊢
 have hS1':=hS1
 obtain⟨oA,esA,epA,tA,gA,exA,dA,rA⟩:=hS1'
 have J2:Inv X ((A1,oA)::pins) σ H1 {s1 with heap:=h1',toks:=tk1}:=J1.pins_of λp hpp=>by
  rcases mem_cons.mp hpp with z|z
  .subst z;exact⟨gA,hf1,hx1,hy1,λv=>by rw[dA];exact λz=>by cases z⟩
  .exact J1.pin p (mem_append_right _ z)
 refine Yy hc hg2 hm2 hb h2b h5 J2 q1 λys H2 s2 h2' tk2 I2 q2 hl2 hS2 k2=>?_
 have pA:=(I2.pin (A1,oA) (mem_append_right _ mem_cons_self)).1
 have hS1b:SB (strKind X.prog X.w) h2' A1 (Xr xs):=⟨oA,esA,epA,tA,k2 _ _ pA,exA,dA,rA⟩
 have hneA:A1≠s2.heap.objs.size:=ne_of_lt (lt_size pA)
 have I2':Inv X pins σ H2 s2:=I2.pins_of λp hp=>I2.pin p (mem_append_right _ (mem_cons_of_mem _ hp))
 refine CT (s:= {s2 with heap:=h2',toks:=tk2}) op hop hS1b hS2 hneA (CB _) (Nat.lt_of_le_of_lt (Yr _) hl1) (Nat.lt_of_le_of_lt (Yr _) hl2) λh3 o es ep t k3 g1 g2 g3 g4 g5 g6=>?_
 refine Calls.spliced_nil ?_
 have hfit:(es.size:Int)<2^63:=by omega
 refine call_len_set (s:= {s2 with heap:=h3,toks:=tk2}) g1 g2 g3 g4 hfit ?_
 have J3:Inv X pins σ H2 {s2 with heap:=h3,toks:=tk2}:=I2'.kept (t':=tk2) λb o e=>k3 b o (k2 b o e)
 exact⟨.int (es.size:Int),H2,J3.tok _,⟨_,rfl⟩,q2 es.size (g6.trans (AB op xs ys))⟩
noncomputable def DC:D->Option (List Str)
 | .lst ds=>match Ei ds with
  |some xs=>@ite _ (xs.length<32) (propDecidable _) (some xs) none
  |none=>none
 |_=>none
theorem Mz{W:WS}{H:Hp}{d:D}{v:V}{xs:List Str}(h:DC d=some xs)(hv:HasT X.K W H d v):∃ l,v=.ref l/\SqL X.K H l (xs.map V.str)/\xs.length<32:=by
 unfold DC at h
 split at h
 .split at h
  .rename_i ys hn
   split at h
   .rename_i hl
    cases h
    obtain⟨p,zs,e,sq,r⟩:=hv.lst
    have:=Uo hn r
    subst this
    exact⟨p,e,sq,hl⟩
   .cases h
  .cases h
 .cases h
noncomputable def Uz(op:Operator)(fa fb:Ba->Res D):Ba->Res D:=λδ=>(fa δ).bind λx=>match DC x with
 |some xs=>(fb δ).bind λy=>match DC y with
  |some ys=>.ok (.bl (Tg op xs ys).isEmpty)
  |none=>.stuck
 |none=>.stuck
theorem Oz{j:Nat}(hc:X.calm=true)(hm1:X.mg "len"=none)(hm2:X.mg "set"=none)(ha:XP X xw a fa)(hb:XP X xw b fb)(hop:op= .Sub\/op= .BitAnd:=by first|exact Or.inl rfl|exact Or.inr rfl)(hg1:Gl X "len":=by rfl)(hg2:Gl X "set":=by rfl)(h1:starEach [.BinOp (.Call (.Name "set" p2) [a] [] p3) op (.Call (.Name "set" p4) [b] [] p5) p6] X.env=(false,eval (.BinOp (.Call (.Name "set" p2) [a] [] p3) op (.Call (.Name "set" p4) [b] [] p5) p6) X.env)::starEach [] X.env:=by rfl)(h2:starEach [a] X.env=(false,eval a X.env)::starEach [] X.env:=by rfl)(h2b:starEach [b] X.env=(false,eval b X.env)::starEach [] X.env:=by rfl)(h3:(backTo pos (starEach [] X.env)).any (·.1)=false:=by rfl)(h4:(backTo p3 (starEach [] X.env)).any (·.1)=false:=by rfl)(h5:(backTo p5 (starEach [] X.env)).any (·.1)=false:=by rfl):
  XE X xw (.Compare (.Call (.Name "len" p1) [.BinOp (.Call (.Name "set" p2) [a] [] p3) op (.Call (.Name "set" p4) [b] [] p5) p6] [] pos) [.Eq] [.Constant (.int 0) j pc] pcc) (Uz op fa fb):=
 ⟨PE.weak (Xy WV (LF hop hc hg1 hm1 hg2 hm2 ha.h hb.h h1 h2 h2b h3 h4 h5) KF rfl) λσ H Q ⟨W₀,H₀,W,δ,st,q⟩=>by
  refine⟨W₀,H₀,W,δ,st,?_⟩
  unfold Uz at q
  cases h1:fa δ with
  |stuck=>rw[h1]at q;exact q
  |ex c fs=>rw[h1]at q;exact q
  |ok d=>
   rw[h1,Res.bind_ok]at q
   intro v H1 k1 hv
   cases t1:DC d with
   |none=>rw[t1]at q;exact q.elim
   |some xs=>
    rw[t1]at q
    obtain⟨l,e,sq,hl⟩:=Mz t1 hv
    refine⟨l,xs,e,sq,hl,W₀,H₀,W,δ,st.same k1,?_⟩
    cases h2:fb δ with
    |stuck=>rw[h2]at q;exact q
    |ex c fs=>rw[h2]at q;exact λH2 k2=>q H2 (k1.trans k2)
    |ok e=>
     rw[h2]at q
     simp only[Res.bind_ok]at q
     intro u H2 k2 hu
     cases t2:DC e with
     |none=>rw[t2]at q;exact q.elim
     |some ys=>
      rw[t2]at q
      obtain⟨m,e2,sq2,hl2⟩:=Mz t2 hu
      refine⟨m,ys,e2,sq2,hl2,λn hn=>⟨rfl,?_⟩⟩
      have:decide (V.int (n:Int)=V.int 0)=(Tg op xs ys).isEmpty:=by
       rw[Bool.eq_iff_iff,decide_eq_true_eq,isEmpty_iff,<-hn]
       constructor
       .intro z;injection z with z;omega
       .intro z;rw[z];rfl
      rw[this]
      exact q _ H2 (k1.trans k2) (by rw[Has])⟩
end
section
variable {X:Cx}{xw:XW}{a b e:Expr}{f:Ba->Res D}{fs:Ba->Res (List D)}{p pos p2 pos2:Pos}
def Nv(lo:Int)(n:Nat):List V:=(range n).map λ(i:Nat)=>V.int (lo+i)
theorem ME{pins:List (Addr×Obj)}{s:Shared}{σ:L2.St}{H:Hp}{Q:VK}{lo hi:Int}{t u v:Tok}{tk:Nat}(hc:X.calm=true)(I:Inv X pins σ H s)(h1: -(2^62)<=lo)(h2:lo<2^62)(h3: -(2^62)<=hi)(h4:hi<2^62)(hl:(hi-lo).toNat<=1000)(q:∀ n,H n=none->Q (.ref n) (Ib H n (.lst (Nv lo (hi-lo).toNat)))):
  wpAny (model X.prog X.w) X.A (call (.type "list") [.ref s.heap.objs.size]) (EP X pins σ Q) X.xe {s with heap:=s.heap.push {cls:=.type "range",data:=.fields #[.int lo t,.int hi u,.int 1 v]},toks:=tk}:=by
 have I1:Inv X pins σ H {s with heap:=s.heap.push {cls:=.type "range",data:=.fields #[.int lo t,.int hi u,.int 1 v]},toks:=tk}:=I.kept λb o e=>get?_push_of_some _ e
 refine call_list_range (n:=(hi-lo).toNat) (I.ok.hd hc) (IsRange.new ..) (small_one h1 h2 h3 h4) (by rw[rangeSize_one];split<;>omega) (by omega) λh' tk' acc c k hg ⟨e1,e2⟩=>?_
 refine⟨.ref _,_,I1.laid (t':=tk') (o:=.lst (Nv lo (hi-lo).toNat)) k (le_refl _) ⟨by unfold Nv;rw[length_map,length_range,sizeLine_eq];omega,acc.toList,c,?_,by simpa using hg⟩,rfl,q _ (I1.hok.fresh (le_refl _))⟩
 refine Zs (by unfold Nv;simp[e1]) λi x y hx hy=>?_
 unfold Nv at hx
 rw[getElem?_map]at hx
 obtain⟨j,hj,rfl⟩:=map_eq_some_iff.mp hx
 rw[getElem?_toList]at hy
 obtain⟨t',rfl⟩:=e2 i y hy
 obtain⟨hj1,hj2⟩:=List.getElem?_eq_some_iff.mp hj
 simp at hj2
 subst hj2
 exact⟨t',by simp⟩
theorem Hv{ta:TA}(hc:X.calm=true)(hm:X.mg "list"=none)(hm2:X.mg "range"=none)(hg:Gl X "list")(hg2:Gl X "range")(ha:PA X [a] ta)(hs:starEach [a] X.env= [(false,eval a X.env)])(he:starEach [.Call (.Name "range" p2) [a] [] pos2] X.env=(false,eval (.Call (.Name "range" p2) [a] [] pos2) X.env)::starEach [] X.env)(hpl:(backTo pos (starEach [] X.env)).any (·.1)=false):
  PE X (.Call (.Name "list" p) [.Call (.Name "range" p2) [a] [] pos2] [] pos) (λσ H Q=>ta σ H λvs H1=>∃ j:Int,vs= [.int j]/\0<=j/\j<=1000/\∀ n,H1 n=none->Q (.ref n) (Ib H1 n (.lst (Nv 0 j.toNat)))):=by
 intro pins s σ H Q I h
 refine wpAny_Call_Name_kw (Vf I hg hm (show bootBuiltins "list"=some (.type "list") by decide +kernel) ?_)
 refine PyProof.Rows.callWith_type1 ?_ he hpl
 rw[he]
 show wpAny _ _ (spliced ((false,eval _ X.env)::backTo pos (starEach [] X.env))) _ _ s
 refine Calls.spliced_cons ?_
 refine Call_ (Vf I hg2 hm2 boot_range (PyProof.Rows.callWith_type1 (Yc (ha pos2 pins s σ H _ I h) λus s1 ⟨vs,H1,I1,r1,q1⟩=>?_) hs rfl))
 obtain⟨j,e,q1,q2,q⟩:=q1
 subst e
 cases r1 with
 |cons r rr=>
  cases rr
  obtain⟨t,rfl⟩:=r
  exact call_range_1 (Calls.spliced_nil (ME hc I1 (by omega) (by omega) (by omega) (by omega) (by omega) (by simpa using q)))
theorem VF{K:Frag}{W:WS}{H:Hp}(lo:Int)(n:Nat):HasL K W H (Dk lo n) (Nv lo n):=by
 unfold Dk Nv
 generalize range n=l
 induction l with
 |nil=>rw[map_nil,map_nil,HasL]
 |cons x l ih=>rw[map_cons,map_cons,HasL];exact⟨_,_,rfl,by rw[Has],ih⟩
noncomputable def OE(ds:List D):Res (List D):=match ds with
 | [.int j]=>if 0<=j/\j<=1000 then .ok (Dk 0 j.toNat) else .stuck
 |_=>.stuck
theorem IV(hc:X.calm=true)(hm:X.mg "list"=none)(hm2:X.mg "range"=none)(ha:XA X xw [a] fs)(hg:Gl X "list":=by rfl)(hg2:Gl X "range":=by rfl)(hs:starEach [a] X.env= [(false,eval a X.env)]:=by rfl)(he:starEach [.Call (.Name "range" p2) [a] [] pos2] X.env=(false,eval (.Call (.Name "range" p2) [a] [] pos2) X.env)::starEach [] X.env:=by rfl)(hpl:(backTo pos (starEach [] X.env)).any (·.1)=false:=by rfl):
  XF X xw (.Call (.Name "list" p) [.Call (.Name "range" p2) [a] [] pos2] [] pos) (b1 OE fs):=
 ⟨PE.weak (Hv hc hm hm2 hg hg2 ha.h hs he hpl) λσ H Q ⟨W₀,H₀,W,δ,st,q⟩=>by
  refine⟨W₀,H₀,W,δ,st,?_⟩
  unfold b1 at q
  cases h1:fs δ with
  |stuck=>rw[h1]at q;exact q
  |ex c fs=>rw[h1]at q;exact q
  |ok ds=>
   rw[h1,Res.bind_ok]at q
   intro vs H1 k1 hv
   unfold OE at q
   split at q
   .split at q
    .rename_i j hj
     exact⟨j,hv.one,hj.1,hj.2,λn hn=>q n _ H1 k1 hn (VF _ _)⟩
    .exact q.elim
   .exact q.elim⟩
end
section
variable {prog:Program}{w:World}{A:Around}{E:Value->Shared->Prop}{s:Shared}
theorem IE{f c' cc d l:Addr}{qual fv lv:Str}{params:Arguments}{scope:Scope}{pm ctv:Value}{x:Str}{t:Tok}{mg mb:Str->Option Value}{fm:Ab->Option Value}{items:Array Value}{p1 p2 p3 p4 p5:Pos}{Q:Value->Shared->Prop}(hroom:A.depth<recursionLimit)(ho:s.heap.get? f=some (PySem.W.kla_obj "<lambda>" qual params (.Call (.Name "len" p1) [.Subscript (.Name fv p2) (.Name lv p3) p4] [] p5) scope [(fv,cc)] pm c' ctv))(hcd:s.heap.CodeRec (.ref c') qual)(hco:scope.isCoroutine=false)(hgen:scope.isGenerator=false)(hk:scope.kind=.function)(hcell:∀ x∈scope.names,x.2≠ .cell)(h1:scope.names.lookup lv=some .local)(h2:scope.names.lookup fv=some .free)(h3:scope.names.lookup ("len":Str)=some .globalImplicit)(hbind:bindArgs (PySem.W.kla_fn "<lambda>" qual params (.Call (.Name "len" p1) [.Subscript (.Name fv p2) (.Name lv p3) p4] [] p5) scope [(fv,cc)] pm (.ref c') ctv) ⟨[.str x t],[]⟩=pure [(lv,.str x t)])(hdl:(lv==("__debug__":Str))=false)(hdf:(fv==("__debug__":Str))=false)(hcf:(fv==("__classdict__":Str))=false)(hg:s.heap.Ns mainGlobals mg)(hgl:mg "len"=none)(hb:s.heap.Ns builtinsNs mb)(hbl:mb "len"=some (.builtin "len"))(hlim:s.heap.NoLimit)(hc:s.heap.IsCell cc (some (.ref d)))(hmap:s.heap.MapOf (Tc prog w) d fm)(hx:fm (.inr x)=some (.ref l))(hl:s.heap.IsList l items)(hz:items.size<1000)(h:∀ h' tk t',(∀ b o,s.heap.get? b=some o->h'.get? b=some o)->Q (.int items.size t') {s with heap:=h',toks:=tk}):
  wpAny (model prog w) A (call (.ref f) [.str x t]) Q E s:=by
 refine wpAny_call (PySem.W.kla_callFunE hroom ho rfl hco hgen rfl hcd ?_)
 rw[hbind]
 refine wpAny_pure (wpAny_newFunctionEnv hcell (λy hy=>by rw[mem_singleton.mp hy];exact h1) (λh₁ hns hsb=>?_) hk)
 have kk:∀ b o,s.heap.get? b=some o->h₁.get? b=some o:=λb o e=>hsb.extBut b o (ne_of_lt (lt_size e)) (get?_push_of_some _ e)
 refine⟨hlim.keeps kk,PySem.W.kla_codeExpr ?_⟩
 refine wpAny_Call_Name_kw (Calls.Name_function_global hk h3 (Calls.loadGlobal_builtin (hg.keeps kk) hgl (hb.keeps kk) hbl ?_) (by decide))
 refine PyProof.Rows.callWith_builtin1 ?_ rfl rfl
 refine Calls.spliced_cons (Subscript_ ?_)
 refine wpAny_Name (wpAny_loadName_free hk h2 (c:=cc) (by show List.lookup fv [(fv,cc)]=some cc;simp[List.lookup]) (hc.keeps kk) ?_ hcf) hdf
 refine wpAny_Name (wpAny_loadName_local hk h1 hns (show List.lookup lv [(lv,Value.str x t)]=some (.str x t) by simp[List.lookup]) ?_) hdl
 have hmap':h₁.MapOf (Tc prog w) d fm:=by
  obtain⟨o,es,ep,e,r⟩:=hmap;exact⟨o,es,ep,kk _ _ e,r⟩
 have hty:Shared.TypeIs {s with heap:=h₁,toks:=s.toks+ [(lv,Value.str x t)].length} (.ref d) "dict":=hmap'.typeIs
 unfold subscriptTail
 refine wpAny_bind ?_
 rw[getitemInPython_of_ne hty.not_modules]
 refine wpAny_bind (wpAny_specialOf hty PySem.F.slot_dict_getitem.lookup ?_)
 have hs:Ej (.Name lv p3):=by intro _ _;rfl
 first
  |refine wpAny_pure (wpAny_bind ?_)
  |refine wpAny_bind (wpAny_pure (wpAny_bind ?_))
  |refine wpAny_bind ?_
 rw[hs (.ref d) (.str x t)]
 refine wpAny_operating (wpAny_getItem_of (k:=(.inr x:Ab)) (Yj (P:=prog) (w:=w) (k:=.inr x) ⟨t,rfl⟩) hmap' hx (wpAny_bind (wpAny_letTemporaryGo (wpAny_pure ?_))))
 refine Calls.spliced_nil ?_
 refine Calls.call_len_list (let ⟨o,e,r⟩:=hl;⟨o,kk _ _ e,r⟩) (by omega) ?_
 exact h _ _ _ kk
def WY(kf:Nat->Int)(n i:Nat):Prop:=∀ j,j<n->kf i<=kf j/\(j<i->kf i<kf j)
section
variable {h0:Heap}{l q I S:Addr}{vs:List Value}{R:Result->Shared->Prop}{Q:Value->Shared->Prop}{dk:List (Str×Value)}
theorem GK(kf:Nat->Int)(hh:A.handled=none)(hl0:h0.IsList l vs.toArray)(hlI:l≠I)(hSI:S≠I)(hI0:h0.objs.size<=I)(hS0:h0.objs.size<=S)(turn:∀ (i:Nat) (v:Value),vs[i]? =some v->∀ (h:Heap) (tk:Nat),(∀ b o,h0.get? b=some o->h.get? b=some o)->
   wpAny (model prog w) A.in1 (call (.ref q) [v]) (λr s'=>∃ h' tk' t',s'= {s with heap:=h',toks:=tk'}/\r=.int (kf i) t'/\∀ b o,h.get? b=some o->h'.get? b=some o) (λ_ _=>False) {s with heap:=h,toks:=tk})(hR:∀ i v h' tk',vs[i]? =some v->WY kf vs.length i->(∀ b o,h0.get? b=some o->h'.get? b=some o)->R (.ok (.ret v)) {s with heap:=h',toks:=tk'}):
  ∀ (r j i:Nat) (h:Heap) (tk:Nat) (vb:Value) (tb:Tok) (c:Nat),vs.length-(j+1)=r->j+1<=vs.length->(∀ b o,h0.get? b=some o->h.get? b=some o)->h.get? S=some (seqObj "list" #[vb,.int (kf i) tb] c)->
   h.IsListIter I l (j+1)->vs[i]? =some vb->i<=j->WY kf (j+1) i->codeAny (model prog w) A (.builtin "min.loop" ⟨[.ref I,.ref q,.ref S],dk⟩) R {s with heap:=h,toks:=tk}:=by
 have hname:(toString "min"++toString ".loop":String)="min.loop":=by decide
 have Wk:=Walks.list (prog:=prog) (w:=w) (A:=A.in1) hh I l hlI vs.toArray
 have ltI:∀ b o,h0.get? b=some o->b≠I:=λb o e=>ne_of_lt (lt_of_lt_of_le (lt_size e) hI0)
 have ltS:∀ b o,h0.get? b=some o->b≠S:=λb o e=>ne_of_lt (lt_of_lt_of_le (lt_size e) hS0)
 have hsz:vs.toArray.size=vs.length:=size_toArray ..
 have il:∀ h:Heap,(∀ b o,h0.get? b=some o->h.get? b=some o)->h.IsList l vs.toArray:=λh k=>let ⟨o,e,r⟩:=hl0;⟨o,k _ _ e,r⟩
 intro r
 induction r with
 |zero=>
  intro j i h tk vb tb c hr hj k gS hit hvb hij hb
  have hin:j+1=vs.length:=by omega
  refine codeAny_builtin PySem.F.entry_min_loop ?_;rw[Around.under_plainId PySem.F.plain_min_loop _]
  show wpAny _ A.in1 (seqItems? (.ref S) >>= _) _ _ _;refine wpAny_bind (wpAny_seqItems gS rfl ?_)
  show wpAny _ A.in1 (tryCatch (pyNext (.ref I)) _ >>= _) _ _ _
  refine wpAny_bind (wpAny_tryCatch (Wk.done _ _ _ ⟨by rw[hsz,<-hin];exact hit,il h k⟩ λh' tk' hk'=>?_))
  have gS':=hk' S _ (by simpa using hSI) gS
  have s1:=SameBut.update h' S (Obj.mapSeq λ_=>(#[]:Array Value))
  show wpAny _ A.in1 (updateSeq S (λ_=> #[]) >>= _) _ _ _;refine wpAny_bind ?_
  refine wpAny_updateSeq gS' rfl (wpAny_bind (wpAny_letGo (wpAny_pure ?_)))
  exact hR i vb _ _ hvb (by rw[<-hin];exact hb) λb o e=>(s1.2 b (ltS b o e)).trans (hk' b o (by simpa using ltI b o e) (k b o e))
 |succ r ih=>
  intro j i h tk vb tb c hr hj k gS hit hvb hij hb
  have hlt:j+1<vs.length:=by omega
  refine codeAny_builtin PySem.F.entry_min_loop ?_;rw[Around.under_plainId PySem.F.plain_min_loop _]
  show wpAny _ A.in1 (seqItems? (.ref S) >>= _) _ _ _;refine wpAny_bind (wpAny_seqItems gS rfl ?_)
  show wpAny _ A.in1 (tryCatch (pyNext (.ref I)) _ >>= _) _ _ _
  refine wpAny_bind (wpAny_tryCatch (Wk.item (j+1) _ _ _ (by rw[hsz];exact hlt) ⟨hit,il h k⟩ λv h' tk' hP hst' hk'=>?_))
  have hv:vs[j+1]? =some v:=by simpa using hP
  have k1:∀ b o,h0.get? b=some o->h'.get? b=some o:=λb o e=>hk' b o (by simpa using ltI b o e) (k b o e)
  have gS':=hk' S _ (by simpa using hSI) gS
  show wpAny _ A.in1 (tryCatch (holding [v] (call (.ref q) [v])) _ >>= _) _ _ _
  refine wpAny_bind (wpAny_tryCatch (wpAny_holding (wpAny_mono (turn (j+1) v hv h' tk' k1) (λx s'' he=>?_) λ_ _ hF=>hF.elim)))
  obtain⟨h2,tk2,t2,rfl,rfl,k2⟩:=he
  have gS2:=k2 _ _ gS'
  have hit2:h2.IsListIter I l (j+1+1):=let ⟨o,e,z⟩:=hst'.1;⟨o,k2 _ _ e,z⟩
  have k3:∀ b o,h0.get? b=some o->h2.get? b=some o:=λb o e=>k2 b o (k1 b o e)
  show wpAny _ A.in1 (tryCatch (holding [v,.int (kf (j+1)) t2] (richCompare .Lt (.int (kf (j+1)) t2) (.int (kf i) tb) >>= _)) _ >>= _) _ _ _
  refine wpAny_bind (wpAny_tryCatch (wpAny_holding (wpAny_bind (CmpOf.ints_lt (prog:=prog) (w:=w) (A:=A.in1) (P:=λi v=>∃ t,v=.int (kf i) t) kf (λi v h=>h) (j+1) i _ _ _ _ _ ⟨t2,rfl⟩ ⟨tb,rfl⟩ ?_))))
  refine wpAny_bind (wpAny_holding (wpAny_truthy_bool ?_));refine wpAny_bind (wpAny_letGo (wpAny_pure ?_))
  by_cases hc:kf (j+1)<kf i
  .have s1:=SameBut.update h2 S (Obj.mapSeq λ_=> #[v,.int (kf (j+1)) t2])
   obtain⟨c2,hc2⟩:∃ c2,(h2.update S (Obj.mapSeq λ_=> #[v,.int (kf (j+1)) t2])).get? S=some (seqObj "list" #[v,.int (kf (j+1)) t2] c2):=⟨_,get?_update_seq gS2 λ_=> #[v,.int (kf (j+1)) t2]⟩
   simp only[hc,decide_true,if_true]
   refine wpAny_bind ?_;refine wpAny_updateSeq gS2 rfl (wpAny_bind (wpAny_letGo ?_));rw[hname]
   refine wpAny_pure ⟨plainId_quiet PySem.F.plain_min_loop _,ih (j+1) (j+1) _ _ v t2 c2 (by omega) hlt (λb o e=>(s1.2 b (ltS b o e)).trans (k3 b o e)) hc2 (let ⟨o,e,z⟩:=hit2;⟨o,(s1.2 I hSI.symm).trans e,z⟩) hv (le_refl _) λj' hj'=>?_⟩
   by_cases e:j'=j+1
   .subst e;exact⟨by omega,λ_=>by omega⟩
   .have:=(hb j' (by omega)).1
    exact⟨by omega,λ_=>by omega⟩
  .simp only[hc,decide_false,false_eq_true,if_false]
   refine wpAny_bind (wpAny_letGo ?_);rw[hname]
   refine wpAny_pure ⟨plainId_quiet PySem.F.plain_min_loop _,ih (j+1) i _ _ vb tb c (by omega) hlt k3 gS2 hit2 hvb (by omega) λj' hj'=>?_⟩
   by_cases e:j'=j+1
   .subst e;exact⟨by omega,λ_=>by omega⟩
   .exact hb j' (by omega)
theorem EK(a v:Value):argsOk "min" ⟨[a],[(Str.ofString "key",v),(Str.ofString "default",.none)]⟩:=by unfold argsOk;kernel_rfl
theorem FK(kf:Nat->Int)(hh:A.handled=none)(hl:s.heap.IsList l vs.toArray)(turn:∀ (i:Nat) (v:Value),vs[i]? =some v->∀ (h:Heap) (tk:Nat),(∀ b o,s.heap.get? b=some o->h.get? b=some o)->
   wpAny (model prog w) A.in1 (call (.ref q) [v]) (λr s'=>∃ h' tk' t',s'= {s with heap:=h',toks:=tk'}/\r=.int (kf i) t'/\∀ b o,h.get? b=some o->h'.get? b=some o) (λ_ _=>False) {s with heap:=h,toks:=tk})(hQ:∀ i v h' tk',vs[i]? =some v->WY kf vs.length i->(∀ b o,s.heap.get? b=some o->h'.get? b=some o)->Q v {s with heap:=h',toks:=tk'})(hN:vs= []->∀ h' tk',(∀ b o,s.heap.get? b=some o->h'.get? b=some o)->Q .none {s with heap:=h',toks:=tk'}):
  wpAny (model prog w) A (call (.builtin "min") [.ref l] [(Str.ofString "key",.ref q),(Str.ofString "default",.none)]) Q E s:=by
 have hname:(toString "min"++toString ".loop":String)="min.loop":=by decide
 obtain⟨ol,hol,_⟩:=id hl
 have hll:l<s.heap.objs.size:=lt_size hol
 refine kmk_tree PySem.F.kind_min PySem.F.plain_min PySem.F.entry_min (EK _ _) ?_
 show wpAny _ A.in1 (Builtin.Builtins.bindParams "min" ["key","default"] 0 ⟨[],[(Str.ofString "key",.ref q),(Str.ofString "default",.none)]⟩ >>= _) _ _ s
 refine wpAny_bind (wpAny_of_eq (show Builtin.Builtins.bindParams "min" ["key","default"] 0 ⟨[],[(Str.ofString "key",.ref q),(Str.ofString "default",.none)]⟩=pure [some (.ref q),some .none] from rfl) ?_)
 refine wpAny_bind (wpAny_pure ?_);refine wpAny_bind (wpAny_pyIter_list hl ?_);refine wpAny_bind (wpAny_newList ?_ (zero_le _))
 rw[hname]
 generalize hoi:({cls:=.type "list_iterator",data:=.fields #[.ref l,.int 0 0]}:Obj)=oi
 have hS:(s.heap.push oi).objs.size=s.heap.objs.size+1:=size_push' ..
 have hlI:l≠s.heap.objs.size:=ne_of_lt hll
 have hSI:(s.heap.push oi).objs.size≠s.heap.objs.size:=by omega
 refine wpAny_pure ⟨plainId_quiet PySem.F.plain_min_loop _,?_⟩
 have k0:∀ b o,s.heap.get? b=some o->((s.heap.push oi).push (seqObj "list" #[] 0)).get? b=some o:=λb o e=>get?_push_of_some _ (get?_push_of_some _ e)
 have gI:((s.heap.push oi).push (seqObj "list" #[] 0)).get? s.heap.objs.size=some oi:=get?_push_of_some _ (get?_push_size _ (by rw[<-hoi];rfl))
 have gS:((s.heap.push oi).push (seqObj "list" #[] 0)).get? (s.heap.push oi).objs.size=some (seqObj "list" #[] 0):=get?_push_size _ rfl
 have ltI:∀ b o,s.heap.get? b=some o->b≠s.heap.objs.size:=λb o e=>ne_of_lt (lt_size e)
 have ltS:∀ b o,s.heap.get? b=some o->b≠(s.heap.push oi).objs.size:=λb o e=>by rw[hS];exact ne_of_lt (Nat.lt_succ_of_lt (lt_size e))
 have Wk:=Walks.list (prog:=prog) (w:=w) (A:=A.in1) hh s.heap.objs.size l hlI vs.toArray
 have hsz:vs.toArray.size=vs.length:=size_toArray ..
 refine codeAny_builtin PySem.F.entry_min_loop ?_;rw[Around.under_plainId PySem.F.plain_min_loop _]
 show wpAny _ A.in1 (seqItems? (.ref _) >>= _) _ _ _;refine wpAny_bind (wpAny_seqItems gS rfl ?_)
 show wpAny _ A.in1 (tryCatch (pyNext (.ref s.heap.objs.size)) _ >>= _) _ _ _
 by_cases hvs:vs= []
 .refine wpAny_bind (wpAny_tryCatch (Wk.done _ _ _ ⟨by rw[hvs];exact⟨_,gI,by rw[<-hoi],by rw[<-hoi];rfl⟩,let ⟨o,e,r⟩:=hl;⟨o,k0 _ _ e,r⟩⟩ λh' tk' hk'=>?_))
  have:=hN hvs h' tk' λb o e=>hk' b o (by simpa using ltI b o e) (k0 b o e)
  exact wpAny_bind (wpAny_rule (wpAny_pure this))
 have hne:0<vs.length:=by cases vs with|nil=>exact absurd rfl hvs|cons _ _=>exact Nat.succ_pos _
 refine wpAny_bind (wpAny_tryCatch (Wk.item 0 _ _ _ (by rw[hsz];exact hne) ⟨⟨_,gI,by rw[<-hoi],by rw[<-hoi];rfl⟩,let ⟨o,e,r⟩:=hl;⟨o,k0 _ _ e,r⟩⟩ λv h' tk' hP hst' hk'=>?_))
 have hv:vs[0]? =some v:=by simpa using hP
 have k1:∀ b o,s.heap.get? b=some o->h'.get? b=some o:=λb o e=>hk' b o (by simpa using ltI b o e) (k0 b o e)
 have gS':=hk' _ _ (by simpa using hSI) gS
 show wpAny _ A.in1 (tryCatch (holding [v] (call (.ref q) [v])) _ >>= _) _ _ _
 refine wpAny_bind (wpAny_tryCatch (wpAny_holding (wpAny_mono (turn 0 v hv h' tk' k1) (λx s'' he=>?_) λ_ _ hF=>hF.elim)))
 obtain⟨h2,tk2,t2,rfl,rfl,k2⟩:=he
 have gS2:=k2 _ _ gS'
 have hit2:h2.IsListIter s.heap.objs.size l 1:=let ⟨o,e,z⟩:=hst'.1;⟨o,k2 _ _ e,z⟩
 have s1:=SameBut.update h2 (s.heap.push oi).objs.size (Obj.mapSeq λ_=> #[v,.int (kf 0) t2])
 obtain⟨c2,hc2⟩:∃ c2,(h2.update (s.heap.push oi).objs.size (Obj.mapSeq λ_=> #[v,.int (kf 0) t2])).get? (s.heap.push oi).objs.size=some (seqObj "list" #[v,.int (kf 0) t2] c2):=⟨_,get?_update_seq gS2 λ_=> #[v,.int (kf 0) t2]⟩
 show wpAny _ A.in1 (updateSeq (s.heap.push oi).objs.size (λ_=> #[v,.int (kf 0) t2]) >>= _) _ _ _
 refine wpAny_bind ?_;refine wpAny_updateSeq gS2 rfl ?_;rw[hname]
 refine wpAny_pure ⟨plainId_quiet PySem.F.plain_min_loop _,GK (h0:=s.heap) kf hh hl hlI hSI (le_refl _) (by omega) turn hQ _ 0 0 _ _ v t2 c2 rfl hne (λb o e=>(s1.2 b (ltS b o e)).trans (k2 _ _ (k1 b o e))) hc2 (let ⟨o,e,z⟩:=hit2;⟨o,(s1.2 _ hSI.symm).trans e,z⟩) hv (le_refl _) λj' hj'=>?_⟩
 have e:j'=0:=by omega
 subst e
 exact⟨Int.le_refl _,λh=>absurd h (lt_irrefl _)⟩
end
end
end L3
namespace L3
open PySem PySem.Spec PyProof.Rows L2
def BM(h:Heap)(mg:Str->Option Value):Prop:=∃ bm ob,mg "__builtins__"=some (.ref bm)/\bm≠builtinsNs/\h.get? bm=some ob/\ob.cls=.type "module"/\ob.dict=some builtinsNs/\ob.data=.plain
def PU(H:Hp):Prop:=∀ b,H b=none\/(∃ o xs,H b=some (.frz o (.lst xs)))\/∃ q∈Gh,b=q.1/\H b=some (.tab q.2.1 q.2.2)
def Wo(b:Addr):Option HO:=(Gh.find? λq=>q.1==b).map λq=>.tab q.2.1 q.2.2
theorem Mf{b:Addr}{u:HO}(h:Wo b=some u):∃ q∈Gh,b=q.1/\u=.tab q.2.1 q.2.2:=by
 unfold Wo at h
 obtain⟨q,e,r⟩:=map_eq_some_iff.mp h
 exact⟨q,List.mem_of_find?_eq_some e,(beq_iff_eq.mp (find?_some (p:=λq:Addr×Pos×Str=>q.1==b) e)).symm,r.symm⟩
theorem YA{P:Program}{w:World}{K:Frag}{mg mb:Str->Option Value}{CX:Dw}{k:Nat}{fa a:Addr}{fd:FuncData}{x:Str}{sp:Sp}{s₁:Shared}{vs:List Value}{ns:List Int}(KX:K.In s₁.heap)(hns:s₁.heap.Ns mainGlobals mg)(hb:s₁.heap.Ns builtinsNs mb)(hbb:∀ x:Str,x≠"__name__"->mb x=bootBuiltins x)(hlim:s₁.heap.NoLimit)(hg:s₁.gens= #[])(hbm:BM s₁.heap mg)(hT:∀ q∈Gh,s₁.heap.get? q.1=some (tabObj #[])/\K.lookup q.1=none/\isCodeTable s₁.heap q.1)(hnd:∀ q∈Gh,Gh.find? (λr=>r.1==q.1)=some q)(ha:s₁.heap.get? a=some {cls:=.type "list",data:=.seq vs.toArray})(hi:IntsAre vs ns)(hl:ns.length<=sizeLine)(hr:Room k callerA)(F:∀ base:Heap,K.In base->base.Ns mainGlobals mg->BM base mg->FnOk P w K mg base CX k fa fd [x] sp)(hbind:∀ (s:Shared) (u:Value),BindsTo s fd ⟨[u],[]⟩ [(x,u)])(hsp:∀ H:Hp,Sz H->SqL K H a (ns.map V.int)->sp [.ref a] H (λv H'=>v=.bl true/\Sz H') λ_ _ _=>False)(hCX:∀ H e s',CX [] H s₁ (λ_ _ _=>False) e s'->False):
  codeAny (model P w) callerA (.call (.ref fa) ⟨[.ref a],[]⟩) (λr s'=>r=.ok (.ret (.bool true))/\OldK s₁.heap s'.heap/\s'.os=s₁.os/\AllBare s'.gens) s₁:=by
 have rv:=vals_ints hi
 have lenV:=hi.length
 have nt:∀ q∈Gh,q.1≠a:=λq hq e=>by have:=(hT q hq).1;rw[e,ha]at this;cases this
 have core:∀ H:Hp,PU H->Sz H->SqL K H a (ns.map V.int)->HOk P w H s₁.heap->(H a≠none->K.lookup a=none)->(∀ b,H b≠none->b=a\/∃ q∈Gh,b=q.1)->
   codeAny (model P w) callerA (.call (.ref fa) ⟨[.ref a],[]⟩) (λr s'=>r=.ok (.ret (.bool true))/\OldK s₁.heap s'.heap/\s'.os=s₁.os/\AllBare s'.gens) s₁:=by
  intro H hO hTH hS hok hK hA
  have base_of:∀ {b:Addr} {o:Obj},s₁.heap.get? b=some o->H b=none->(Bp s₁.heap H).get? b=some o:=λe n=>SD e n
  have no':∀ {b:Addr} {o:Obj},s₁.heap.get? b=some o->(∀ x n,o.data≠ .seq x n)->(∀ x,o.data≠ .fields x)->H b=none:=λ{b o} e d1 d2=>by
   cases q:H b with
   |none=>rfl
   |some u=>
    rcases hA b (by rw[q];simp) with e'|⟨r,hr,e'⟩
    .subst e'
     rw[ha]at e;cases e
     exact absurd rfl (d1 _ _)
    .have:=(hT r hr).1
     rw[<-e',e]at this;cases this
     exact absurd rfl (d2 _)
  have nsK:∀ {b:Addr} {m:Str->Option Value},s₁.heap.Ns b m->(Bp s₁.heap H).Ns b m:=λ{b m} ⟨o,es,ep,e,d,r⟩=>⟨o,es,ep,base_of e (no' e (λx n z=>by rw[d]at z;cases z) λx z=>by rw[d]at z;cases z),d,r⟩
  have hKb:K.In (Bp s₁.heap H):=λb o e=>base_of (KX b o e) (by
   cases q:H b with
   |none=>rfl
   |some u=>
    rcases hA b (by rw[q];simp) with e'|⟨r,hr,e'⟩
    .subst e'
     rw[hK (by rw[q];simp)]at e;cases e
    .rw[e',(hT r hr).2.1]at e;cases e)
  have hM:Mod K mg (Bp s₁.heap H):=⟨hKb,nsK hns,⟨mb,nsK hb,hbb⟩,let ⟨mc,h1,h2⟩:=hlim;⟨mc,nsK h1,h2⟩⟩
  have hB:BM (Bp s₁.heap H) mg:=by
   obtain⟨bm,ob,h1,h2,h3,h4,h5,h6⟩:=hbm
   exact⟨bm,ob,h1,h2,base_of h3 (no' h3 (λx n z=>by rw[h6]at z;cases z) λx z=>by rw[h6]at z;cases z),h4,h5,h6⟩
  have e0:Env0 P w K mg (Bp s₁.heap H) callerA [] s₁ H:=⟨rfl,hM,λb o e=>PK e,Nat.le_of_eq (MA _ _),trivial,λb hb=>absurd (show b∈([]:List Addr) from hb) (by simp),hok,.of_eq hg⟩
  refine codeAny_mono ((F _ hKb (nsK hns) hB).run callerA [] s₁ H ⟨[.ref a],[]⟩ [.ref a] [.ref a] _ _ hr e0 (hbind s₁ (.ref a)) (.cons rfl .nil) (hsp H hTH hS)) λr s' h=>?_
  cases r with
  |error e=>exact(hCX H e s' h).elim
  |ok fl=>
   cases fl with
   |next=>exact False.elim h
   |brk=>exact False.elim h
   |cont=>exact False.elim h
   |ret u=>
    obtain⟨v,H',os,bare,un,hok',r',q⟩:=h
    have q':v=.bl true/\Sz H':=q
    obtain⟨q',hTH'⟩:=q'
    subst q'
    obtain rfl:u=Value.bool true:=r'
    have fin:∀ b o,s₁.heap.get? b=some o->s'.heap.get? b=some o\/(isCodeTable s₁.heap b/\o=tabObj #[]/\∃ ps,s'.heap.get? b=some (tabObj ps)):=λb o e=>by
     rcases hO b with z|⟨ob,xs,z⟩|⟨q,hq,rfl,z⟩
     .exact .inl (un.keep b o e z (by intro z;exact absurd (show b∈([]:List Addr) from z) (by simp)) (by simp))
     .have z2:=un.frzs b ob _ z
      obtain⟨e1,_⟩:=hok b _ z
      obtain⟨e2,_⟩:=hok' b _ z2
      rw[e]at e1;cases e1
      exact .inl e2
     .obtain⟨t1,_,t3⟩:=hT q hq
      obtain⟨ps,e2,_⟩:=hok' _ _ (hTH' q hq)
      rw[e]at t1
      exact .inr ⟨t3,Option.some.inj t1,ps,e2⟩
    refine⟨rfl,⟨λb o e=>?_,λb o e=>?_⟩,os,bare⟩
    .rcases fin b o e with z|⟨z1,rfl,ps,z2⟩
     .exact .inl z
     .exact .inr (.inl ⟨z1,rfl,#[],ps,rfl,by rw[Array.empty_append];exact z2⟩)
    .rcases fin b o e with z|⟨_,_,ps,z⟩
     .exact⟨_,z⟩
     .exact⟨_,z⟩
 have tabOk:∀ (H:Hp) q,q∈Gh->ObjOk P w H s₁.heap q.1 (.tab q.2.1 q.2.2):=λH q hq=>⟨#[],(hT q hq).1,.inl rfl⟩
 have hTF:∀ q∈Gh,Wo q.1=some (.tab q.2.1 q.2.2):=λq hq=>by unfold Wo;rw[hnd q hq];rfl
 cases hk:K.lookup a with
 |some o=>
  have e:=KX a o hk
  rw[ha]at e
  cases e
  refine core Wo (λb=>?_) hTF (.inr ⟨_,vs.toArray,_,hk,rfl,rfl,rfl,by rw[size_toArray,lenV];exact hl,by simpa using rv⟩) (λb u z=>?_) (λz=>?_) λb z=>?_
  .cases z:Wo b with
   |none=>exact .inl rfl
   |some u=>obtain⟨q,hq,e1,e2⟩:=Mf z;exact .inr (.inr ⟨q,hq,e1,by rw[e2]⟩)
  .obtain⟨q,hq,rfl,rfl⟩:=Mf z;exact tabOk _ q hq
  .cases z':Wo a with
   |none=>exact absurd z' z
   |some u=>obtain⟨q,hq,e1,_⟩:=Mf z';exact absurd e1.symm (nt q hq)
  .cases z':Wo b with
   |none=>exact absurd z' z
   |some u=>obtain⟨q,hq,e1,_⟩:=Mf z';exact .inr ⟨q,hq,e1⟩
 |none=>
  refine core (λb=>if b=a then some (.frz {cls:=.type "list",data:=.seq vs.toArray} (.lst (ns.map V.int))) else Wo b) (λb=>?_) (λq hq=>(if_neg (nt q hq)).trans (hTF q hq)) (.inl (.inr ⟨{cls:=.type "list",data:=.seq vs.toArray},if_pos rfl⟩)) (λb u z=>?_) (λ_=>hk) λb z=>?_
  .by_cases hb:b=a
   .exact .inr (.inl ⟨_,_,if_pos hb⟩)
   .cases z:Wo b with
    |none=>exact .inl ((if_neg hb).trans z)
    |some u=>obtain⟨q,hq,e1,e2⟩:=Mf z;exact .inr (.inr ⟨q,hq,e1,(if_neg hb).trans (by rw[z,e2])⟩)
  .by_cases hb:b=a
   .have z':=(if_pos hb).symm.trans z
    cases z'
    subst hb
    exact⟨ha,by rw[length_map];exact hl,vs,_,rv,ha⟩
   .have z':=(if_neg hb).symm.trans z
    obtain⟨q,hq,rfl,rfl⟩:=Mf z';exact tabOk _ q hq
  .by_cases hb:b=a
   .exact .inl hb
   .cases z':Wo b with
    |none=>exact absurd ((if_neg hb).trans z') z
    |some u=>obtain⟨q,hq,e1,_⟩:=Mf z';exact .inr ⟨q,hq,e1⟩
theorem walkT{l:PySem.W.OpenLaw}{k:Nat}{q:Program}{loose:List Str}{XP:(Str->Option Value)->Heap->Prop}{YP:World->Heap->Prop}{d:DefRec}{K:Params->Frag}{x:Str}(hn:l.most=some 63)(hdf:d.params.defaults= [])(hr:Room k callerA)(hY:∀ (w:World) (h:Heap),YP w h->(K w.params).In h)(hT:∀ (w:World) (h:Heap),YP w h->∀ q∈Gh,h.get? q.1=some (tabObj #[]))(hnd:∀ q∈Gh,Gh.find? (λr=>r.1==q.1)=some q)(F:∀ (w:World) (mg:Str->Option Value) (fa:Addr) (h:Heap),(K w.params).In h->h.Ns mainGlobals mg->mg d.name=some (.ref fa)->
   ∃ fd:FuncData,(∀ (s:Shared) (u:Value),BindsTo s fd ⟨[u],[]⟩ [(x,u)])/\(∀ q∈Gh,(K w.params).lookup q.1=none/\∃ c,codeHdIn (K w.params) c q.1=true)/\
    ∀ base:Heap,(K w.params).In base->base.Ns mainGlobals mg->BM base mg->FnOk l.prog w (K w.params) mg base Qm k fa fd [x] (EG (K w.params))):
  PySem.W.WalkO q loose XP YP l.row.toRowW d [] (λf vs=>PySem.call f vs):=by
 refine Att.attach_call hn hdf λw s₀ s₁ mg mb fa o pm cd doc a vs ns G Y ho hd hcd hmg hobj hints hlen hg=>?_
 have KX:=hY w _ Y
 obtain⟨fd,hb,hC,hF⟩:=F w mg fa _ KX G.T.g hmg
 exact YA KX G.T.g G.T.b G.T.builtins G.T.nolimit hg G.T.bmain (λq hq=>⟨hT w _ Y q hq,(hC q hq).1,let ⟨c,e⟩:=(hC q hq).2;((PySem.W.codeHd_of_K KX e).tab (hT w _ Y q hq)).isCodeTable⟩) hnd hobj hints (le_trans hlen (by decide)) hr hF hb
  (λH hH hS=>⟨a,ns,rfl,hS,hlen,hH,λH' h'=>⟨rfl,h'⟩⟩) λH e s' z=>z
end L3
namespace L3
open PySem PySem.Spec PyProof.Rows L2 SeqAt
section
variable {X:Cx}{pins:List (Addr×Obj)}{σ:L2.St}{H:Hp}{s:Shared}
theorem JE{c P:Addr}{qual:Str}{params:Arguments}{body:Expr}{scope:Scope}{lpos:Pos}{clos:List (Str×Addr)}{Q:Value->Shared->Prop}{E:Value->Shared->Prop}(I:Inv X pins σ H s)(hP:H P=some (.tab lpos qual))(hcode:X.env.code=.ref c)(hcd:codeHdIn X.K c P=true)(hq:X.env.qual++"<lambda>"=qual)(hb:BM X.base X.mg)(hdef:defaultsOf params X.env=([],[]))(hcl:closureFor scope X.env=pure clos)(h:∀ f c' pm ctv h' tk H',Inv X pins σ H' {s with heap:=h',toks:=tk}->Same H H'->h'.get? f=some (PySem.W.kla_obj "<lambda>" qual params body scope clos pm c' ctv)->h'.CodeRec (.ref c') qual->Q (.ref f) {s with heap:=h',toks:=tk}):
  wpAny (model X.prog X.w) X.A (eval (.Lambda params body scope lpos) X.env) Q E s:=by
 obtain⟨ps,gP,hps⟩:=I.hok P _ hP
 obtain⟨bm,ob,b1,b2,b3,b4,b5,b6⟩:=hb
 have gB:=I.bk _ _ b3
 have hg:=I.mod.glob.keeps I.bk
 have C:=PySem.W.codeHd_of_K I.kIn hcd
 have hgP:mainGlobals≠P:=λz=>by
  obtain⟨o,es,ep,e,d,_⟩:=hg
  rw[z,gP]at e;cases e;cases d
 have hbP:bm≠P:=λz=>by rw[z,gP]at gB;cases gB;cases b4
 have hbG:bm≠mainGlobals:=λz=>by
  obtain⟨o,es,ep,e,d,_⟩:=hg
  rw[z,e]at gB;cases gB;rw[d]at b6;cases b6
 have hB:s.heap.BuiltinsAt X.mg P:=⟨bm,ob,b1,b2,hbG,hbP,gB,b4,b5,b6⟩
 refine PySem.W.kla_eval hdef ?_
 rw[hq]
 rcases hps with rfl|⟨c',rfl,hc',hr⟩
 .refine PySem.W.kla_makeFunction (mg:=X.mg) hcl I.ok.glob hg hcode C gP trivial rfl hgP hB λc' ctv h' tk hx hge hlt hrec htb=>?_
  have hn:H c'=none:=I.hok.fresh hge
  have cP:c'≠P:=λz=>by rw[z,hP]at hn;cases hn
  obtain⟨oc,goc⟩:∃ o,h'.get? c'=some o:=by obtain⟨c2,oc,vs,tq,z,e,_⟩:=hrec;cases z;exact⟨oc,e⟩
  have pk:∀ (oo:Obj) b u,h'.get? b=some u->(h'.push oo).get? b=some u:=λoo b u e=>get?_push_of_some _ e
  have rec':∀ oo:Obj,(h'.push oo).CodeRec (.ref c') qual:=λoo=>by obtain⟨c2,oc,vs,tq,z,e,r⟩:=hrec;exact⟨c2,oc,vs,tq,z,pk oo _ _ e,r⟩
  refine h _ c' _ ctv _ tk (Ib H c' (.own P)) (I.un (h':=h'.push _) (t':=tk) ⟨λb o e n _ _=>?_,λb o e n _ _=>?_,λb o e n _=>?_,λb o e _=>?_,λb xs e=>?_,λb o u e=>?_,λb q e=>?_⟩ λa u e=>?_) (Jd hn) (get?_push_size _ rfl) (rec' _)
  .exact pk _ _ _ (hx b o (λz=>by rw[z,hP]at n;cases n) e)
  .exact⟨o.slots,pk _ _ _ (hx b o (λz=>by rw[z,hP]at n;cases n) e)⟩
  .rw[Da (ne_of_lt (lt_of_lt_of_le (lt_size e) hge))];exact n
  .by_cases z:b=P
   .exact⟨_,pk _ _ _ (z▸htb)⟩
   .exact⟨o,pk _ _ _ (hx b o z e)⟩
  .rw[Da (Ka e hn)];exact e
  .rw[Da (Ka e hn)];exact e
  .exact⟨#[],by rw[Da (Ka e hn),e];simp⟩
  .by_cases z:a=c'
   .rw[z,Ra]at e;cases e
    exact⟨oc,pk _ _ _ (z▸goc)⟩
   .rw[Da z]at e
    by_cases z2:a=P
    .subst z2
     rw[hP]at e;cases e
     refine⟨_,pk _ _ _ htb,.inr ⟨c',?_,Ra,rec' _⟩⟩
     rw[Array.empty_append]
    .refine(I.hok a u e).stay (λb v hb r=>pk _ _ _ (hx b v (λz3=>?_) r)) (λb r=>by rw[Da (Ka r hn)];exact r) λb xs r=>by rw[Da (Ka r hn)];exact r
     rcases hb with rfl|hb
     .exact z2 z3
     .rw[z3,hP]at hb;cases hb
 .refine PySem.W.kla_makeFunctionHit (mg:=X.mg) (cv:=.ref c') hcl I.ok.glob hg hcode C gP (by simp[TriplesOk,rawInt]) (by simp[codeAmong,rawInt]) hB λctv h' tk hk hsz=>?_
  have pk:∀ (oo:Obj) b u,s.heap.get? b=some u->(h'.push oo).get? b=some u:=λoo b u e=>get?_push_of_some _ (hk b u e)
  refine h _ c' _ ctv _ tk H (I.kept (h':=h'.push _) (t':=tk) (pk _)) (Same.refl H) (get?_push_size _ rfl) ?_
  obtain⟨c2,oc,vs,tq,z,e,r⟩:=hr
  exact⟨c2,oc,vs,tq,z,pk _ _ _ e,r⟩
structure LamOk(fv lv:Str)(params:Arguments)(sc:Scope):Prop where
 co:sc.isCoroutine=false
 gen:sc.isGenerator=false
 kind:sc.kind=.function
 cell:∀ x∈sc.names,x.2≠ .cell
 loc:sc.names.lookup lv=some .local
 free:sc.names.lookup fv=some .free
 glob:sc.names.lookup ("len":Str)=some .globalImplicit
 bind:∀ (qual:Str) (body:Expr) (clos:List (Str×Addr)) (pm:Value) (c':Addr) (ctv u:Value),bindArgs (PySem.W.kla_fn "<lambda>" qual params body sc clos pm (.ref c') ctv) ⟨[u],[]⟩=pure [(lv,u)]
 dl:(lv==("__debug__":Str))=false
 df:(fv==("__debug__":Str))=false
 cf:(fv==("__classdict__":Str))=false
end
section
variable {X:Cx}
theorem Uv{K:Frag}{H H':Hp}{a:Addr}{xs:List V}(h:SqL K H a xs)(k:Same H H'):SqL K H' a xs:=h.imp (λz=>Rd.same z k) id
def Least(g:Str->Nat)(xs:List Str)(j:Nat):Prop:=∀ x,xs[j]? =some x->∀ i y,xs[i]? =some y->g x<=g y/\(i<j->g x<g y)
def BX(K:Frag)(P:Addr)(lpos:Pos)(qual:Str)(i:Nat)(t:TA):TE:=λσ H Q=>t σ H λvs H1=>∃ (l d:Addr) (xs:List Str) (kvs:List (Ab×V)) (g:Str->Nat),vs= [.ref l]/\SqL K H1 l (xs.map V.str)/\H1 P=some (.tab lpos qual)/\σ[i]? =some (some (.ref d))/\Rd H1 d (.dK kvs)/\
 (∀ x∈xs,∃ l' zs,Zb kvs (.inr x)=some (.ref l')/\SqL K H1 l' zs/\zs.length=g x/\g x<1000)/\∀ H2,Same H1 H2->(xs= []->Q .non H2)/\∀ j x,xs[j]? =some x->Least g xs j->Q (.str x) H2
theorem GL{c P cc:Addr}{qual fv lv:Str}{params:Arguments}{sc:Scope}{e:Expr}{p p1 p2 p3 p4 p5 p6 kp kq lpos pos:Pos}{jc i k:Nat}{t:TA}(hc:X.calm=true)(hr:Room k X.A)(hg:Gl X "min")(hm:X.mg "min"=none)(hml:X.mg "len"=none)(hb:BM X.base X.mg)(L:LamOk fv lv params sc)(hN:X.N[i]? =some fv)(hcell:X.env.scope.names.lookup fv=some .cell)(hkd:X.env.kindOf fv=some .cell)(hcc:X.env.cells.lookup fv=some cc)(hcl:closureFor sc X.env=pure [(fv,cc)])(hcode:X.env.code=.ref c)(hcd:codeHdIn X.K c P=true)(hq:X.env.qual++"<lambda>"=qual)(hdef:defaultsOf params X.env=([],[]))(ha:PA X [e] t)(he:∀ pos,backTo pos (starEach [e] X.env)=(false,eval e X.env)::backTo pos (starEach [] X.env):=by intro _;rfl)(hpl:∀ pos,(backTo pos (starEach [e] X.env)).any (·.1)=false:=by intro _;rfl):
  PE X (.Call (.Name "min" p) [e] [⟨some "key", .Lambda params (.Call (.Name "len" p1) [.Subscript (.Name fv p2) (.Name lv p3) p4] [] p5) sc lpos,kp⟩,⟨some "default", .Constant .none jc p6,kq⟩] pos) (BX X.K P lpos qual i t):=by
 intro pins s σ H Q I h
 refine wpAny_Call_Name_kw (Vf I hg hm (show bootBuiltins "min"=some (.builtin "min") by decide +kernel) ?_)
 refine callWith_kw ?_ (he _) (hpl _) rfl rfl
 refine Yc (ha pos pins s σ H _ I h) λus s1 ⟨vs,H1,I1,r1,l,d,xs,kvs,g,e1,hl,hP,hσ,hd,hz,q⟩=>?_
 subst e1
 obtain⟨u1,rfl,ru1⟩:=r1.one
 cases (show u1=Value.ref l from ru1)
 refine kws_cons (JE I1 hP hcode hcd hq hb hdef hcl λf c' pm ctv h' tk H2 I2 k2 ho hrec=>?_)
 refine kws_cons ?_
 refine Constant_none (kws_nil ?_)
 show wpAny (model X.prog X.w) X.A (call (.builtin "min") [.ref l] [(Str.ofString "key",.ref f),(Str.ofString "default",.none)]) (EP X pins σ Q) X.xe _
 obtain⟨its,rv,pl,_⟩:=I2.list (Uv hl k2)
 have rvl:xs.length=its.length:=by have:=rv.length;rw[length_map]at this;exact this
 have at':∀ (j:Nat) (v:Value),its[j]? =some v->∃ x t,xs[j]? =some x/\v=.str x t:=λj v e=>by
  have hj:j<xs.length:=by rw[rvl];exact(List.getElem?_eq_some_iff.mp e).1
  obtain⟨v',e',r'⟩:=Vals.get rv (i:=j) (x:=V.str xs[j]) (by rw[getElem?_map,getElem?_eq_getElem hj];rfl)
  rw[e]at e';cases e'
  obtain⟨t,r'⟩:=r'
  exact⟨xs[j],t,getElem?_eq_getElem hj,r'⟩
 have gd:∀ (j:Nat) (x:Str),xs[j]? =some x->(xs[j]?.getD "":Str)=x:=λj x e=>by rw[e];rfl
 refine FK (λj=>((g (xs[j]?.getD ""):Nat):Int)) (I2.ok.hd hc) pl.isList (λj v hv h tk2 kk=>?_) (λj v h tk2 hv hL kk=>?_) λhn h tk2 kk=>?_
 .obtain⟨x,tx,hx,rfl⟩:=at' j v hv
  obtain⟨l',zs,z1,z2,z3,z4⟩:=hz x (mem_of_getElem? hx)
  obtain⟨_,_,kvv,rel,dd⟩:=Pq I2.hok (Rd.same hd k2)
  obtain⟨w',hw,rw'⟩:=(Bo rel (.inr x)).1 _ z1
  cases (show w'=Value.ref l' from rw')
  obtain⟨it2,rv2,pl2,_⟩:=I2.list (Uv z2 k2)
  have hcv:Heap.IsCell h' cc (some (.ref d)):=by
   obtain⟨m,_,hl2⟩:=I2.loc
   obtain⟨u,ru,lk⟩:=hl2 i fv (.ref d) hN hσ (.inr (.inl hcell))
   cases (show u=Value.ref d from ru)
   rcases lk with⟨z,_⟩|⟨_,c2,e2,z⟩
   .rw[hkd]at z;cases z
   .rw[hcc]at e2;cases e2;exact z
  obtain⟨mb,hb1,hb2⟩:=I2.mod.blt
  have bk2:=I2.bk
  obtain⟨oc,es,ep,e3,r3⟩:=dd.mapOf
  refine IE (prog:=X.prog) (w:=X.w) (A:=X.A.in1) (by have:=hr.dp;show X.A.depth<recursionLimit;omega) (kk _ _ ho) ?_ L.co L.gen L.kind L.cell L.loc L.free L.glob (L.bind _ _ _ _ _ _ _) L.dl L.df L.cf ((I2.mod.glob.keeps bk2).keeps kk) hml ((hb1.keeps bk2).keeps kk) ((hb2 "len" (by decide)).trans (by decide +kernel)) (I2.nolimit.keeps kk) (hcv.keeps kk) ⟨oc,es,ep,kk _ _ e3,r3⟩ hw (let ⟨o,e,r⟩:=pl2.isList;⟨o,kk _ _ e,r⟩) (by rw[size_toArray,<-rv2.length,z3];exact z4) λh2 tk3 t' k3=>⟨h2,tk3,t',rfl,?_,k3⟩
  .obtain⟨c2,oc,vs,tq,z,e,r⟩:=hrec;exact⟨c2,oc,vs,tq,z,kk _ _ e,r⟩
  .rw[size_toArray,<-rv2.length,z3,gd j x hx]
 .obtain⟨x,tx,hx,rfl⟩:=at' j v hv
  refine⟨.str x,H2,I2.kept kk,⟨tx,rfl⟩,(q H2 k2).2 j x hx λx' hx' i y hy=>?_⟩
  rw[hx]at hx';cases hx'
  have:=hL i (by rw[<-rvl];exact(List.getElem?_eq_some_iff.mp hy).1)
  dsimp only at this
  rw[gd j x hx,gd i y hy]at this
  exact⟨by omega,λz=>by have:=this.2 z;omega⟩
 .refine⟨.non,H2,I2.kept kk,rfl,(q H2 k2).1 ?_⟩
  cases xs with
  |nil=>rfl
  |cons _ _=>rw[hn]at rvl;cases rvl
def Ji(l:List (Ab×D)):D->Option Nat
 | .str x=>match Zb l (.inr x) with
  |some (.lst ys)=>if ys.length<1000 then some ys.length else none
  |_=>none
 |_=>none
def Do(l:List (Ab×D)):List D->Res D
 | []=>.ok .non
 |x::xs=>match Ji l x with
  |none=>.stuck
  |some n=>(Do l xs).bind λy=>match Ji l y with
   |none=>.ok x
   |some m=>if m<n then .ok y else .ok x
def VE(l:List (Ab×D))(ds:List D):Res D:=match ds with
 | [.lst xs]=>Do l xs
 |_=>.stuck
def Zx(i:Nat)(fs:Ba->Res (List D)):Ba->Res D:=λδ=>match Gc i δ with
 | .ok l=>(fs δ).bind (VE l)
 |_=>.stuck
theorem Least.uniq{g:Str->Nat}{xs:List Str}{i j:Nat}{x y:Str}(h1:Least g xs i)(h2:Least g xs j)(e1:xs[i]? =some x)(e2:xs[j]? =some y):x=y:=by
 rcases Nat.lt_trichotomy i j with z|z|z
 .have a:=(h2 y e2 i x e1).2 z
  have b:=(h1 x e1 j y e2).1
  omega
 .subst z;rw[e1]at e2;cases e2;rfl
 .have a:=(h1 x e1 j y e2).2 z
  have b:=(h2 y e2 i x e1).1
  omega
theorem Sl{l:List (Ab×D)}:∀ {ds:List D} {r:D},Do l ds=.ok r->∃ xs:List Str,ds=xs.map D.str/\(∀ x∈xs,∃ ys,Zb l (.inr x)=some (.lst ys)/\ys.length<1000/\Ji l (.str x)=some ys.length)/\
  ((xs= []/\r=.non)\/∃ j x,xs[j]? =some x/\Least (λx=>(Ji l (.str x)).getD 0) xs j/\r=.str x)
 | [],r,h=>by cases h;exact⟨[],rfl,λ_ z=>(nomatch z),.inl ⟨rfl,rfl⟩⟩
 |d::ds,r,h=>by
  rw[Do]at h
  cases hd:Ji l d with
  |none=>rw[hd]at h;cases h
  |some n=>
   rw[hd]at h
   dsimp only at h
   cases hm:Do l ds with
   |stuck=>rw[hm]at h;cases h
   |ex c fs=>rw[hm]at h;cases h
   |ok y=>
    rw[hm]at h
    obtain⟨xs,rfl,hx,hy⟩:=Sl hm
    have hx0:∃ x0,d=.str x0:=by
     unfold Ji at hd
     split at hd
     .exact⟨_,rfl⟩
     .cases hd
    obtain⟨x0,rfl⟩:=hx0
    have h0:∃ ys,Zb l (.inr x0)=some (.lst ys)/\ys.length<1000/\Ji l (.str x0)=some ys.length:=by
     have hd':=hd
     unfold Ji at hd'
     dsimp only at hd'
     split at hd'
     .rename_i ys e
      split at hd'
      .rename_i z
       exact⟨ys,e,z,by rw[hd,hd']⟩
      .cases hd'
     .cases hd'
    refine⟨x0::xs,rfl,λx z=>?_,.inr ?_⟩
    .rcases mem_cons.mp z with rfl|z
     .exact h0
     .exact hx x z
    .have z0:(λx=>(Ji l (.str x)).getD 0) x0=n:=by show(Ji l (.str x0)).getD 0=n;rw[hd];rfl
     rcases hy with⟨rfl,rfl⟩|⟨j,x,e1,e2,rfl⟩
     .cases (show Res.ok (D.str x0)=Res.ok r from h)
      refine⟨0,x0,rfl,λx' ex i y ey=>?_,rfl⟩
      cases ex
      cases i with
      |zero=>cases ey;exact⟨le_refl _,λz=>absurd z (lt_irrefl _)⟩
      |succ i=>simp at ey
     .obtain⟨ys,f1,f2,f3⟩:=hx x (mem_of_getElem? e1)
      have zx:(λx=>(Ji l (.str x)).getD 0) x=ys.length:=by show(Ji l (.str x)).getD 0=_;rw[f3];rfl
      have h':(if ys.length<n then Res.ok (D.str x) else Res.ok (D.str x0))=Res.ok r:=by
       have:=h
       dsimp only[Res.bind]at this
       rw[f3]at this
       exact this
      split at h'
      .rename_i z
       cases h'
       refine⟨j+1,x,e1,λx' ex i y ey=>?_,rfl⟩
       rw[show(x0::xs)[j+1]? =xs[j]? from rfl,e1]at ex;cases ex
       cases i with
       |zero=>cases ey;rw[z0,zx];exact⟨by omega,λ_=>z⟩
       |succ i=>have:=e2 x e1 i y ey;exact⟨this.1,λq=>this.2 (by omega)⟩
      .rename_i z
       cases h'
       refine⟨0,x0,rfl,λx' ex i y ey=>?_,rfl⟩
       cases ex
       cases i with
       |zero=>cases ey;exact⟨le_refl _,λz=>absurd z (lt_irrefl _)⟩
       |succ i=>
        have:=(e2 x e1 i y ey).1
        rw[zx]at this
        rw[z0]
        exact⟨by omega,λq=>absurd q (Nat.not_lt_zero _)⟩
theorem Jq{l:List (Ab×D)}:∀ {ds:List D} {c gs},Do l ds=.ex c gs->False
 | [],_,_,h=>by cases h
 |d::ds,c,gs,h=>by
  rw[Do]at h
  split at h
  .cases h
  .cases hm:Do l ds with
   |stuck=>rw[hm]at h;cases h
   |ex c fs=>exact Jq hm
   |ok y=>
    rw[hm]at h
    dsimp only[Res.bind]at h
    split at h
    .cases h
    .split at h<;>cases h
theorem Vv{K:Frag}{W:WS}{H:Hp}:∀ {xs:List Str} {vs:List V},HasL K W H (xs.map D.str) vs->vs=xs.map V.str
 | [],vs,r=>by rw[map_nil,HasL]at r;exact r
 |x::xs,vs,r=>by
  rw[map_cons,HasL]at r
  obtain⟨v,q,rfl,hv,hq⟩:=r
  rw[Has]at hv
  rw[hv,Vv hq];rfl
theorem BU{xw:XW}{c P cc:Addr}{qual fv lv:Str}{params:Arguments}{sc:Scope}{e:Expr}{p p1 p2 p3 p4 p5 p6 kp kq lpos pos:Pos}{jc k:Nat}{fs:Ba->Res (List D)}(i:Nat)(hT:(P,lpos,qual)∈Gh)(hcd:codeHdIn X.K c P=true)(hcode:X.env.code=.ref c)(hc:X.calm=true)(hr:Room k X.A)(hm:X.mg "min"=none)(hml:X.mg "len"=none)(hb:BM X.base X.mg)(L:LamOk fv lv params sc)(ha:XA X xw [e] fs)(hcc:X.env.cells.lookup fv=some cc)(hcl:closureFor sc X.env=pure [(fv,cc)])(hN:X.N[i]? =some fv:=by rfl)(hcell:X.env.scope.names.lookup fv=some .cell:=by rfl)(hkd:X.env.kindOf fv=some .cell:=by rfl)(hq:X.env.qual++"<lambda>"=qual:=by rfl)(hdef:defaultsOf params X.env=([],[]):=by rfl)(hg:Gl X "min":=by rfl)(he:∀ pos,backTo pos (starEach [e] X.env)=(false,eval e X.env)::backTo pos (starEach [] X.env):=by intro _;rfl)(hpl:∀ pos,(backTo pos (starEach [e] X.env)).any (·.1)=false:=by intro _;rfl):
  XE X xw (.Call (.Name "min" p) [e] [⟨some "key", .Lambda params (.Call (.Name "len" p1) [.Subscript (.Name fv p2) (.Name lv p3) p4] [] p5) sc lpos,kp⟩,⟨some "default", .Constant .none jc p6,kq⟩] pos) (Zx i fs):=
 ⟨PE.weak (GL hc hr hg hm hml hb L hN hcell hkd hcc hcl hcode hcd hq hdef ha.h he hpl) λσ H Q ⟨W₀,H₀,W,δ,st,q⟩=>by
  refine⟨W₀,H₀,W,δ,st,?_⟩
  unfold Zx at q
  have hs:∀ l,Gc i δ= .ok l->∃ a kvs,σ[i]? =some (some (.ref a))/\Rd H a (.dK kvs)/\HasP X.K W H l kvs:=λl hl=>by
   unfold Gc at hl
   split at hl
   .rename_i ks ds h
    cases hl
    obtain⟨v,e1,a,kvs,rfl,r2,r3,r4,r5,r6⟩:=st.at' i _ h
    exact⟨a,kvs,e1,.inl r4,(HasP.of r5 r6).1⟩
   .rename_i ks ds h
    cases hl
    obtain⟨v,e1,r⟩:=st.at' i _ h
    have r':Has X.K W H (.dct ks ds) v:=r
    rw[Has]at r'
    obtain⟨a,kvs,rfl,r4,r5,r6⟩:=r'
    exact⟨a,kvs,e1,.inr r4,(HasP.of r5 r6).1⟩
   .cases hl
  cases hl:Gc i δ with
  |stuck=>rw[hl]at q;exact q.elim
  |ex c gs=>rw[hl]at q;exact q.elim
  |ok l=>
   rw[hl]at q
   dsimp only at q
   obtain⟨a,kvs,s1,s2,s3⟩:=hs l hl
   cases h1:fs δ with
   |stuck=>rw[h1]at q;exact q
   |ex c gs=>rw[h1]at q;exact q
   |ok ds=>
    rw[h1]at q
    intro vs H1 k1 hv
    dsimp only[Res.bind]at q
    unfold VE at q
    split at q
    .rename_i xs0
     cases hmg:Do l xs0 with
     |stuck=>rw[hmg]at q;exact q.elim
     |ex c gs=>
      exfalso
      exact Jq hmg
     |ok r=>
      rw[hmg]at q
      obtain⟨xs,rfl,g1,g2⟩:=Sl hmg
      rw[HasL]at hv
      obtain⟨v,r1,rfl,hv1,hv2⟩:=hv
      rw[HasL]at hv2
      subst hv2
      have hv1':HasT X.K W H1 (.lst (xs.map D.str)) v:=.inl hv1
      obtain⟨l1,ys,rfl,sq,hy⟩:=hv1'.lst
      rw[Vv hy]at sq
      have w1:=st.fr.wl.same k1
      have hp1:=s3.same k1 st.fr.wl
      refine⟨l1,a,xs,kvs,λx=>(Ji l (.str x)).getD 0,rfl,sq,w1.tab _ hT,s1,Rd.same s2 k1,λx hx=>?_,λH2 k2=>⟨λe=>?_,λj x ej hj=>?_⟩⟩
      .obtain⟨zs,f1,f2,f3⟩:=g1 x hx
       obtain⟨v,e1,e2⟩:=(hp1.get (.inr x)).1 _ f1
       have e2':HasT X.K W H1 (.lst zs) v:=.inl e2
       obtain⟨l',us,rfl,sq',hu⟩:=e2'.lst
       refine⟨l',us,e1,sq',?_,?_⟩
       .show us.length=(Ji l (.str x)).getD 0
        rw[f3,<-hu.length];rfl
       .show(Ji l (.str x)).getD 0<1000
        rw[f3];exact f2
      .rcases g2 with⟨_,rfl⟩|⟨j,x,ej,_⟩
       .exact q .non H2 (k1.trans k2) (by rw[Has])
       .rw[e]at ej;cases ej
      .rcases g2 with⟨e,_⟩|⟨j',x',ej',hj',rfl⟩
       .rw[e]at ej;cases ej
       .cases Least.uniq hj hj' ej ej'
        exact q (.str x) H2 (k1.trans k2) (by rw[Has])
    .exact q.elim⟩
theorem LJ{P:Program}{w:World}{K:Frag}{mg:Str->Option Value}{base:Heap}{k:Nat}{x qual:Str}{st:Stmt}{fa:Addr}{fd:FuncData}{N ps:List Str}{g:Ba->Out}(F:Fun K x qual st fa fd)(S:FnScope N ps (Ca st))(hm:mg x=some (.ref fa))(hb:Binds K fd ps [])(body:∀ (A:Around) (outer:List Env) (s:Shared) (H:Hp) (E:XK),Room k (A.deeper (envOfC qual (Ca st) s.heap.objs.size fa fd.code))->
   XSs (Km Qm P w K mg base N qual (Ca st) fa fd.code A outer s H E).nox Vq (Bb st) g):Fn P w K mg base (k+1) x ps.length (Ud N.length g):=by
 obtain⟨oc,od,kV,doc,pm,an,cdv,ct,osl,rfl,lk,hcd⟩:=id F.ex
 refine⟨fa,_,ps,AN lk hcd S (λvs H Q E h=>h.1) (λA outer s H vs Q E hr h=>?_),hm,F.kp,hb⟩
 obtain⟨hl,W,ds,hw,hd,q⟩:=h
 refine⟨_,(show AC _ _ _ _ from(body A outer s H E hr).h).nox,W,H,W,Sa N.length ds,Lj hw hd,?_⟩
 unfold Ud at q
 cases h:g (Sa N.length ds) with
 |rt d=>rw[h]at q;exact λv H' k hv=>q v H' k hv
 |nx δ=>rw[h]at q;exact λW' H' σ' k st'=>q .non H' st'.fr.ext (by rw[Has])
 |bk δ=>rw[h]at q;exact q.elim
 |ct δ=>rw[h]at q;exact q.elim
 |ex c fs=>rw[h]at q;exact q.elim
 |stuck=>rw[h]at q;exact q.elim
end
end L3
namespace G
open PySem PySem.Spec PyProof.Rows L2 L3
noncomputable def Sg:Ba->Out:=(Mb (Zg (tR (b2 IH (Fa 1) (b1 Pf (Fa 0)))) (Ub (b2 Wm (Fa 0) (Fa 1))) Out.nx)
  (Mb (Pb 2 (b2 Bc (b2 Vu (Fa 1) (kD (.int 48271))) (kD (.int 11))))
  (Mb (Zg (tR (b2 SJ (b1 Pf (Fa 0)) (kD (.int 0)))) (Pb 2 (b2 Bc (Fa 2) (b2 Vu (b2 Rf (b2 Wm (Fa 0) (b2 Rf (b2 Vu (Fa 1) (kD (.int 7))) (b1 Pf (Fa 0)))) (kD (.int 2147483647))) (kD (.int 69621))))) Out.nx)
  (Ub (b2 Rf (b2 Vu (Fa 2) (Fa 2)) (kD (.int 2147483629)))))))
noncomputable def Oa:List D->Res D:=Ud 3 Sg
noncomputable def Uc:Ba->Out:=(Mb (Pb 4 (b2 Rf (b2 Rf (Fa 3) (b2 QB (kD (.int 10)) (kD (.int 60)))) (b2 Bc (b1 Pf (Fa 2)) (kD (.int 2)))))
  (Zg (tR (b2 IH (Fa 4) (b1 Pf (Fa 2)))) (Ng 2 (Ga 4)) (Zg (tR (b2 CC (Fa 4) (b1 Pf (Fa 2)))) (Ng 2 (kD .non)) (Ng 2 (b2 Wm (Fa 2) (b1 EB (kD (.int 1))))))))
noncomputable def Pj:Ba->Out:=(Mb (Yd 2 (b1 Xd (Aa (kD .non) Ia)))
  (Mb (Ue (Nb 3) Uc (b1 Ve (Uf (b3 Cw (Fa 0) (b1 Wg (kD (.int 4))) (b1 Wg (b2 Bc (kD (.int 4)) (Fa 1)))))))
  (Ub (Fa 2))))
noncomputable def Mc:List D->Res D:=Ud 5 Pj
noncomputable def Vh:Ba->Res D:=(b1 Rg (Aa (Ga 0) (Aa (Uf (b1 Ve (Fa 1))) Ia)))
noncomputable def Ot:Ba->Out:=(Ub (Uf (Rc 2 (Xe 2 (Lb (Nb 0) (Lb (Nb 1) We))) (λ_=>.ok true) Vh (b1 Ve (Ga 0)))))
noncomputable def Lg:List D->Res D:=Ud 1 Ot
noncomputable def Kg:List (Str×(Ba->Res D)):= [("rules",(Ga 1)),("doors",(Uf (b1 Ve (Fa 2)))),("wings",(b1 (Ha 1 Lg) (Aa (Ga 3) Ia))),("grants",(b1 (Ha 1 Lg) (Aa (Ga 4) Ia)))]
noncomputable def Pc:Ba->Out:=(Zg (tR (b2 CQ (b2 Wm (Fa 0) (Fa 3)) (Fa 2))) (Ng 2 (Ga 3)) Out.nx)
noncomputable def Ni:Ba->Out:=(Mb (Yd 2 (b1 Xd (Aa (Ga 1) Ia)))
  (Mb (Ue (Nb 3) Pc (b1 Oo (Aa (b2 Bc (Fa 1) (kD (.int 1))) (Aa (b1 Pf (Fa 0)) Ia))))
  (Ub (Fa 2))))
noncomputable def Fc:List D->Res D:=Ud 4 Ni
noncomputable def Yl:Ba->Out:=(Mb (Pb 2 (kD (.str "abcdefghijklmnopqrstuvwxyz")))
  (Mb (Pb 3 (b1 (Ha 2 Oa) (Aa (Ga 0) (Aa (kD (.int 0)) Ia))))
  (Ub (b2 Bc (b2 Bc (b2 Bc (b2 DB (kD (.str "x")) (b2 Rf (Fa 3) (kD (.int 4)))) (b2 Wm (Fa 2) (b2 Rf (Fa 1) (kD (.int 26))))) (b2 Wm (Fa 2) (b2 Rf (b2 Wn (Fa 1) (kD (.int 26))) (kD (.int 26))))) (b2 DB (kD (.str "q")) (b2 Rf (b2 Wn (Fa 3) (kD (.int 4))) (kD (.int 5))))))))
noncomputable def Pa:List D->Res D:=Ud 4 Yl
noncomputable def Dd:Ba->Out:=(Mb (Pb 4 (b2 Rf (b1 (Ha 2 Oa) (Aa (Ga 0) (Aa (b2 Bc (kD (.int 60)) (Fa 3)) Ia))) (Fa 1)))
  (Pb 2 (Uf (UH Jw (Uf (b3 CY (Uf (b3 Cw (Fa 2) Ug (b1 Wg (Ga 4)))) Ug (b1 Wg (b1 EB (kD (.int 1)))))) (Uf (b3 Cw (Fa 2) (b1 Wg (Ga 4)) Ug))))))
noncomputable def Kk:Ba->Out:=(Mb (Pb 2 (Uf (b1 OE (Aa (Ga 1) Ia))))
  (Mb (Ue (Nb 3) Dd (b1 Aj (Aa (Ga 1) Ia)))
  (Ub (Ga 2))))
noncomputable def Jb:List D->Res D:=Ud 5 Kk
noncomputable def Ad:Ba->Res D:=(b1 (Ha 2 Pa) (Aa (Ga 1) (Aa (Ga 0) Ia)))
noncomputable def Bd:Ba->Res D:=(b2 Wm (Fa 4) (Fa 0))
noncomputable def Cd:Ba->Out:=(Mb (Yd 7 (Rc 1 (Nb 0) (λ_=>.ok true) Bd (b1 Ve (b1 (Ha 2 Fc) (Aa (Ga 1) (Aa (Ga 6) Ia))))))
  (Mb (Zg (Ii (tR (b2 SJ (b1 Pf (Fa 7)) (kD (.int 1)))) (tR (b2 CC (b2 Rf (b1 (Ha 2 Oa) (Aa (Ga 0) (Aa (b2 Bc (kD (.int 30)) (Fa 6)) Ia))) (kD (.int 2))) (kD (.int 0))))) (Mb (Ng 4 (b1 Rg (Aa (b1 (Ha 2 Pa) (Aa (Ga 0) (Aa (b2 Bc (kD (.int 52)) (Fa 6)) Ia))) (Aa (Uf (b3 Cw (Fa 7) (b1 Wg (kD (.int 1))) Ug)) Ia))))
  (Yd 7 (b1 Xd (Aa (b1 (Ha 2 Pa) (Aa (Ga 0) (Aa (b2 Bc (kD (.int 52)) (Fa 6)) Ia))) (Aa (b2 Wm (Fa 7) (kD (.int 0))) Ia))))) Out.nx)
  (Al 7 (Ng 5 (b1 Rg (Aa (b1 (Ha 2 Pa) (Aa (Ga 0) (Aa (b2 Bc (kD (.int 26)) (Fa 6)) Ia))) (Aa (Ga 7) Ia)))))))
noncomputable def Jk:Ba->Out:=(Mb (Yd 3 (Rc 1 (Nb 0) (λ_=>.ok true) Ad (b1 Aj (Aa (b1 Pf (Fa 1)) Ia))))
  (Mb (Yd 4 (b1 Xd Ia))
  (Mb (Yd 5 (b1 Xd Ia))
  (Mb (Ue (Nb 6) Cd (b1 Ve (b1 (Ha 2 Jb) (Aa (Ga 0) (Aa (b1 Pf (Fa 1)) Ia)))))
  (Al 4 (Al 5 (Al 3 (Ub (b1 (Ha 4 (Iq 4 "House" Kg)) (Aa (Ga 2) (Aa (Ga 3) (Aa (Ga 4) (Aa (Ga 5) Ia)))))))))))))
noncomputable def Sc:List D->Res D:=Ud 8 Jk
noncomputable def Nk:Ba->Out:=(Ub (Uz .Sub (Fa 0) (Fa 1)))
noncomputable def Yb:List D->Res D:=Ud 2 Nk
noncomputable def Ig:Ba->Res D:=(Ga 0)
noncomputable def Pe:Ba->Res Bool:=(Ii (tR (b2 Uj (Fa 0) (Fa 2))) (tR (b1 (Ha 2 Yb) (Aa (Dr De (Gc 1) (Fa 2)) (Aa (Dr De (Gc 1) (Fa 0)) Ia)))))
noncomputable def Pk:Ba->Out:=(Ub (Uf (Rc 1 (Nb 0) Pe Ig (Dt Gq (Ga 0)))))
noncomputable def Ic:List D->Res D:=Ud 2 Pk
noncomputable def Jn:Ba->Out:=(Ub (Zx 0 (Aa (b1 (Ha 2 Ic) (Aa (Ga 0) (Aa (Ga 1) Ia))) Ia)))
noncomputable def Bf:List D->Res D:=Ud 2 Jn
noncomputable def Pt:Ba->Out:=(Ub (b2 Wm (Fa 0) (kD (.int 1))))
noncomputable def Qf:List D->Res D:=Ud 1 Pt
noncomputable def Zl:Ba->Out:=(Ub (Uz .BitAnd (Fa 0) (Fa 1)))
noncomputable def Fe:List D->Res D:=Ud 2 Zl
noncomputable def Lk:Ba->Out:=(Ub (b2 Uj (b1 (Ha 2 Yb) (Aa (Ga 0) (Aa (Ga 1) Ia))) (b1 (Ha 2 Yb) (Aa (Ga 1) (Aa (Ga 0) Ia)))))
noncomputable def Md:List D->Res D:=Ud 2 Lk
noncomputable def Ec:Ba->Out:=(Zg (Ii (Bj (tR (b1 (Ha 2 Fe) (Aa (Dr De (Gc 0) (Fa 3)) (Aa (Dr De (Gc 0) (Fa 4)) Ia))))) (Bj (tR (b1 (Ha 2 Md) (Aa (Dr De (Gc 0) (Fa 3)) (Aa (Dr De (Gc 0) (Fa 4)) Ia)))))) (λ_=>.stuck) Out.nx)
noncomputable def Sb:Ba->Out:=(Ue (Nb 4) Ec (b1 Ve (Uf (b3 Cw (Fa 1) (b1 Wg (b2 Bc (Fa 2) (kD (.int 1)))) Ug))))
noncomputable def Ih:Ba->Out:=(Mb (Pb 1 (Uf (Dt Vi (Ga 0))))
  (Ue (Xe 2 (Lb (Nb 2) (Lb (Nb 3) We))) Sb (b1 Qi (Aa (Ga 1) Ia))))
noncomputable def Cc:List D->Res D:=Ud 5 Ih
noncomputable def Ld:Ba->Out:=(Mb (Qq 5 4)
  (Zg (tR (NC Lq (Fa 5) (Gc 3))) (Mb (Bl 3 (Ga 5) (kD (.bl true)))
  (Ov 4 (Tz (Gc 2) (Aa (Ga 5) (Aa (Uf (b1 Xd Ia)) Ia))))) Out.nx))
noncomputable def Kd:Ba->Res Bool:=(tR (b2 SJ (b1 Pf (Fa 4)) (kD (.int 0))))
noncomputable def Wh:Ba->Res D:=(Ga 0)
noncomputable def Bg:Ba->Res Bool:=(tR (NC NA (Fa 0) (Gc 4)))
noncomputable def Hn:Ba->Out:=(Mb (Pb 2 (b1 Oi (Uf (UH Jw (b1 (Ti "House" "wings") (Ga 0)) (b1 (Ti "House" "grants") (Ga 0))))))
  (Mb (Qo 3)
  (Mb (Yd 4 (b1 Xd (Aa (Ga 1) Ia)))
  (Mb (Ek 100000 Kd Ld)
  (XL 3 (Ub (Uf (Rc 1 (Nb 0) Bg Wh (b1 Ve (b1 (Ti "House" "doors") (Ga 0)))))))))))
noncomputable def Af:List D->Res D:=Ud 6 Hn
noncomputable def Xh:Ba->Res D:=(Ga 0)
noncomputable def Ln:Ba->Out:=(Ub (Uf (Rc 2 (Xe 2 (Lb (Nb 0) (Lb (Nb 1) We))) (λ_=>.ok true) Xh (b1 Ve (Ga 0)))))
noncomputable def Cf:List D->Res D:=Ud 1 Ln
noncomputable def Cg:Ba->Res D:=(b1 Rg (Aa (Ga 0) (Aa (b1 (Ha 2 Af) (Aa (Ga 1) (Aa (Ga 0) Ia))) Ia)))
noncomputable def Mn:Ba->Out:=(Ub (b1 Oi (Uf (Rc 1 (Nb 0) (λ_=>.ok true) Cg (b1 Ve (b1 (Ha 1 Cf) (Aa (b1 (Ti "House" "grants") (Ga 0)) Ia)))))))
noncomputable def Df:List D->Res D:=Ud 1 Mn
noncomputable def Vz:Ba->Out:=(Ub (b2 Wm (Fa 0) (kD (.int 3))))
noncomputable def Lh:List D->Res D:=Ud 1 Vz
noncomputable def Nn:Ba->Out:=(Mb (Pb 1 (b1 (Ha 1 Df) (Aa (Ga 0) Ia)))
  (Mb (Po (b1 (Ha 1 Cc) (Aa (Ga 1) Ia)))
  (Mb (Zg (tR (b2 IH (b1 (Ha 1 Lh) (Aa (b1 (Ti "House" "rules") (Ga 0)) Ia)) (b2 Rx (b1 (Ha 1 Qf) (Aa (b1 (Ti "House" "rules") (Ga 0)) Ia)) (kD (.int 1))))) (λ_=>.stuck) Out.nx)
  (Ub (Ga 1)))))
noncomputable def Hd:List D->Res D:=Ud 2 Nn
noncomputable def Kn:Ba->Out:=(Ub (b1 (Ha 2 Bf) (Aa (b1 (Ha 1 Hd) (Aa (Ga 0) Ia)) (Aa (Ga 1) Ia))))
noncomputable def Ed:List D->Res D:=Ud 2 Kn
noncomputable def Nf:Ba->Res D:=(b1 Rg (Aa (Ga 0) (Aa (b1 Pf (b1 (Ha 2 Ic) (Aa (Ga 1) (Aa (Ga 0) Ia)))) Ia)))
noncomputable def Am:Ba->Out:=(Ub (b1 Oi (Uf (Rc 1 (Nb 0) (λ_=>.ok true) Nf (Dt Gq (Ga 0))))))
noncomputable def Ge:List D->Res D:=Ud 1 Am
noncomputable def Bm:Ba->Out:=(Ub (b1 (Ha 1 Ge) (Aa (b1 (Ha 1 Hd) (Aa (Ga 0) Ia)) Ia)))
noncomputable def Fd:List D->Res D:=Ud 1 Bm
noncomputable def Tk:Ba->Out:=(Zg (tR (b1 Oj (Fa 7))) (Ng 5 (kD (.int 0))) (Ng 5 (b2 Bc (b2 Wm (Fa 5) (Fa 7)) (kD (.int 1)))))
noncomputable def Rk:Ba->Res D:=(b1 (Ha 2 Pa) (Aa (Ga 1) (Aa (b2 Bc (kD (.int 26)) (Fa 0)) Ia)))
noncomputable def Uk:Ba->Out:=(Mb (Pb 10 (b1 (Ha 2 Pa) (Aa (Ga 0) (Aa (b2 Bc (kD (.int 26)) (Fa 6)) Ia))))
  (Mb (Zg (Fk (tR (b2 Uj (Dr De (Gc 9) (Fa 10)) (b2 Wm (Fa 5) (Fa 6)))) (tR (b1 (Tr "bool") (Dr De (Gc 9) (Fa 10))))) (Ub (kD (.bl false))) Out.nx)
  (Mb (Pb 11 (kD .non))
  (Mb (Zg (tR (b1 Go (Fa 7))) (Pb 11 (b1 (Ha 2 Pa) (Aa (Ga 0) (Aa (b2 Bc (kD (.int 26)) (Fa 7)) Ia)))) Out.nx)
  (Mb (Pb 12 (b1 (Ha 2 Ed) (Aa (Ga 4) (Aa (Ga 10) Ia))))
  (Zg (Fk (tR (b2 Uj (Fa 12) (Fa 11))) (tR (b2 Uj (b1 Oj (Fa 12)) (b1 Oj (Fa 11))))) (Ub (kD (.bl false))) Out.nx))))))
noncomputable def TM:Ba->Out:=(Mb (Pb 1 (b1 (Ha 2 Mc) (Aa (Ga 0) (Aa (kD (.int 13)) Ia))))
  (Mb (Pb 2 (b2 Bc (kD (.int 2)) (b2 Rf (b1 (Ha 2 Oa) (Aa (Ga 0) (Aa (kD (.int 1)) Ia))) (kD (.int 19)))))
  (Mb (Pb 3 (b1 Rg (Aa (b2 Bc (kD (.int 1)) (b2 Rf (b1 (Ha 2 Oa) (Aa (Ga 0) (Aa (kD (.int 2)) Ia))) (kD (.int 24)))) (Aa (Ga 2) (Aa (b2 Bc (kD (.int 1)) (b2 Rf (b1 (Ha 2 Oa) (Aa (Ga 0) (Aa (kD (.int 3)) Ia))) (Fa 2))) (Aa (b2 Rx (Fa 2) (kD (.int 1))) Ia))))))
  (Mb (Pb 4 (b1 (Ha 3 Sc) (Aa (Ga 0) (Aa (Ga 1) (Aa (Ga 3) Ia)))))
  (Mb (Yd 5 (b1 Xd Ia))
  (Mb (Ue (Xe 2 (Lb (Nb 6) (Lb (Nb 7) We))) Tk (b1 Qi (Aa (Ga 1) Ia)))
  (Mb (Pb 8 (b1 (Ha 2 Jb) (Aa (Ga 0) (Aa (b1 Pf (Fa 1)) Ia))))
  (Mb (Pb 9 (b1 (Ha 1 Fd) (Aa (Ga 4) Ia)))
  (Mb (Zg (Fk (Bj (tR (b1 (Tr "dict") (Fa 9)))) (tR (b2 Uj (Uf (Dt Vi (Ga 9))) (Uf (Rc 1 (Nb 0) (λ_=>.ok true) Rk (b1 Ve (Ga 8))))))) (Ub (kD (.bl false))) Out.nx)
  (Mb (Ue (Xe 2 (Lb (Nb 6) (Lb (Nb 7) We))) Uk (b1 Qi (Aa (Ga 1) Ia)))
  (Ub (kD (.bl true)))))))))))))
noncomputable def QE:List D->Res D:=Ud 13 TM
local macro_rules| `(tactic| walk_at "ev")=> `(tactic| simp only[Kb,Sa,map_cons,map_nil,List.length_cons,length_nil,cons_append,nil_append,reduceAdd,reduceSub,replicate,
 kD,b1,b2,b3,WX,tR,Ii,Fk,Bj,MM,HY,GY,Ia,Aa,Ug,Uf,Rc,Mb,Pb,Yd,Zg,Ue,Ek,UH,Ng,Ub,Cz,Po,VL,Dz,Bz,Qo,Bl,Dt,Dr,
 La,Cb,Qa,Rb,Ta,Res.bind_ok,Res.bind_ex,Res.bind_stuck,Xa,Zr,Ij,Va,Kj,Ci,Tb,Th,Yi,Rm,Gs,Db,An,
 Ol,Eo,Mr,Eh,Zj,Ui,Pr,Wb,Sh,Mj,Tl,Vk,Si,Xk,Ym,Zm,Wq,Ur,Wc,Rs,Di,Il,Hl,Xg,Ja,Eg,Ez,Gz,Qb,Sm,Qk,Uh,
 set_cons_zero,set_cons_succ,Xd,Rg,if_true,if_false,reduceIte,Bool.not_true,Bool.not_false,false_eq_true,zero_le,reduceLeDiff,zero_add,Int.reduceLT,true_and,and_true,and_self])
local macro_rules| `(tactic| walk_at "ev*")=> `(tactic| simp only[Kb,Sa,map_cons,map_nil,List.length_cons,length_nil,cons_append,nil_append,reduceAdd,reduceSub,replicate,
 kD,b1,b2,b3,WX,tR,Ii,Fk,Bj,MM,HY,GY,Ia,Aa,Ug,Uf,Rc,Mb,Pb,Yd,Zg,Ue,Ek,UH,Ng,Ub,Cz,Po,VL,Dz,Bz,Qo,Bl,Dt,Dr,
 La,Cb,Qa,Rb,Ta,Res.bind_ok,Res.bind_ex,Res.bind_stuck,Xa,Zr,Ij,Va,Kj,Ci,Tb,Th,Yi,Rm,Gs,Db,An,
 Ol,Eo,Mr,Eh,Zj,Ui,Pr,Wb,Sh,Mj,Tl,Vk,Si,Xk,Ym,Zm,Wq,Ur,Wc,Rs,Di,Il,Hl,Xg,Ja,Eg,Ez,Gz,Qb,Sm,Qk,Uh,
 set_cons_zero,set_cons_succ,Xd,Rg,if_true,if_false,reduceIte,Bool.not_true,Bool.not_false,false_eq_true,zero_le,reduceLeDiff,zero_add,Int.reduceLT,true_and,and_true,and_self, *])
local macro_rules| `(tactic| walk_at "evs")=> `(tactic| simp[Kb,Sa,map_cons,map_nil,List.length_cons,length_nil,cons_append,nil_append,reduceAdd,reduceSub,replicate,
 kD,b1,b2,b3,WX,tR,Ii,Fk,Bj,MM,HY,GY,Ia,Aa,Ug,Uf,Rc,Mb,Pb,Yd,Zg,Ue,Ek,UH,Ng,Ub,Cz,Po,VL,Dz,Bz,Qo,Bl,Dt,Dr,
 La,Cb,Qa,Rb,Ta,Res.bind_ok,Res.bind_ex,Res.bind_stuck,Xa,Zr,Ij,Va,Kj,Ci,Tb,Th,Yi,Rm,Gs,Db,An,
 Ol,Eo,Mr,Eh,Zj,Ui,Pr,Wb,Sh,Mj,Tl,Vk,Si,Xk,Ym,Zm,Wq,Ur,Wc,Rs,Di,Il,Hl,Xg,Ja,Eg,Ez,Gz,Qb,Sm,Qk,Uh,
 set_cons_zero,set_cons_succ,Xd,Rg,if_true,if_false,reduceIte,Bool.not_true,Bool.not_false,false_eq_true,zero_le,reduceLeDiff,zero_add,Int.reduceLT,true_and,and_true,and_self, *])
theorem Pz{n:Nat}(h:n<=1000):n<=sizeLine:=le_trans h Nu
theorem Fw(x y:Str)(h:x.length+y.length<=1000):Bc (.str x) (.str y)=.ok (.str (x++y)):=if_pos (Pz h)
theorem Zq(x y:Str):(x++y).length=x.length+y.length:=Array.size_append ..
theorem Ak(i j:Int)(h:0<j):Rf (.int i) (.int j)=.ok (.int (i%j)):=by rw[Vk,if_pos h]
theorem AV(i j:Int)(h:0<j)(h2:j<1073741824):Wn (.int i) (.int j)=.ok (.int (i / j)):=by rw[Si,if_pos ⟨h,h2⟩]
theorem YE(i j:Int)(h: -18446744073709551616<j/\j<18446744073709551616):Vu (.int i) (.int j)=.ok (.int (i*j)):=by rw[Xk];exact if_pos (.inr h)
theorem Gr(ns:List Int)(k:Int)(h0:0<=k)(h1:k<=1000):∃ v,Ha 2 Oa [.lst (ns.map D.int),.int k]=.ok (.int v):=by
 by_cases h:k<(ns.length:Int)
 .obtain⟨d,e,hd⟩:=JC (xs:=ns.map D.int) (i:=k) h0 (by rw[length_map];exact h)
  obtain⟨v,_,rfl⟩:=mem_map.mp hd
  have e':=Ao _ _ _ e
  have dt:decide (k<((ns.map D.int).length:Int))=true:=decide_eq_true (by rw[length_map];exact h)
  refine⟨v,Hb _ _ _ _ ?_ rfl⟩
  clear h
  generalize ns.map D.int=ds at*
  unfold Oa Sg
  simp only[Kb,Sa,map_cons,map_nil,List.length_cons,length_nil,cons_append,nil_append,reduceAdd,reduceSub,replicate,tR,b1,b2,Mb,Zg,Ub,Qa,Ta,Res.bind_ok,Wc,Eh,dt,Db,Tb,if_true,reduceIte,e',Xa,Kj,Qb]
 .have dt:decide (k<((ns.map D.int).length:Int))=false:=decide_eq_false (by rw[length_map];exact h)
  have x1:=YE k 48271 (by decide)
  have x2:=YE k 7 (by decide)
  by_cases hn:0<(ns.length:Int)
  .have dn:decide (0<((ns.map D.int).length:Int))=true:=decide_eq_true (by rw[length_map];exact hn)
   have m1:=Ak (k*7) ((ns.map D.int).length:Int) (by rw[length_map];exact hn)
   obtain⟨d,e,hd⟩:=JC (xs:=ns.map D.int) (i:=k*7%((ns.map D.int).length:Int)) (emod_nonneg _ (by rw[length_map];omega)) (Int.emod_lt_of_pos _ (by rw[length_map];exact hn))
   obtain⟨v,_,rfl⟩:=mem_map.mp hd
   have e':=Ao _ _ _ e
   have m2:=Ak v 2147483647 (by decide)
   have b0:=emod_nonneg v (show(2147483647:Int)≠0 by decide)
   have b1':=Int.emod_lt_of_pos v (show(0:Int)<2147483647 by decide)
   generalize v%2147483647=r at*
   have x3:=YE r 69621 (by decide)
   have x4:=YE (k*48271+11+r*69621) (k*48271+11+r*69621) (by omega)
   have m3:=Ak ((k*48271+11+r*69621)*(k*48271+11+r*69621)) 2147483629 (by decide)
   refine⟨(k*48271+11+r*69621)*(k*48271+11+r*69621)%2147483629,Hb _ _ _ _ ?_ rfl⟩
   clear h hn b0 b1' hd e
   generalize ns.map D.int=ds at*
   unfold Oa Sg
   simp only[Kb,Sa,map_cons,map_nil,List.length_cons,length_nil,cons_append,nil_append,reduceAdd,reduceSub,replicate,tR,kD,b1,b2,Mb,Zg,Pb,Ub,Qa,Ta,Res.bind_ok,Wc,Eh,Ui,dt,dn,Db,Tb,if_true,if_false,false_eq_true,reduceIte,Wb,x1,x2,m1,e',m2,x3,x4,m3,Xa,Va,Kj,Qb,set_cons_zero,set_cons_succ]
  .have dn:decide (0<((ns.map D.int).length:Int))=false:=decide_eq_false (by rw[length_map];exact hn)
   have x4:=YE (k*48271+11) (k*48271+11) (by omega)
   have m3:=Ak ((k*48271+11)*(k*48271+11)) 2147483629 (by decide)
   refine⟨(k*48271+11)*(k*48271+11)%2147483629,Hb _ _ _ _ ?_ rfl⟩
   clear h hn
   generalize ns.map D.int=ds at*
   unfold Oa Sg
   simp only[Kb,Sa,map_cons,map_nil,List.length_cons,length_nil,cons_append,nil_append,reduceAdd,reduceSub,replicate,tR,kD,b1,b2,Mb,Zg,Pb,Ub,Qa,Ta,Res.bind_ok,Wc,Eh,Ui,dt,dn,Db,Tb,if_true,if_false,false_eq_true,reduceIte,Wb,x1,x4,m3,Xa,Va,Qb,set_cons_zero,set_cons_succ]
def TU:Str:="abcdefghijklmnopqrstuvwxyz"
theorem HC:∀ k:Nat,k<26->Wm (.str TU) (.int (k:Int))=.ok (.str ⟨#[97+k]⟩):=by
 intro k hk
 have:∀ k:Nat,k<26->Xo TU.cps.toList (k:Int)=some (97+k):=by decide +kernel
 show(@ite (Res D) (TU.length<=sizeLine) (propDecidable _) (match Xo TU.cps.toList (k:Int) with|some c=>Res.ok (D.str ⟨#[c]⟩)|none=>.stuck) .stuck)=_
 rw[if_pos (Pz (by decide)),this k hk]
def nm(X Q:Str)(k:Nat):Str:=X++⟨#[97+k%26]⟩++⟨#[97+k / 26%26]⟩++Q
theorem ZQ{X Q:Str}{j k:Nat}(hj:j<600)(hk:k<600)(h:nm X Q j=nm X Q k):j=k:=by
 have h2:=congrArg (λs:Str=>s.cps.toList) h
 simp only[nm,Str.cps_append,Array.toList_append,append_assoc,List.append_cancel_left_eq]at h2
 simp only[cons_append,nil_append,List.cons.injEq]at h2
 omega
theorem ZE(x:Str)(n:Int)(h:n<=10)(hx:x.length=1):(PySem.Txt.mul x n).length<=10:=by
 unfold PySem.Txt.mul
 split
 .decide
 .split
  .omega
  .show((replicate n.toNat x.cps).foldl (· ++ ·) #[]).size<=10
   have f:∀ (k:Nat) (b:Array Nat),((replicate k x.cps).foldl (· ++ ·) b).size=b.size+k*x.cps.size:=by
    intro k
    induction k with
    |zero=>intro b;simp
    |succ k ih=>intro b;rw[replicate_succ,foldl_cons,ih,Array.size_append,Nat.succ_mul];omega
   rw[f,show x.cps.size=1 from hx]
   simp
   omega
def HU(x:Str):Prop:=∀ c∈x.cps.toList,c<1114112
theorem Uy(x:Str)(n:Int)(hx:HU x):HU (PySem.Txt.mul x n):=by
 have f:∀ (k:Nat) (b:Array Nat),(∀ c∈b.toList,c<1114112)->∀ c∈((replicate k x.cps).foldl (· ++ ·) b).toList,c<1114112:=by
  intro k
  induction k with
  |zero=>intro b hb;exact hb
  |succ k ih=>
   intro b hb
   rw[replicate_succ,foldl_cons]
   refine ih _ λc hc=>?_
   rw[Array.toList_append]at hc
   exact(mem_append.mp hc).elim (hb c) (hx c)
 unfold PySem.Txt.mul
 split
 .intro c hc;exact absurd hc (by show ¬ c∈([]:List Nat);simp)
 .split
  .exact hx
  .exact f n.toNat #[] λc hc=>absurd hc (by simp)
theorem LK(ns:List Int):∃ X Q:Str,(X.length<=10/\Q.length<=10/\HU X/\HU Q)/\∀ k:Nat,k<600->Ha 2 Pa [.lst (ns.map D.int),.int (k:Int)]=.ok (.str (nm X Q k)):=by
 obtain⟨p,e0⟩:=Gr ns 0 (by decide) (by decide)
 have m1:=Ak p 4 (by decide)
 have a1:=emod_nonneg p (show(4:Int)≠0 by decide)
 have a2:=Int.emod_lt_of_pos p (show(0:Int)<4 by decide)
 have d1:=AV p 4 (by decide) (by decide)
 have m2:=Ak (p / 4) 5 (by decide)
 have a3:=emod_nonneg (p / 4) (show(5:Int)≠0 by decide)
 have a4:=Int.emod_lt_of_pos (p / 4) (show(0:Int)<5 by decide)
 generalize p%4=q1 at*
 generalize p / 4%5=q2 at*
 have s1:DB (.str "x") (.int q1)=.ok (.str (PySem.Txt.mul "x" q1)):=if_pos ⟨a1,by omega,by decide⟩
 have s2:DB (.str "q") (.int q2)=.ok (.str (PySem.Txt.mul "q" q2)):=if_pos ⟨a3,by omega,by decide⟩
 have l1:=ZE "x" q1 (by omega) rfl
 have l2:=ZE "q" q2 (by omega) rfl
 have o1:=Uy "x" q1 (by unfold HU;decide)
 have o2:=Uy "q" q2 (by unfold HU;decide)
 generalize PySem.Txt.mul "x" q1=X at*
 generalize PySem.Txt.mul "q" q2=Q at*
 refine⟨X,Q,⟨l1,l2,o1,o2⟩,λk hk=>?_⟩
 have m3:=Ak (k:Int) 26 (by decide)
 have d3:=AV (k:Int) 26 (by decide) (by decide)
 have m4:=Ak ((k:Int) / 26) 26 (by decide)
 have t1:=HC (k%26) (by omega)
 have t2:=HC (k / 26%26) (by omega)
 rw[show((k%26:Nat):Int)=(k:Int)%26 by omega]at t1
 rw[show((k / 26%26:Nat):Int)=(k:Int) / 26%26 by omega]at t2
 have g1:=Fw X ⟨#[97+k%26]⟩ (by show X.length+1<=1000;omega)
 have g2:=Fw (X++⟨#[97+k%26]⟩) ⟨#[97+k / 26%26]⟩ (by rw[Zq];show X.length+1+1<=1000;omega)
 have g3:=Fw (X++⟨#[97+k%26]⟩++⟨#[97+k / 26%26]⟩) Q (by rw[Zq,Zq];show X.length+1+1+Q.length<=1000;omega)
 refine Hb _ _ _ _ ?_ rfl
 unfold nm
 clear hk l1 l2 a1 a2 a3 a4
 generalize (k:Int)%26=r1 at*
 generalize (k:Int) / 26%26=r2 at*
 unfold TU at*
 unfold Pa Yl
 simp only[Kb,Sa,map_cons,map_nil,List.length_cons,length_nil,cons_append,nil_append,reduceAdd,reduceSub,replicate,kD,b1,b2,Aa,Ia,Ja,Mb,Pb,Ub,La,Cb,Qa,Ta,Res.bind_ok,e0,m1,d1,m2,s1,s2,m3,d3,m4,t1,t2,g1,g2,g3,Xa,Va,Qb,set_cons_zero,set_cons_succ]
def EZ(i:Nat)(c:Int):Nat->List (List Int)->List Int
 |_,[]=> []
 |k,q::C=>if(q.getD i 0==c)=true then(k:Int)::EZ i c (k+1) C else EZ i c (k+1) C
def al(C:List (List Int))(one:List Int)(i:Nat):List Int:=EZ i (one.getD i 0) 0 C
theorem Fz(ds:List D)(lo hi:Option Int):Cw (.lst ds) lo hi=.ok (L3.cutD ds lo hi):=rfl
theorem RC(xs ys:List D)(h:xs.length+ys.length<=1000):Jw (.lst xs) (.lst ys)=.ok (xs++ys):=if_pos (le_trans h Nu)
def Mx(p:Str×List Str):D:=.tup [.str p.1,.lst (p.2.map D.str)]
theorem Cy{fe:Ba->Res D}(f:Str×List Str->D)(δ:Ba):∀ (ps:List (Str×List Str)) (x y:Option S),(∀ p∈ps,fe (some (.d (.str p.1))::some (.d (.lst (p.2.map D.str)))::δ)=.ok (f p))->
  Qe (Xe 2 (Lb (Nb 0) (Lb (Nb 1) We))) (λ_=>.ok true) fe (ps.map Mx) (x::y::δ)=.ok (ps.map f)
 | [],_,_,_=>rfl
 |p::ps,x,y,h=>by
  rw[map_cons,Wj (δ':=some (.d (.str p.1))::some (.d (.lst (p.2.map D.str)))::δ) _ _ _ _ rfl]
  simp only[Eg,Res.bind_ok,if_true,h p mem_cons_self,Cy f δ ps _ _ (λq hq=>h q (mem_cons_of_mem _ hq)),map_cons]
theorem Wp(ps:List (Str×List Str))(hl:ps.length<=1000):Ha 1 Lg [.lst (ps.map Mx)]=.ok (.lst (ps.map Mx)):=by
 have c:=Re (n:=2) (c:=λ_=>.ok true) (fe:=Vh) (δ:= [some (.d (.lst (ps.map Mx)))]) (Cy (fe:=Vh) Mx [some (.d (.lst (ps.map Mx)))] ps none none (λp _=>by
  unfold Vh Mx
  simp only[b1,Uf,Rg,Aa,Ia,Ja,La,Cb,Qa,Ta,Res.bind_ok,Di,List.length_cons,length_nil,reduceAdd,reduceLeDiff,if_true,reduceIte])) (by rw[length_map];omega)
 refine Hb _ _ _ _ ?_ rfl
 generalize ps.map Mx=P at*
 unfold Lg Ot
 simp only[Kb,Sa,map_cons,map_nil,List.length_cons,length_nil,cons_append,nil_append,reduceAdd,reduceSub,replicate,b1,Uf,Rc,Ub,La,Res.bind_ok,Xa,Di,c,Qb]
abbrev EU(R A B C:D):D:=.obj "House" ["rules","doors","wings","grants"] [R,A,B,C]
theorem CK(R:D)(ds:List D)(ps qs:List (Str×List Str))(hp:ps.length<=1000)(hq:qs.length<=1000):Ha 4 (Iq 4 "House" Kg) [R,.lst ds,.lst (ps.map Mx),.lst (qs.map Mx)]=.ok (EU R (.lst ds) (.lst (ps.map Mx)) (.lst (qs.map Mx))):=by
 have e1:=Wp ps hp
 have e2:=Wp qs hq
 refine Hb _ _ _ _ ?_ rfl
 generalize ps.map Mx=P at*
 generalize qs.map Mx=Q at*
 unfold Iq Kg
 simp only[Rj,Sa,map_cons,map_nil,List.length_cons,length_nil,cons_append,nil_append,reduceAdd,reduceSub,replicate,b1,Uf,Aa,Ia,Ja,La,Cb,Qa,Ta,Res.bind_ok,Di,e1,e2]
theorem KZ(R A B C:D):Ti "House" "rules" (EU R A B C)=.ok R:=rfl
theorem LZ(R A B C:D):Ti "House" "doors" (EU R A B C)=.ok A:=rfl
theorem MZ(R A B C:D):Ti "House" "wings" (EU R A B C)=.ok B:=rfl
theorem LV(R A B C:D):Ti "House" "grants" (EU R A B C)=.ok C:=rfl
theorem Fi:∀ xs:List Str,Ei (xs.map D.str)=some xs
 | []=>rfl
 |x::xs=>by show(Ei (xs.map D.str)).map (x:: ·)=_;rw[Fi xs];rfl
theorem Su:∀ (l acc:List (Ab×D)),((acc++l).map (·.1)).Nodup->l.foldl (λa p=>Qg a p.1 p.2) acc=acc++l
 | [],acc,_=>by rw[List.foldl_nil,append_nil]
 |p::l,acc,h=>by
  have h1:Om acc p.1=false:=by
   cases hh:Om acc p.1 with
   |false=>rfl
   |true=>
    unfold Om at hh
    obtain⟨q,hq,e⟩:=List.any_eq_true.mp hh
    rw[map_append,map_cons,nodup_append]at h
    exact absurd (of_decide_eq_true e) (h.2.2 q.1 (mem_map_of_mem hq) p.1 mem_cons_self)
  have h2:Qg acc p.1 p.2=acc++ [p]:=by
   unfold Qg
   rw[h1];rfl
  rw[foldl_cons,h2,Su l (acc++ [p]) (by rw[append_assoc];exact h),append_assoc]
  rfl
theorem UE(l:List (Ab×D))(h:(l.map (·.1)).Nodup):Wf l=l:=(Su l [] h).trans (nil_append l)
def tK(ks:List Nat)(f:Nat->Str)(g:Nat->D):List (Ab×D):=ks.map λk=>(.inr (f k),g k)
def Np(ks:List Nat)(f:Nat->Str):Prop:=∀ a∈ks,∀ b∈ks,f a=f b->a=b
theorem IG{ks:List Nat}{f:Nat->Str}{g:Nat->D}(hi:Np ks f)(hn:ks.Nodup):((tK ks f g).map (·.1)).Nodup:=by
 unfold tK
 rw[map_map]
 refine Pairwise.map _ (R:=λa b=>a∈ks/\b∈ks/\a≠b) (λa b h z=>h.2.2 (hi a h.1 b h.2.1 (Sum.inr.inj z))) ?_
 exact Pairwise.imp_of_mem (λha hb h=>⟨ha,hb,h⟩) hn
theorem Us{f:Nat->Str}{g:Nat->D}:∀ {ks:List Nat},Np ks f->∀ {k:Nat},k∈ks->Zb (tK ks f g) (.inr (f k))=some (g k)
 | [],_,_,h=>by simp at h
 |a::ks,hi,k,h=>by
  show Zb ((Sum.inr (f a),g a)::tK ks f g) (.inr (f k))=_
  by_cases e:f a=f k
  .have:a=k:=hi a mem_cons_self k h e
   subst this
   exact Oh rfl
  .rw[Pg (λz=>e (Sum.inr.inj z))]
   rcases mem_cons.mp h with rfl|h
   .exact absurd rfl e
   .exact Us (λa ha b hb=>hi a (mem_cons_of_mem _ ha) b (mem_cons_of_mem _ hb)) h
theorem Kz{f:Nat->Str}{g:Nat->D}{x:Str}:∀ {ks:List Nat},(∀ k∈ks,f k≠x)->Zb (tK ks f g) (.inr x)=none
 | [],_=>rfl
 |a::ks,h=>by
  show Zb ((Sum.inr (f a),g a)::tK ks f g) (.inr x)=_
  rw[Pg (λz=>h a mem_cons_self (Sum.inr.inj z))]
  exact Kz λk hk=>h k (mem_cons_of_mem _ hk)
def dK(l:List (Ab×D)):D:=.dct (l.map (·.1)) (l.map (·.2))
theorem BO(l:List (Ab×D)):(l.map (·.1)).zip (l.map (·.2))=l:=by
 rw[List.zip_map']
 exact List.map_id _
theorem Jo(f:Nat->Str)(g:Nat->D):∀ ks:List Nat,Mh (ks.map λk=>D.tup [.str (f k),g k])=some (tK ks f g)
 | []=>rfl
 |k::ks=>by
  rw[map_cons]
  show(match Ou (.str (f k)),Mh (ks.map λk=>D.tup [.str (f k),g k]) with
   |some kk,some l=>some ((kk,g k)::l)
   |_,_=>none)=_
  rw[Jo f g ks];rfl
theorem Ir{ks:List Nat}{f:Nat->Str}{g:Nat->D}(hi:Np ks f)(hn:ks.Nodup):Oi (.lst (ks.map λk=>D.tup [.str (f k),g k]))=.ok (dK (tK ks f g)):=by
 unfold Oi
 dsimp only
 rw[Jo]
 dsimp only
 rw[UE _ (IG hi hn)];rfl
theorem Xm(f:Nat->Str)(g:Nat->D)(ks:List Nat):Gq (dK (tK ks f g))=.ok (ks.map λk=>D.str (f k)):=by
 show Res.ok (((tK ks f g).map (·.1)).map Sj)=_
 unfold tK
 rw[map_map,map_map];rfl
theorem El(l:List (Ab×D))(r:Ba):Gc 0 (some (.d (dK l))::r)=.ok l:=by
 show Res.ok ((l.map (·.1)).zip (l.map (·.2)))=_
 rw[BO]
theorem Iz(n:Nat)(a:Option S)(r:Ba):Gc (n+1) (a::r)=Gc n r:=by simp[Gc]
theorem Yn{f:Nat->Str}{g:Nat->D}{ks:List Nat}(hi:Np ks f){k:Nat}(h:k∈ks):De (tK ks f g) (.str (f k))=.ok (g k):=by
 show(match Zb (tK ks f g) (.inr (f k)) with|some d=>Res.ok d|none=>.stuck)=_
 rw[Us hi h]
def sL(ks:List Nat)(f:Nat->Str):D:=.lst (ks.map λk=>D.str (f k))
theorem Vt{gc:Ba->Res Bool}{fe:Ba->Res D}(pr:Nat->Bool)(u v:Nat->D)(F:Nat->D)(δ:Ba):∀ (ks:List Nat) (x y:Option S),(∀ k∈ks,gc (some (.d (u k))::some (.d (v k))::δ)=.ok (pr k)/\(pr k=true->fe (some (.d (u k))::some (.d (v k))::δ)=.ok (F k)))->
  Qe (Xe 2 (Lb (Nb 0) (Lb (Nb 1) We))) gc fe (ks.map λk=>D.tup [u k,v k]) (x::y::δ)=.ok ((ks.filter pr).map F)
 | [],_,_,_=>rfl
 |k::ks,x,y,h=>by
  obtain⟨h1,h2⟩:=h k mem_cons_self
  have ih:=Vt pr u v F δ ks (some (.d (u k))) (some (.d (v k))) (λq hq=>h q (mem_cons_of_mem _ hq))
  rw[map_cons,Wj (δ':=some (.d (u k))::some (.d (v k))::δ) _ _ _ _ rfl,h1]
  cases hp:pr k with
  |true=>
   rw[filter_cons_of_pos hp]
   simp only[Eg,Res.bind_ok,if_true,h2 hp,ih,map_cons]
  |false=>
   rw[filter_cons_of_neg (by rw[hp];simp)]
   simp only[Eg,Res.bind_ok,false_eq_true,if_false,ih]
theorem Of{gc:Ba->Res Bool}{fe:Ba->Res D}(pr:Nat->Bool)(u F:Nat->D)(δ:Ba):∀ (ks:List Nat) (x:Option S),(∀ k∈ks,gc (some (.d (u k))::δ)=.ok (pr k)/\(pr k=true->fe (some (.d (u k))::δ)=.ok (F k)))->
  Qe (Nb 0) gc fe (ks.map u) (x::δ)=.ok ((ks.filter pr).map F)
 | [],_,_=>rfl
 |k::ks,x,h=>by
  obtain⟨h1,h2⟩:=h k mem_cons_self
  have ih:=Of pr u F δ ks (some (.d (u k))) (λq hq=>h q (mem_cons_of_mem _ hq))
  rw[map_cons,Wj (δ':=some (.d (u k))::δ) _ _ _ _ rfl,h1]
  cases hp:pr k with
  |true=>
   rw[filter_cons_of_pos hp]
   simp only[Eg,Res.bind_ok,if_true,h2 hp,ih,map_cons]
  |false=>
   rw[filter_cons_of_neg (by rw[hp];simp)]
   simp only[Eg,Res.bind_ok,false_eq_true,if_false,ih]
theorem Ze{ks:List Nat}:ks.filter (λ_=>true)=ks:=by simp
theorem Xt(g:Nat->D)(n:Nat):Qi [.lst ((range n).map g)]=.ok ((range n).map λ(j:Nat)=>D.tup [.int (j:Int),g j]):=by
 show Res.ok (Pi 0 ((range n).map g))=_
 congr 1
 refine List.ext_getElem? λi=>?_
 cases h:(Pi 0 ((range n).map g))[i]? with
 |none=>
  rw[List.getElem?_eq_none_iff,Ml,length_map,length_range]at h
  rw[eq_comm,List.getElem?_eq_none_iff,length_map,length_range];exact h
 |some d=>
  obtain⟨x,hx,rfl⟩:=Ll h
  rw[getElem?_map]at hx ⊢
  obtain⟨j,hj,rfl⟩:=map_eq_some_iff.mp hx
  rw[hj]
  have hi:=(List.getElem?_eq_some_iff.mp hj).1
  rw[length_range]at hi
  rw[List.getElem?_range hi]at hj
  have:=Option.some.inj hj
  subst this
  simp
theorem Zt(f:Nat->Str):∀ ks:List Nat,Yt (ks.map λk=>D.str (f k)) (ks.map λk=>D.str (f k))=true
 | []=>by simp[Yt]
 |c::cs=>by rw[map_cons,Yt,Zt f cs];simp[Jg]
theorem CM(f:Nat->Str)(ks:List Nat)(n:Nat):∀ d∈(ks.map λk=>D.str (f k)),Kc n d=true:=λd hd=>by
 obtain⟨k,_,rfl⟩:=mem_map.mp hd
 cases n<;>rfl
theorem MK(f:Nat->Str)(ks:List Nat):Uj (sL ks f) (sL ks f)=.ok (.bl false):=by
 have h:Kc 40 (sL ks f)=true:=by
  show(ks.map λk=>D.str (f k)).all (Kc 39)=true
  rw[all_eq_true];exact CM f ks 39
 unfold Uj
 rw[h]
 show Res.ok (D.bl (!Jg (sL ks f) (sL ks f)))=_
 rw[show Jg (sL ks f) (sL ks f)=Yt (ks.map λk=>D.str (f k)) (ks.map λk=>D.str (f k)) from by unfold sL;rw[Jg],Zt];rfl
theorem OD{α:Type}{l:List α}{i:Nat}(d:α)(h:i<l.length):l.getD i d∈l:=by
 rw[List.getD_eq_getElem?_getD,getElem?_eq_getElem h]
 exact List.getElem_mem _
def Yh(l:List (Ab×D))(x:Str):List Str:=match Zb l (.inr x) with
 |some (.lst ds)=>(Ei ds).getD []
 |_=> []
def KH(l:List (Ab×D)):Prop:=∀ p∈l,∃ ws:List Str,p.2=.lst (ws.map D.str)
theorem HG{α:Type}{l:List (Ab×α)}{k:Ab}{y:α}(h:Zb l k=some y):(k,y)∈l:=by
 unfold Zb at h
 obtain⟨p,h1,h2⟩:=map_eq_some_iff.mp h
 have h3:=find?_some h1
 have h4:=List.mem_of_find?_eq_some h1
 rw[<-of_decide_eq_true h3,<-h2]
 exact h4
theorem QJ(l:List (Ab×D))(h:KH l)(x:Str):Ky l (.str x) (.lst [])=.ok (.lst ((Yh l x).map D.str)):=by
 unfold Ky Yh
 show Res.ok ((Zb l (.inr x)).getD (.lst []))=_
 cases hg:Zb l (.inr x) with
 |none=>rfl
 |some y=>
  obtain⟨ws,e⟩:=h _ (HG hg)
  have e':y=.lst (ws.map D.str):=e
  subst e'
  show Res.ok (D.lst (ws.map D.str))=.ok (.lst (((Ei (ws.map D.str)).getD []).map D.str))
  rw[Fi];rfl
def rK(R:List Str):List (Ab×D):=R.map λx=>(.inr x,.bl true)
theorem Ks(x:Str):∀ R:List Str,(Zb (rK R) (.inr x)).isSome=decide (x∈R)
 | []=>by simp[rK,Zb]
 |y::R=>by
  show(Zb ((Sum.inr y,D.bl true)::rK R) (.inr x)).isSome=_
  by_cases h:y=x
  .subst h
   rw[Oh rfl];simp
  .rw[Pg (show ¬ (Sum.inr y:Ab)=Sum.inr x from λz=>h (Sum.inr.inj z)),Ks x R]
   have:¬ x=y:=λz=>h z.symm
   simp[this]
theorem KS(x:Str)(R:List Str)(h:x∉R):Qg (rK R) (.inr x) (.bl true)=rK (R++ [x]):=by
 unfold Qg
 rw[Fl,Ks,decide_eq_false h]
 simp[rK]
theorem Ox(R:List Str):(R.map λx=>(Sum.inr x:Ab)).zip (R.map λ_=>D.bl true)=rK R:=by
 unfold rK
 rw[List.zip_map']
theorem JS(R:List Str):(rK R).map (·.1)=R.map λx=>(Sum.inr x:Ab):=by unfold rK;rw[map_map];rfl
theorem LS(R:List Str):(rK R).map (·.2)=R.map λ_=>D.bl true:=by unfold rK;rw[map_map];rfl
abbrev Bh(A B M:D)(R W:List Str)(y:Option S):Ba:= [some (.d A),some (.d B),some (.d M),some (.q (R.map λx=>(Sum.inr x:Ab)) (R.map λ_=>D.bl true)),some (.o (W.map D.str)),y]
theorem VM(A B M:D)(R W:List Str)(y:Option S):Kd (Bh A B M R W y)=.ok (decide (W≠ [])):=by
 have e:decide (0<((W.map D.str).length:Int))=decide (W≠ []):=by
  rw[length_map]
  cases W with
  |nil=>simp
  |cons x r=>
   rw[decide_eq_true (by simp:(x::r:List Str)≠ [])]
   exact decide_eq_true (by simp only[List.length_cons];omega)
 unfold Kd Bh
 simp only[tR,b2,b1,kD,Ta,Qa,Rb,Res.bind_ok,Wc,Ui,Db,e]
theorem SI(A B M:D)(R W:List Str)(x:Str)(y:Option S):Qq 5 4 (Bh A B M R (W++ [x]) y)=.nx (Bh A B M R W (some (.d (.str x)))):=by
 have e1:((W++ [x]).map D.str)[((W++ [x]).map D.str).length-1]? =some (.str x):=by
  rw[map_append,List.map_singleton,length_append,length_singleton,Nat.add_sub_cancel,List.getElem?_concat_length]
 have e2:((W++ [x]).map D.str).dropLast=W.map D.str:=by rw[map_append,List.map_singleton,List.dropLast_concat]
 show(match ((W++ [x]).map D.str)[((W++ [x]).map D.str).length-1]? with
  |some d=>Out.nx (((Bh A B M R (W++ [x]) y).set 4 (some (.o ((W++ [x]).map D.str).dropLast))).set 5 (some (.d d)))
  |none=>.stuck)=_
 rw[e1,e2];rfl
theorem UI(A B M:D)(R W:List Str)(x:Str)(hR:R.length<=900)(h:x∉R):Bl 3 (Ga 5) (kD (.bl true)) (Bh A B M R W (some (.d (.str x))))=.nx (Bh A B M (R++ [x]) W (some (.d (.str x)))):=by
 show(if((R.map λx=>(Sum.inr x:Ab)).zip (R.map λ_=>D.bl true)).length<=1000 then Out.nx ((Bh A B M R W (some (.d (.str x)))).set 3 (some (.q ((Qg ((R.map λx=>(Sum.inr x:Ab)).zip (R.map λ_=>D.bl true)) (.inr x) (.bl true)).map (·.1)) ((Qg ((R.map λx=>(Sum.inr x:Ab)).zip (R.map λ_=>D.bl true)) (.inr x) (.bl true)).map (·.2))))) else .stuck)=_
 rw[Ox,KS x R h,JS,LS,if_pos (by unfold rK;rw[length_map];omega)]
 rfl
theorem BV(A B:D)(l:List (Ab×D))(hl:KH l)(R W:List Str)(x:Str)(y:Option S)(hR:R.length<=900)(hW:W.length<=40000)(hm:(Yh l x).length<=40000):
  Ld (Bh A B (.dct (l.map (·.1)) (l.map (·.2))) R (W++ [x]) y)=.nx (if x∈R then Bh A B (.dct (l.map (·.1)) (l.map (·.2))) R W (some (.d (.str x))) else Bh A B (.dct (l.map (·.1)) (l.map (·.2))) (R++ [x]) (W++Yh l x) (some (.d (.str x)))):=by
 have p1:=SI A B (.dct (l.map (·.1)) (l.map (·.2))) R W x y
 have zz:(l.map (·.1)).zip (l.map (·.2))=l:=by
  rw[List.zip_map']
  exact List.map_id _
 have g:=QJ l hl x
 have n1:Lq (.str x) ((R.map λx=>(Sum.inr x:Ab)).zip (R.map λ_=>D.bl true))=.ok (.bl (!decide (x∈R))):=by
  rw[Ox]
  show Res.ok (D.bl (!(Zb (rK R) (.inr x)).isSome))=_
  rw[Ks]
 by_cases h:x∈R
 .rw[decide_eq_true h]at n1
  rw[if_pos h]
  unfold Ld
  show Ro (Qq 5 4 _) _=_
  rw[p1]
  simp only[Va,Zg,tR,NC,Ta,Qa,Res.bind_ok,Bh,show ∀ (a b c:Option S) (ks:List Ab) (ds:List D) (r:Ba),Gc 3 (a::b::c::some (.q ks ds)::r)=.ok (ks.zip ds) from λ_ _ _ _ _ _=>rfl,n1,Db,Tb,Bool.not_true,false_eq_true,if_false,reduceIte]
 .rw[decide_eq_false h]at n1
  rw[if_neg h]
  have q1:=UI A B (.dct (l.map (·.1)) (l.map (·.2))) R W x hR h
  have q2:Ov 4 (Tz (Gc 2) (Aa (Ga 5) (Aa (Uf (b1 Xd Ia)) Ia))) (Bh A B (.dct (l.map (·.1)) (l.map (·.2))) (R++ [x]) W (some (.d (.str x))))=.nx (Bh A B (.dct (l.map (·.1)) (l.map (·.2))) (R++ [x]) (W++Yh l x) (some (.d (.str x)))):=by
   have g2:Tz (Gc 2) (Aa (Ga 5) (Aa (Uf (b1 Xd Ia)) Ia)) (Bh A B (.dct (l.map (·.1)) (l.map (·.2))) (R++ [x]) W (some (.d (.str x))))=.ok (.lst ((Yh l x).map D.str)):=by
    rw[<-g,<-zz]
    simp only[Tz,Aa,Ia,Uf,b1,Xd,Ja,Bh,Cb,La,Res.bind_ok,length_nil,zero_le,if_true,reduceIte,zz,show ∀ (a b:Option S) (ks:List Ab) (ds:List D) (r:Ba),Gc 2 (a::b::some (.d (.dct ks ds))::r)=.ok (ks.zip ds) from λ_ _ _ _ _=>rfl]
   unfold Ov ID
   rw[g2]
   show(@ite Out ((W.map D.str).length+((Yh l x).map D.str).length<=100000) (propDecidable _) _ _)=_
   rw[if_pos (by rw[length_map,length_map];omega),<-map_append]
   rfl
  unfold Ld
  show Ro (Qq 5 4 _) _=_
  rw[p1]
  simp only[Va,Zg,tR,NC,Ta,Qa,Res.bind_ok,show ∀ (a b c:Option S) (ks:List Ab) (ds:List D) (r:Ba),Gc 3 (a::b::c::some (.q ks ds)::r)=.ok (ks.zip ds) from λ_ _ _ _ _ _=>rfl,n1,Db,Tb,Bool.not_false,if_true,reduceIte]
  show Ro (Bl 3 _ _ _) _=_
  rw[q1]
  exact q2
theorem OM{c:Ba->Res Bool}{b:Ba->Out}{δ:Ba}(n:Nat)(h:c δ= .ok false):Wd c b (n+1) δ= .nx δ:=by rw[Wd,h]
theorem NM{c:Ba->Res Bool}{b:Ba->Out}{δ δ2:Ba}(n:Nat)(h:c δ= .ok true)(h2:b δ= .nx δ2):Wd c b (n+1) δ=Wd c b n δ2:=by rw[Wd,h];simp only[h2]
theorem Hy{p q:Str->Bool}{x:Str}:∀ {U:List Str},x∈U->p x=true->q x=false->(∀ y,q y=true->p y=true)->(U.filter q).length<(U.filter p).length
 | [],h,_,_,_=>by simp at h
 |u::U,h,hp,hq,hs=>by
  have le:∀ V:List Str,(V.filter q).length<=(V.filter p).length:=λV=>by
   induction V with
   |nil=>simp
   |cons v V ih=>
    cases h1:q v with
    |true=>rw[filter_cons_of_pos h1,filter_cons_of_pos (hs v h1),List.length_cons,List.length_cons];omega
    |false=>
     rw[filter_cons_of_neg (by rw[h1];simp)]
     cases h2:p v with
     |true=>rw[filter_cons_of_pos h2,List.length_cons];omega
     |false=>rw[filter_cons_of_neg (by rw[h2];simp)];exact ih
  rcases mem_cons.mp h with rfl|h
  .rw[filter_cons_of_pos hp,filter_cons_of_neg (by rw[hq];simp),List.length_cons]
   have:=le U
   omega
  .have ih:=Hy h hp hq hs
   cases h1:q u with
   |true=>rw[filter_cons_of_pos h1,filter_cons_of_pos (hs u h1),List.length_cons,List.length_cons];omega
   |false=>
    rw[filter_cons_of_neg (by rw[h1];simp)]
    cases h2:p u with
    |true=>rw[filter_cons_of_pos h2,List.length_cons];omega
    |false=>rw[filter_cons_of_neg (by rw[h2];simp)];exact ih
def HH(U R:List Str):Nat:=(U.filter λy=> !decide (y∈R)).length
theorem ZC(A B:D)(l:List (Ab×D))(hl:KH l)(U:List Str)(M:Nat)(hM:∀ x∈U,(Yh l x).length<=M/\∀ z∈Yh l x,z∈U)(hMb:M<=100)(hU:U.length<=300):
  ∀ (n:Nat) (W R:List Str) (y:Option S),W.length+M*HH U R<n->(∀ x∈W,x∈U)->R.length+HH U R<=600->W.length<=40000-M*HH U R->
  ∃ (R':List Str) (y':Option S),Wd Kd Ld n (Bh A B (.dct (l.map (·.1)) (l.map (·.2))) R W y)=.nx (Bh A B (.dct (l.map (·.1)) (l.map (·.2))) R' [] y')/\
   (∀ x,x∈R\/x∈W->x∈R')/\((∀ x∈R,∀ z∈Yh l x,z∈R\/z∈W)->∀ x∈R',∀ z∈Yh l x,z∈R')/\∀ P:Str->Prop,(∀ x,P x->∀ z∈Yh l x,P z)->(∀ x,x∈R\/x∈W->P x)->∀ x∈R',P x:=by
 intro n
 induction n with
 |zero=>intro W R y h;omega
 |succ n ih=>
  intro W R y h hW hR hWl
  by_cases hw:W= []
  .subst hw
   refine⟨R,y,OM n (by rw[VM];rfl),λx hx=>hx.elim id λz=>by simp at z,λhc x hx z hz=>(hc x hx z hz).elim id λz=>by simp at z,λP _ hP x hx=>hP x (.inl hx)⟩
  .obtain⟨V,x,rfl⟩:∃ V x,W=V++ [x]:=⟨W.dropLast,W.getLast hw,(List.dropLast_concat_getLast hw).symm⟩
   have hx:x∈U:=hW x (by simp)
   have hV:∀ z∈V,z∈U:=λz hz=>hW z (by simp[hz])
   rw[length_append,length_singleton]at h hWl
   have cd:Kd (Bh A B (.dct (l.map (·.1)) (l.map (·.2))) R (V++ [x]) y)=.ok true:=by rw[VM,decide_eq_true hw]
   have st:=BV A B l hl R V x y (by omega) (by omega) (by have:=(hM x hx).1;omega)
   rw[NM n cd st]
   by_cases hxR:x∈R
   .rw[if_pos hxR]
    obtain⟨R',y',e,a1,a2,a3⟩:=ih V R (some (.d (.str x))) (by omega) hV hR (by omega)
    refine⟨R',y',e,λz hz=>?_,λhc=>a2 λu hu z hz=>?_,λP hP h0=>a3 P hP λz hz=>?_⟩
    .rcases hz with hz|hz
     .exact a1 z (.inl hz)
     .rcases mem_append.mp hz with hz|hz
      .exact a1 z (.inr hz)
      .rw[mem_singleton.mp hz];exact a1 x (.inl hxR)
    .rcases hc u hu z hz with hz|hz
     .exact .inl hz
     .rcases mem_append.mp hz with hz|hz
      .exact .inr hz
      .rw[mem_singleton.mp hz];exact .inl hxR
    .rcases hz with hz|hz
     .exact h0 z (.inl hz)
     .exact h0 z (.inr (by simp[hz]))
   .rw[if_neg hxR]
    have lt:HH U (R++ [x])<HH U R:=Hy hx (by simp[hxR]) (by simp) λy hy=>by
     simp only[mem_append,mem_singleton,Bool.not_eq_true',decide_eq_false_iff_not,not_or]at hy ⊢
     exact hy.1
    obtain⟨m1,m2⟩:=hM x hx
    have mul:M*HH U (R++ [x])+M<=M*HH U R:=by
     have:HH U (R++ [x])+1<=HH U R:=lt
     have:=Nat.mul_le_mul_left M this
     rw[Nat.mul_add,Nat.mul_one]at this
     exact this
    obtain⟨R',y',e,a1,a2,a3⟩:=ih (V++Yh l x) (R++ [x]) (some (.d (.str x))) (by rw[length_append];omega) (λz hz=>(mem_append.mp hz).elim (hV z) (m2 z)) (by rw[length_append,length_singleton];omega) (by rw[length_append];omega)
    refine⟨R',y',e,λz hz=>?_,λhc=>a2 λu hu z hz=>?_,λP hP h0=>a3 P hP λz hz=>?_⟩
    .rcases hz with hz|hz
     .exact a1 z (.inl (by simp[hz]))
     .rcases mem_append.mp hz with hz|hz
      .exact a1 z (.inr (by simp[hz]))
      .exact a1 z (.inl (by rw[mem_singleton.mp hz];simp))
    .rcases mem_append.mp hu with hu|hu
     .rcases hc u hu z hz with hz|hz
      .exact .inl (by simp[hz])
      .rcases mem_append.mp hz with hz|hz
       .exact .inr (by simp[hz])
       .exact .inl (by simp[mem_singleton.mp hz])
     .rw[mem_singleton.mp hu]at hz
      exact .inr (by simp[hz])
    .rcases hz with hz|hz
     .rcases mem_append.mp hz with hz|hz
      .exact h0 z (.inl hz)
      .rw[mem_singleton.mp hz];exact h0 x (.inr (by simp))
     .rcases mem_append.mp hz with hz|hz
      .exact h0 z (.inr (by simp[hz]))
      .exact hP x (h0 x (.inr (by simp))) z hz
noncomputable def Pn(ns:List Int)(k:Nat):Int:=if h:k<=1000 then(Gr ns k (by omega) (by omega)).choose else 0
theorem Qn(ns:List Int)(k:Nat)(h:k<=1000):Ha 2 Oa [.lst (ns.map D.int),.int (k:Int)]=.ok (.int (Pn ns k)):=by
 unfold Pn
 rw[dif_pos h]
 exact(Gr ns k (by omega) (by omega)).choose_spec
def iN(j:Nat):D:=.int (j:Int)
def iL(s:List Nat):D:=.lst (s.map iN)
structure Gd(m:Nat)(s:List Nat):Prop where
 ne:s≠ []
 up:s.Pairwise (· < ·)
 lt:∀ j∈s,j<m
theorem Mv(a n:Nat):Dk (a:Int) n=(range' a n).map iN:=by
 unfold Dk
 rw[List.range'_eq_map_range,map_map]
 refine List.map_congr_left λi _=>?_
 show D.int ((a:Int)+i)=D.int ((a+i:Nat):Int)
 congr 1
theorem No(n:Nat):Dk 0 n=(range n).map iN:=by
 have:=Mv 0 n
 rw[List.range_eq_range'];exact this
theorem EW:QB (.int 10) (.int 60)=.ok (.int (10^60)):=if_pos ⟨by decide,by decide,by decide⟩
theorem Xs{xs:List Str}(h:xs.length<32):DC (.lst (xs.map D.str))=some xs:=by
 unfold DC
 dsimp only
 rw[Fi]
 exact if_pos h
def UM(a b:List Nat):List Nat:=a.filter λx=>decide (x∈b)
def Et(a b:List Nat):Bool:=a.all λx=>decide (x∈b)
def HZ(a b:List Nat):Bool:= !(UM a b).isEmpty&&(Et a b==Et b a)
theorem SG:∀ (a b:List Nat),a.Pairwise (· < ·)->b.Pairwise (· < ·)->(∀ x,x∈a↔x∈b)->a=b
 | [],[],_,_,_=>rfl
 | [],y::b,_,_,h=>absurd ((h y).mpr mem_cons_self) not_mem_nil
 |x::a,[],_,_,h=>absurd ((h x).mp mem_cons_self) not_mem_nil
 |x::a,y::b,ha,hb,h=>by
  rw[pairwise_cons]at ha hb
  have e:x=y:=by
   rcases mem_cons.mp ((h x).mp mem_cons_self) with z|z
   .exact z
   .rcases mem_cons.mp ((h y).mpr mem_cons_self) with w|w
    .exact w.symm
    .have h1:=hb.1 x z
     have h2:=ha.1 y w
     omega
  subst e
  rw[SG a b ha.2 hb.2 λz=>?_]
  constructor
  .intro hz
   rcases mem_cons.mp ((h z).mp (mem_cons_of_mem _ hz)) with w|w
   .have:=ha.1 z hz;omega
   .exact w
  .intro hz
   rcases mem_cons.mp ((h z).mpr (mem_cons_of_mem _ hz)) with w|w
   .have:=hb.1 z hz;omega
   .exact w
theorem DQ(x:Nat)(b:List Nat):CQ (iN x) (iL b)=.ok (.bl (decide (x∈b))):=by
 have f:(b.map iN).all Zf=true:=by
  rw[all_eq_true];intro d hd;obtain⟨i,_,rfl⟩:=mem_map.mp hd;rfl
 show(if(Zf (iN x)&&(b.map iN).all Zf)=true then _ else _)=_
 rw[f]
 show Res.ok (D.bl (GU (iN x) (b.map iN)))=_
 congr 2
 unfold GU
 rw[Bool.eq_iff_iff,List.any_eq_true,decide_eq_true_eq]
 constructor
 .rintro⟨d,hd,e⟩
  obtain⟨i,hi,rfl⟩:=mem_map.mp hd
  unfold iN at e
  rw[Jg,beq_iff_eq]at e
  have:i=x:=by omega
  exact this▸hi
 .intro hx
  exact⟨iN x,mem_map_of_mem hx,by unfold iN;rw[Jg];simp⟩
theorem Ty{α β:Type}(f:α->β)(d:α)(Z:List α):Z.map f=(range Z.length).map λk=>f (Z.getD k d):=by
 refine List.ext_getElem (by simp) λi h1 h2=>?_
 rw[length_map]at h1
 simp[List.getD_eq_getElem?_getD,getElem?_eq_getElem h1]
theorem NS(a b:Int)(h:0<=a/\a<=1000)(h2:0<=b/\b<=1000):Oo [.int a,.int b]=.ok (Dk a (b-a).toNat):=by
 show @ite _ _ (propDecidable _) _ _=_
 rw[if_pos (by omega)]
def VU(n k:Nat):List Nat:=range' (k+1) (n-(k+1))
theorem VH{n k j:Nat}(h:j∈VU n k):k<j/\j<n:=by
 have:=List.mem_range'_1.mp h
 omega
theorem UG:∀ (s:List Nat) (lo m:Nat),s.Pairwise (· < ·)->(∀ j∈s,lo<=j/\j<m)->s.length<=m-lo
 | [],_,_,_,_=>zero_le _
 |x::s,lo,m,h,hb=>by
  rw[pairwise_cons]at h
  have:=UG s (x+1) m h.2 λj hj=>⟨h.1 j hj,(hb j (mem_cons_of_mem _ hj)).2⟩
  have:=hb x mem_cons_self
  rw[List.length_cons];omega
theorem Pl{t:D->Ba->Res Ba}{body:Ba->Out}(I:Nat->Ba->Prop)(u:Nat->D)(P:Nat->Bool)(out:Nat->Out)(hs:∀ k,(∃ d,out k=.rt d)\/∃ c fs,out k=.ex c fs):
  ∀ (L:List Nat) (i0:Nat) (δ:Ba),(∀ i k δ,L[i]? =some k->I (i0+i) δ->∃ δ',t (u k) δ= .ok δ'/\((P k=false/\∃ δ2,body δ'=.nx δ2/\I (i0+i+1) δ2)\/(P k=true/\body δ'=out k)))->I i0 δ->
  (∃ k,L.find? P=some k/\Jh t body (L.map u) δ=out k)\/(L.find? P=none/\∃ δ2,Jh t body (L.map u) δ= .nx δ2/\I (i0+L.length) δ2)
 | [],i0,δ,_,h=>.inr ⟨rfl,δ,rfl,h⟩
 |k::L,i0,δ,hb,h=>by
  obtain⟨δ',e1,hh⟩:=hb 0 k δ rfl h
  rw[map_cons,Aq (u k) (L.map u) δ δ' e1]
  rcases hh with⟨p0,δ2,e2,h2⟩|⟨p0,e2⟩
  .rw[e2,List.find?_cons_of_neg (by rw[p0];simp)]
   have:=Pl I u P out hs L (i0+1) δ2 (λi k' δ hk hI=>by
    have:=hb (i+1) k' δ (by simpa using hk) (by rw[show i0+(i+1)=i0+1+i by omega];exact hI)
    rw[show i0+(i+1)+1=i0+1+i+1 by omega]at this
    exact this) h2
   rw[List.length_cons,show i0+(L.length+1)=i0+1+L.length by omega]
   exact this
  .rw[e2,List.find?_cons_of_pos p0]
   refine .inl ⟨k,rfl,?_⟩
   rcases hs k with⟨d,e⟩|⟨c,fs,e⟩<;> · rw[e]
structure Tw where
 N:Nat->Str
 m:Nat
 wi:List Nat
 ks:List Nat
 mem:Nat->List Nat
 own:Nat->List Nat
 ru:D
def Tw.ids(H:Tw):List Nat:=H.wi++H.ks
def Tw.ent(H:Tw)(i:Nat):D:=.tup [.str (H.N i),sL (H.mem i) H.N]
def Tw.wgD(H:Tw):D:=.lst (H.wi.map H.ent)
def Tw.grD(H:Tw):D:=.lst (H.ks.map H.ent)
def Tw.dr(H:Tw):D:=sL (range H.m) H.N
def Tw.hsD(H:Tw):D:=EU H.ru H.dr H.wgD H.grD
def Tw.meT(H:Tw):List (Ab×D):=tK H.ids H.N λi=>sL (H.mem i) H.N
def Tw.spT(H:Tw):List (Ab×D):=tK H.ks H.N λk=>sL (H.own k) H.N
structure Tw.Ok(H:Tw):Prop where
 inj:∀ a b,a<100->b<100->H.N a=H.N b->a=b
 ids:∀ i∈H.ids,H.m<=i/\i<100
 nd:H.ids.Nodup
 mlt:∀ i∈H.ids,(H.mem i).length<=30/\∀ a∈H.mem i,a<100
 hm:H.m<=31
 len:H.ids.length<=100
 snd:∀ k∈H.ks,∃ P:Nat->Prop,P k/\(∀ i∈H.ids,P i->∀ a∈H.mem i,P a)/\∀ j,j<H.m->P j->j∈H.own k
 cmp:∀ k∈H.ks,∀ j∈H.own k,∀ R:Nat->Prop,R k->(∀ i∈H.ids,R i->∀ a∈H.mem i,R a)->R j
 up:∀ k∈H.ks,(H.own k).Pairwise (· < ·)/\∀ j∈H.own k,j<H.m
section
variable (H:Tw)(o:H.Ok)
include o
theorem Vs:Np H.ids H.N:=λa ha b hb e=>o.inj a b (o.ids a ha).2 (o.ids b hb).2 e
theorem UT{k:Nat}(h:k∈H.ks):k∈H.ids:=mem_append_right _ h
theorem Gi:Np H.ks H.N:=λa ha b hb e=>Vs H o a (UT H o ha) b (UT H o hb) e
theorem MG:H.ks.Nodup:=(nodup_append.mp o.nd).2.1
theorem Sq:H.ks.length<=100:=by have:=o.len;unfold Tw.ids at this;rw[length_append]at this;omega
theorem Yv{k:Nat}(h:k∈H.ks):(H.own k).length<=H.m:=UG _ 0 _ (o.up k h).1 λj hj=>⟨zero_le _,(o.up k h).2 j hj⟩
theorem QT:Jw H.wgD H.grD=.ok (H.ids.map H.ent):=by
 unfold Tw.wgD Tw.grD Tw.ids
 rw[RC _ _ (by have:=o.len;unfold Tw.ids at this;rw[length_append]at this;rw[length_map,length_map];omega),map_append]
theorem Ws{i:Nat}(hi:i∈H.ids):Yh H.meT (H.N i)=(H.mem i).map H.N:=by
 unfold Yh Tw.meT
 rw[Us (g:=λi=>sL (H.mem i) H.N) (Vs H o) hi]
 unfold sL
 dsimp only
 have:Ei ((H.mem i).map λk=>D.str (H.N k))=some ((H.mem i).map H.N):=by
  rw[<-Fi,map_map];rfl
 rw[this]
 rfl
theorem Lz{i:Nat}(hi:i<100)(h:i∉H.ids):Yh H.meT (H.N i)= []:=by
 unfold Yh Tw.meT
 rw[Kz λk hk e=>h (o.inj k i (o.ids k hk).2 hi e▸hk)]
theorem VT:KH H.meT:=λp hp=>by
 unfold Tw.meT tK at hp
 obtain⟨k,_,rfl⟩:=mem_map.mp hp
 exact⟨(H.mem k).map H.N,by show sL _ _=_;unfold sL;rw[map_map];rfl⟩
theorem KG{k:Nat}(hk:k∈H.ks):Ha 2 Af [H.hsD,.str (H.N k)]=.ok (sL (H.own k) H.N):=by
 have f2:Ti "House" "doors" H.hsD=.ok H.dr:=LZ H.ru H.dr H.wgD H.grD
 have f3:Ti "House" "wings" H.hsD=.ok H.wgD:=MZ H.ru H.dr H.wgD H.grD
 have f4:Ti "House" "grants" H.hsD=.ok H.grD:=LV H.ru H.dr H.wgD H.grD
 have c1:=QT H o
 have dc:Oi (.lst (H.ids.map H.ent))=.ok (dK H.meT):=Ir (g:=λi=>sL (H.mem i) H.N) (Vs H o) o.nd
 have hki:=UT H o hk
 have hk100:=(o.ids k hki).2
 have hm:=o.hm
 obtain⟨up1,up2⟩:=o.up k hk
 have inU:∀ i,i<100->H.N i∈(range 100).map H.N:=λi hi=>mem_map_of_mem (mem_range.mpr hi)
 have memU:∀ x∈(range 100).map H.N,(Yh H.meT x).length<=30/\∀ z∈Yh H.meT x,z∈(range 100).map H.N:=λx hx=>by
  obtain⟨i,hi,rfl⟩:=mem_map.mp hx
  by_cases h:i∈H.ids
  .rw[Ws H o h,length_map]
   refine⟨(o.mlt i h).1,λz hz=>?_⟩
   obtain⟨a,ha,rfl⟩:=mem_map.mp hz
   exact inU a ((o.mlt i h).2 a ha)
  .rw[Lz H o (mem_range.mp hi) h]
   exact⟨by simp,λz hz=>by simp at hz⟩
 have lU:((range 100).map H.N).length=100:=by rw[length_map,length_range]
 have lf:HH ((range 100).map H.N) []<=100:=by rw[<-lU];exact length_filter_le _ _
 obtain⟨R,y,wh,a1,a2,a3⟩:=ZC H.hsD (.str (H.N k)) H.meT (VT H o) ((range 100).map H.N) 30 memU (by decide) (by omega) 100000 [H.N k] [] none (by rw[length_singleton];omega) (λx hx=>by
   rw[mem_singleton.mp hx];exact inU k hk100) (by simp only[length_nil];omega) (by rw[length_singleton];omega)
 have cl:=a2 (λx hx=>by simp at hx)
 have inR':∀ j,j<H.m->(H.N j∈R↔j∈H.own k):=λj hj=>by
  constructor
  .intro hx
   obtain⟨P,p1,p2,p3⟩:=o.snd k hk
   obtain⟨i,e,hi,h⟩:=a3 (λx=>∃ i,x=H.N i/\i<100/\P i) (λx hx z hz=>by
    obtain⟨i,rfl,hi,h⟩:=hx
    by_cases hd:i∈H.ids
    .rw[Ws H o hd]at hz
     obtain⟨a,ha,rfl⟩:=mem_map.mp hz
     exact⟨a,rfl,(o.mlt i hd).2 a ha,p2 i hd h a ha⟩
    .rw[Lz H o hi hd]at hz;simp at hz) (λx hx=>by
    rcases hx with hx|hx
    .simp at hx
    .exact⟨k,mem_singleton.mp hx,hk100,p1⟩) _ hx
   have:=o.inj j i (by omega) hi e
   subst this
   exact p3 j hj h
  .intro hx
   exact o.cmp k hk j hx (λi=>H.N i∈R) (a1 _ (.inr (mem_singleton.mpr rfl))) λi hi h a ha=>cl _ h _ (by rw[Ws H o hi];exact mem_map_of_mem ha)
 have fo:(range H.m).filter (λj=>decide (j∈H.own k))=H.own k:=SG _ _ (Pairwise.filter _ List.pairwise_lt_range) up1 λj=>by
  rw[mem_filter,mem_range,decide_eq_true_eq]
  exact⟨λq=>q.2,λq=>⟨up2 j q,q⟩⟩
 have cm:∀ δ,Yf 1 (Nb 0) Bg Wh (some (.d H.hsD)::some (.d (.str (H.N k)))::some (.d (dK H.meT))::some (.d (.dct (R.map λx=>(Sum.inr x:Ab)) (R.map λ_=>D.bl true)))::δ) ((range H.m).map λj=>D.str (H.N j))=.ok ((H.own k).map λj=>D.str (H.N j)):=λδ=>by
  refine Re ?_ (by rw[length_map,length_range];omega)
  have:=Of (gc:=Bg) (fe:=Wh) (λj=>decide (j∈H.own k)) (λj=>D.str (H.N j)) (λj=>D.str (H.N j)) (some (.d H.hsD)::some (.d (.str (H.N k)))::some (.d (dK H.meT))::some (.d (.dct (R.map λx=>(Sum.inr x:Ab)) (R.map λ_=>D.bl true)))::δ) (range H.m) none (λj hj=>by
   have hj':=mem_range.mp hj
   refine⟨?_,λ_=>rfl⟩
   have q1:Gc 4 (some (.d (.str (H.N j)))::some (.d H.hsD)::some (.d (.str (H.N k)))::some (.d (dK H.meT))::some (.d (.dct (R.map λx=>(Sum.inr x:Ab)) (R.map λ_=>D.bl true)))::δ)=.ok (rK R):=by
    rw[<-Ox];rfl
   have q2:NA (.str (H.N j)) (rK R)=.ok (.bl (decide (j∈H.own k))):=by
    show Res.ok (D.bl (Zb (rK R) (.inr (H.N j))).isSome)=_
    rw[Ks]
    congr 2
    rw[Bool.eq_iff_iff,decide_eq_true_eq,decide_eq_true_eq,inR' j hj']
   unfold Bg
   simp only[tR,NC,Qa,Res.bind_ok,q1,q2,Db])
  rw[fo]at this
  exact this
 refine Hb _ _ _ _ ?_ rfl
 have sq:Ve H.dr=.ok ((range H.m).map λj=>D.str (H.N j)):=rfl
 have fz:NJ 3 (Bh H.hsD (.str (H.N k)) (.dct (H.meT.map (·.1)) (H.meT.map (·.2))) R [] y)= [some (.d H.hsD),some (.d (.str (H.N k))),some (.d (dK H.meT)),some (.d (.dct (R.map λx=>(Sum.inr x:Ab)) (R.map λ_=>D.bl true))),some (.o []),y]:=rfl
 unfold Af Hn
 simp only[Kb,Sa,map_cons,map_nil,List.length_cons,length_nil,cons_append,nil_append,reduceAdd,reduceSub,replicate,b1,UH,Uf,Xd,Aa,Ia,Ja,Mb,Pb,Yd,Qo,Ek,La,Cb,Res.bind_ok,f2,f3,f4,c1,dc,Xa,Va,set_cons_zero,set_cons_succ,reduceLeDiff,if_true,reduceIte]
 change JD (Ro (Wd Kd Ld 100000 (Bh H.hsD (.str (H.N k)) (.dct (H.meT.map (·.1)) (H.meT.map (·.2))) [] [H.N k] none)) _)=_
 rw[wh,Va]
 unfold XL
 rw[fz]
 simp only[Ub,Uf,Rc,b1,La,Res.bind_ok,f2,sq,cm,Xa,Qb]
 rfl
theorem NG:Ha 1 Cf [H.grD]=.ok (sL H.ks H.N):=by
 have hl:=Sq H o
 have cm:Yf 2 (Xe 2 (Lb (Nb 0) (Lb (Nb 1) We))) (λ_=>.ok true) Xh [some (.d H.grD)] (H.ks.map H.ent)=.ok (H.ks.map λk=>D.str (H.N k)):=by
  refine Re ?_ (by rw[length_map];omega)
  have:=Vt (gc:=λ_=>.ok true) (fe:=Xh) (λ_=>true) (λk=>D.str (H.N k)) (λk=>sL (H.mem k) H.N) (λk=>D.str (H.N k)) [some (.d H.grD)] H.ks none none (λk _=>⟨rfl,λ_=>rfl⟩)
  rw[Ze]at this
  exact this
 have sq:Ve H.grD=.ok (H.ks.map H.ent):=rfl
 refine Hb _ _ _ _ ?_ rfl
 unfold Cf Ln
 simp only[Kb,Sa,map_cons,map_nil,List.length_cons,length_nil,cons_append,nil_append,reduceAdd,reduceSub,replicate,b1,Uf,Rc,Ub,La,Res.bind_ok,sq,cm,Xa,Qb]
 rfl
theorem OG:Ha 1 Df [H.hsD]=.ok (dK H.spT):=by
 have f4:Ti "House" "grants" H.hsD=.ok H.grD:=LV H.ru H.dr H.wgD H.grD
 have nms:=NG H o
 have hl:=Sq H o
 have cm:Yf 1 (Nb 0) (λ_=>.ok true) Cg [some (.d H.hsD)] (H.ks.map λk=>D.str (H.N k))=.ok (H.ks.map λk=>D.tup [.str (H.N k),sL (H.own k) H.N]):=by
  refine Re ?_ (by rw[length_map];omega)
  have:=Of (gc:=λ_=>.ok true) (fe:=Cg) (λ_=>true) (λk=>D.str (H.N k)) (λk=>D.tup [.str (H.N k),sL (H.own k) H.N]) [some (.d H.hsD)] H.ks none (λk hk=>⟨rfl,λ_=>by
   have e:=KG H o hk
   unfold Cg
   simp only[b1,Rg,Aa,Ia,Ja,La,Cb,Res.bind_ok,e,List.length_cons,length_nil,reduceAdd,reduceLeDiff,if_true,reduceIte]⟩)
  rw[Ze]at this
  exact this
 have dc:=Ir (g:=λk=>sL (H.own k) H.N) (Gi H o) (MG H o)
 have sq:Ve (sL H.ks H.N)=.ok (H.ks.map λk=>D.str (H.N k)):=rfl
 refine Hb _ _ _ _ ?_ rfl
 unfold Df Mn
 simp only[Kb,Sa,map_cons,map_nil,List.length_cons,length_nil,cons_append,nil_append,reduceAdd,reduceSub,replicate,b1,Uf,Rc,Aa,Ia,Ja,Ub,La,Res.bind_ok,f4,nms,sq,cm,dc,Xa,Qb]
 rfl
theorem OX{a b:List Nat}(ha:∀ j∈a,j<H.m)(hb:∀ j∈b,j<H.m)(la:a.length<=31)(lb:b.length<=31):Ha 2 Fe [sL a H.N,sL b H.N]=.ok (.bl (UM a b).isEmpty):=by
 have ta:DC (sL a H.N)=some (a.map H.N):=by
  have:=Xs (xs:=a.map H.N) (by rw[length_map];omega)
  rw[map_map]at this;exact this
 have tb:DC (sL b H.N)=some (b.map H.N):=by
  have:=Xs (xs:=b.map H.N) (by rw[length_map];omega)
  rw[map_map]at this;exact this
 have hm:=o.hm
 have e:(Tg .BitAnd (a.map H.N) (b.map H.N)).isEmpty=(UM a b).isEmpty:=by
  rw[Bool.eq_iff_iff,isEmpty_iff,isEmpty_iff]
  unfold Tg UM
  rw[filter_eq_nil_iff,filter_eq_nil_iff]
  constructor
  .intro h x hx z
   exact h (H.N x) (mem_map_of_mem hx) (decide_eq_true (mem_map_of_mem (of_decide_eq_true z)))
  .intro h x hx z
   obtain⟨i,hi,rfl⟩:=mem_map.mp hx
   obtain⟨j,hj,e⟩:=mem_map.mp (of_decide_eq_true z)
   have:=o.inj j i (by have:=hb j hj;omega) (by have:=ha i hi;omega) e
   exact h i hi (decide_eq_true (this▸hj))
 refine Hb _ _ _ _ ?_ rfl
 unfold Fe Zl
 simp only[Kb,Sa,map_cons,map_nil,List.length_cons,length_nil,cons_append,nil_append,reduceAdd,reduceSub,replicate,Ub,Uz,Qa,Ta,Res.bind_ok,ta,tb,e,Xa,Qb]
theorem LG{a b:List Nat}(ha:∀ j∈a,j<H.m)(hb:∀ j∈b,j<H.m)(la:a.length<=31)(lb:b.length<=31):Ha 2 Yb [sL a H.N,sL b H.N]=.ok (.bl (Et a b)):=by
 have ta:DC (sL a H.N)=some (a.map H.N):=by
  have:=Xs (xs:=a.map H.N) (by rw[length_map];omega)
  rw[map_map]at this;exact this
 have tb:DC (sL b H.N)=some (b.map H.N):=by
  have:=Xs (xs:=b.map H.N) (by rw[length_map];omega)
  rw[map_map]at this;exact this
 have hm:=o.hm
 have e:(Tg .Sub (a.map H.N) (b.map H.N)).isEmpty=Et a b:=by
  rw[Bool.eq_iff_iff,isEmpty_iff]
  unfold Tg Et
  rw[filter_eq_nil_iff,all_eq_true]
  constructor
  .intro h x hx
   have:=h (H.N x) (mem_map_of_mem hx)
   rw[decide_eq_true_eq,not_not]at this
   obtain⟨j,hj,e⟩:=mem_map.mp this
   have:=o.inj j x (by have:=hb j hj;omega) (by have:=ha x hx;omega) e
   exact decide_eq_true (this▸hj)
  .intro h x hx
   obtain⟨i,hi,rfl⟩:=mem_map.mp hx
   rw[decide_eq_true_eq,not_not]
   exact mem_map_of_mem (of_decide_eq_true (h i hi))
 refine Hb _ _ _ _ ?_ rfl
 unfold Yb Nk
 simp only[Kb,Sa,map_cons,map_nil,List.length_cons,length_nil,cons_append,nil_append,reduceAdd,reduceSub,replicate,Ub,Uz,Qa,Ta,Res.bind_ok,ta,tb,e,Xa,Qb]
theorem PX{a b:List Nat}(ha:∀ j∈a,j<H.m)(hb:∀ j∈b,j<H.m)(la:a.length<=31)(lb:b.length<=31):Ha 2 Md [sL a H.N,sL b H.N]=.ok (.bl (!(Et a b==Et b a))):=by
 have e1:=LG H o ha hb la lb
 have e2:=LG H o hb ha lb la
 have e3:Uj (.bl (Et a b)) (.bl (Et b a))=.ok (.bl (!(Et a b==Et b a))):=by simp[Uj,Kc,Jg]
 refine Hb _ _ _ _ ?_ rfl
 unfold Md Lk
 simp only[Kb,Sa,map_cons,map_nil,List.length_cons,length_nil,cons_append,nil_append,reduceAdd,reduceSub,replicate,Ub,b1,b2,Aa,Ia,Ja,La,Cb,Res.bind_ok,e1,e2,e3,Xa,Qb]
end
theorem CF(δ:Ba):BF (.nx δ)=.nx δ:=rfl
theorem EF(d:D):BF (.rt d)=.rt d:=rfl
def KD:Out->Res D
 | .rt d=>.ok d
 | .nx _=>.ok .non
 | .ex c fs=>.ex c fs
 |_=>.stuck
theorem UL(n:Nat)(g:Ba->Out)(ds:List D):QW n g ds=KD (g (Sa n ds)):=by unfold QW KD;cases g (Sa n ds)<;>rfl
theorem JJ(d:D):KD (.rt d)=.ok d:=rfl
theorem IJ(δ:Ba):KD (.nx δ)=.ok .non:=rfl
theorem HJ(c:Str)(fs:List D):KD (.ex c fs)=.ex c fs:=rfl
theorem seqO_ex(c:Str)(fs:List D)(g:Ba->Out):Ro (.ex c fs) g=.ex c fs:=rfl
local macro_rules| `(tactic| walk_at "evx*")=> `(tactic| simp only[XZ,WZ,VZ,CF,EF,UL,JJ,IJ,HJ,seqO_ex,QS,Xa,Kb,Sa,map_cons,map_nil,List.length_cons,length_nil,cons_append,nil_append,reduceAdd,reduceSub,replicate,
 kD,b1,b2,b3,WX,tR,Ii,Fk,Bj,MM,HY,GY,Ia,Aa,Ug,Uf,Rc,Mb,Pb,Yd,Zg,Ue,Ek,UH,Ng,Ub,Cz,Po,VL,Dz,Bz,Qo,Bl,Dt,Dr,
 La,Cb,Qa,Rb,Ta,Res.bind_ok,Res.bind_ex,Res.bind_stuck,Xa,Zr,Ij,Va,Kj,Ci,Tb,Th,Yi,Rm,Gs,Db,An,
 Ol,Eo,Mr,Eh,Zj,Ui,Pr,Wb,Sh,Mj,Tl,Vk,Si,Xk,Ym,Zm,Wq,Ur,Wc,Rs,Di,Il,Hl,Xg,Ja,Eg,Ez,Gz,Qb,Sm,Qk,Uh,
 set_cons_zero,set_cons_succ,Xd,Rg,if_true,if_false,reduceIte,Bool.not_true,Bool.not_false,false_eq_true,zero_le,reduceLeDiff,zero_add,Int.reduceLT,true_and,and_true,and_self, *])
theorem Tn(xs:List D)(n:Nat):L3.cutD xs (some (n:Int)) none=xs.drop n:=by
 unfold L3.cutD
 rw[HT.sIx_nat]
 show(xs.drop (min n xs.length)).take (xs.length-min n xs.length)=_
 rw[take_of_length_le (by rw[List.length_drop];omega)]
 by_cases h:n<=xs.length
 .rw[Nat.min_eq_left h]
 .rw[Nat.min_eq_right (by omega),List.drop_of_length_le (by omega),List.drop_of_length_le (by omega)]
def Kr(N:Nat->Str):Option Nat->D
 |none=>.non
 |some a=>.str (N a)
def Tw.kk(H:Tw)(i:Nat):Nat:=H.ks.getD i 0
def Tw.cr(H:Tw)(i j:Nat):Bool:=HZ (H.own (H.kk i)) (H.own (H.kk j))
section
variable (H:Tw)(o:H.Ok)
include o
theorem EE{i:Nat}(h:i<H.ks.length):H.kk i∈H.ks:=OD 0 h
theorem QQ(f:Nat->D):H.ks.map f=(range H.ks.length).map λi=>f (H.kk i):=Ty f 0 H.ks
theorem JM:Vi (dK H.spT)=.ok ((range H.ks.length).map λi=>D.str (H.N (H.kk i))):=by
 have hl:=Sq H o
 unfold Vi dK
 dsimp only
 rw[if_pos (by rw[length_map];unfold Tw.spT tK;rw[length_map];exact Pz (by omega))]
 have:=Xm H.N (λk=>sL (H.own k) H.N) H.ks
 have e:(H.spT.map (·.1)).map Sj=H.ks.map λk=>D.str (H.N k):=by
  have h2:Res.ok ((H.spT.map (·.1)).map Sj)=Res.ok (H.ks.map λk=>D.str (H.N k)):=this
  injection h2
 rw[e,QQ H o]
abbrev Lv(H:Tw)(x2 x3 x4:Option S):Ba:= [some (.d (dK H.spT)),some (.d (.lst ((range H.ks.length).map λi=>D.str (H.N (H.kk i))))),x2,x3,x4]
theorem MS{i j:Nat}(hi:i<H.ks.length)(hj:j<H.ks.length)(x2:Option S)(hc:H.cr i j=false):Ec (Lv H x2 (some (.d (.str (H.N (H.kk i))))) (some (.d (.str (H.N (H.kk j))))))=.nx (Lv H x2 (some (.d (.str (H.N (H.kk i))))) (some (.d (.str (H.N (H.kk j)))))):=by
 have hi':=EE H o hi
 have hj':=EE H o hj
 have hm:=o.hm
 have gi:De H.spT (.str (H.N (H.kk i)))=.ok (sL (H.own (H.kk i)) H.N):=Yn (Gi H o) hi'
 have gj:De H.spT (.str (H.N (H.kk j)))=.ok (sL (H.own (H.kk j)) H.N):=Yn (Gi H o) hj'
 have li:=Yv H o hi'
 have lj:=Yv H o hj'
 have e1:=OX H o (o.up _ hi').2 (o.up _ hj').2 (by omega) (by omega)
 have e2:=PX H o (o.up _ hi').2 (o.up _ hj').2 (by omega) (by omega)
 have cr:H.cr i j=(!(UM (H.own (H.kk i)) (H.own (H.kk j))).isEmpty&&(Et (H.own (H.kk i)) (H.own (H.kk j))==Et (H.own (H.kk j)) (H.own (H.kk i)))):=rfl
 rw[cr]at hc
 unfold Ec Lv
 simp only[Zg,Ii,Bj,tR,b1,Dr,Aa,Ia,Ja,El,Qa,Ta,La,Cb,Res.bind_ok,gi,gj,e1,e2,Db,Th]
 cases hb:(UM (H.own (H.kk i)) (H.own (H.kk j))).isEmpty with
 |true=>simp only[Bool.not_true,false_eq_true,if_false,reduceIte,Tb]
 |false=>
  rw[hb]at hc
  rw[Bool.not_false,Bool.true_and]at hc
  simp only[hc,Bool.not_false,Bool.not_true,if_true,if_false,false_eq_true,reduceIte,Tb]
theorem OW(hc:∀ i j,i<j->j<H.ks.length->H.cr i j=false):Ha 1 Cc [dK H.spT]=.ok .non:=by
 have hl:=Sq H o
 have kl:=JM H o
 have en:=Xt (λi=>D.str (H.N (H.kk i))) H.ks.length
 have main:=Pl (t:=Xe 2 (Lb (Nb 2) (Lb (Nb 3) We))) (body:=Sb) (λ_ δ=>∃ x2 x3 x4:Option S,δ=Lv H x2 x3 x4) (λi=>D.tup [.int (i:Int),.str (H.N (H.kk i))]) (λ_=>false) (λ_=>.rt .non) (λi=>.inl ⟨_,rfl⟩)
  (range H.ks.length) 0 (Lv H none none none) (λ_ i δ hk ⟨x2,x3,x4,e⟩=>by
   subst e
   have hi:i<H.ks.length:=mem_range.mp (mem_of_getElem? hk)
   refine⟨Lv H (some (.d (.int (i:Int)))) (some (.d (.str (H.N (H.kk i))))) x4,rfl,.inl ?_⟩
   have inner:=Pl (t:=Nb 4) (body:=Ec) (λ_ δ=>∃ x4:Option S,δ=Lv H (some (.d (.int (i:Int)))) (some (.d (.str (H.N (H.kk i))))) x4) (λj=>D.str (H.N (H.kk j))) (λ_=>false) (λ_=>.rt .non) (λj=>.inl ⟨_,rfl⟩)
    (VU H.ks.length i) 0 (Lv H (some (.d (.int (i:Int)))) (some (.d (.str (H.N (H.kk i))))) x4) (λ_ j δ hj ⟨x4,e⟩=>by
     subst e
     have hj':=VH (mem_of_getElem? hj)
     refine⟨Lv H (some (.d (.int (i:Int)))) (some (.d (.str (H.N (H.kk i))))) (some (.d (.str (H.N (H.kk j))))),rfl,.inl ⟨rfl,_,MS H o hi hj'.2 _ (hc i j hj'.1 hj'.2),_,rfl⟩⟩) ⟨_,rfl⟩
   have ct:Cw (.lst ((range H.ks.length).map λi=>D.str (H.N (H.kk i)))) (some ((i:Int)+1)) none=.ok ((VU H.ks.length i).map λj=>D.str (H.N (H.kk j))):=by
    show Res.ok (L3.cutD _ _ _)=_
    rw[show((i:Int)+1)=((i+1:Nat):Int) by omega,Tn]
    unfold VU
    rw[<-List.map_drop,List.range_eq_range',List.drop_range']
    simp
   have sf:Sb (Lv H (some (.d (.int (i:Int)))) (some (.d (.str (H.N (H.kk i))))) x4)=Jh (Nb 4) Ec ((VU H.ks.length i).map λj=>D.str (H.N (H.kk j))) (Lv H (some (.d (.int (i:Int)))) (some (.d (.str (H.N (H.kk i))))) x4):=by
    unfold Sb Lv
    simp only[Ue,b1,b2,b3,kD,Uf,Ug,Ta,Qa,Res.bind_ok,Wb,Xg,ct,Di,Xa]
   rcases inner with⟨j,h1,h2⟩|⟨h1,δ2,h2,x4',h3⟩
   .exact absurd (find?_some h1) Bool.false_ne_true
   .exact⟨rfl,δ2,by rw[sf,h2],_,_,_,h3⟩) ⟨_,_,_,rfl⟩
 have s1:Pb 1 (Uf (Dt Vi (Ga 0))) (Sa 5 [dK H.spT])=.nx (Lv H none none none):=by
  unfold Lv
  simp only[Sa,map_cons,map_nil,List.length_cons,length_nil,cons_append,nil_append,reduceAdd,reduceSub,replicate,Pb,Uf,Dt,La,Res.bind_ok,kl,Xa,set_cons_zero,set_cons_succ]
 have s2:Ue (Xe 2 (Lb (Nb 2) (Lb (Nb 3) We))) Sb (b1 Qi (Aa (Ga 1) Ia)) (Lv H none none none)=Jh (Xe 2 (Lb (Nb 2) (Lb (Nb 3) We))) Sb ((range H.ks.length).map λ(i:Nat)=>D.tup [.int (i:Int),.str (H.N (H.kk i))]) (Lv H none none none):=by
  unfold Lv
  simp only[Ue,b1,Aa,Ia,La,Cb,Ja,Res.bind_ok,en,Xa]
 refine Hb _ _ _ _ ?_ rfl
 unfold Cc Ih Mb
 rw[Kb,s1,Va,s2]
 rcases main with⟨k,h1,h2⟩|⟨h1,δ2,h2,x2,x3,x4,h3⟩
 .exact absurd (find?_some h1) Bool.false_ne_true
 .rw[h2];rfl
end
def Tw.abv(H:Tw)(k:Nat):List Nat:=H.ks.filter λj=> !decide (j=k)&&Et (H.own k) (H.own j)
section
variable (H:Tw)(o:H.Ok)
include o
theorem Xv{k:Nat}(hk:k∈H.ks):Ha 2 Ic [dK H.spT,.str (H.N k)]=.ok (sL (H.abv k) H.N):=by
 have hl:=Sq H o
 have hm:=o.hm
 have ky:=Xm H.N (λk=>sL (H.own k) H.N) H.ks
 have gk:De H.spT (.str (H.N k))=.ok (sL (H.own k) H.N):=Yn (Gi H o) hk
 have lk:=Yv H o hk
 have cm:Yf 1 (Nb 0) Pe Ig [some (.d (dK H.spT)),some (.d (.str (H.N k)))] (H.ks.map λj=>D.str (H.N j))=.ok ((H.abv k).map λj=>D.str (H.N j)):=by
  refine Re ?_ (by rw[length_map];omega)
  refine Of (gc:=Pe) (fe:=Ig) (λj=> !decide (j=k)&&Et (H.own k) (H.own j)) (λj=>D.str (H.N j)) (λj=>D.str (H.N j)) [some (.d (dK H.spT)),some (.d (.str (H.N k)))] H.ks none λj hj=>⟨?_,λ_=>rfl⟩
  have gj:De H.spT (.str (H.N j))=.ok (sL (H.own j) H.N):=Yn (Gi H o) hj
  have lj:=Yv H o hj
  have e:=LG H o (o.up _ hk).2 (o.up _ hj).2 (by omega) (by omega)
  have ne:Uj (.str (H.N j)) (.str (H.N k))=.ok (.bl (!decide (j=k))):=by
   have:(H.N j==H.N k)=decide (j=k):=by
    rw[Bool.eq_iff_iff,beq_iff_eq,decide_eq_true_eq]
    exact⟨λz=>Gi H o j hj k hk z,λz=>by rw[z]⟩
   simp[Uj,Kc,Jg,this]
  unfold Pe
  simp only[Ii,tR,b1,b2,Dr,Aa,Ia,Ja,Iz,El,Qa,Ta,Res.bind_ok,ne,gk,gj,e,Db,Th]
  cases decide (j=k)<;>rfl
 refine Hb _ _ _ _ ?_ rfl
 unfold Ic Pk
 have kq:Gq (dK H.spT)=.ok (H.ks.map λj=>D.str (H.N j)):=ky
 simp only[Kb,Sa,map_cons,map_nil,List.length_cons,length_nil,cons_append,nil_append,reduceAdd,reduceSub,replicate,Dt,Uf,Rc,Ub,La,Res.bind_ok,kq,cm,Xa,Qb]
 rfl
def Tw.leT(H:Tw):List (Ab×D):=tK H.ks H.N λk=>iN (H.abv k).length
theorem YB:Ha 1 Ge [dK H.spT]=.ok (dK H.leT):=by
 have hl:=Sq H o
 have kq:Gq (dK H.spT)=.ok (H.ks.map λj=>D.str (H.N j)):=Xm H.N (λk=>sL (H.own k) H.N) H.ks
 have cm:Yf 1 (Nb 0) (λ_=>.ok true) Nf [some (.d (dK H.spT))] (H.ks.map λk=>D.str (H.N k))=.ok (H.ks.map λk=>D.tup [.str (H.N k),iN (H.abv k).length]):=by
  refine Re ?_ (by rw[length_map];omega)
  have:=Of (gc:=λ_=>.ok true) (fe:=Nf) (λ_=>true) (λk=>D.str (H.N k)) (λk=>D.tup [.str (H.N k),iN (H.abv k).length]) [some (.d (dK H.spT))] H.ks none (λk hk=>⟨rfl,λ_=>by
   have e:=Xv H o hk
   have ln:Pf (sL (H.abv k) H.N)=.ok (iN (H.abv k).length):=by unfold sL;rw[Wc,length_map];rfl
   unfold Nf
   simp only[b1,Rg,Aa,Ia,Ja,La,Cb,Res.bind_ok,e,ln,List.length_cons,length_nil,reduceAdd,reduceLeDiff,if_true,reduceIte]⟩)
  rw[Ze]at this
  exact this
 have dc:=Ir (g:=λk=>iN (H.abv k).length) (Gi H o) (MG H o)
 refine Hb _ _ _ _ ?_ rfl
 unfold Ge Am
 simp only[Kb,Sa,map_cons,map_nil,List.length_cons,length_nil,cons_append,nil_append,reduceAdd,reduceSub,replicate,b1,Dt,Uf,Rc,Ub,La,Res.bind_ok,kq,cm,dc,Xa,Qb]
 rfl
variable {p d h s:Int}(hr:H.ru=.tup [.int p,.int d,.int h,.int s])(hs:¬ s<d-1)(hc:∀ i j,i<j->j<H.ks.length->H.cr i j=false)
include hr hs hc
theorem QG:Ha 1 Hd [H.hsD]=.ok (dK H.spT):=by
 have f1:Ti "House" "rules" H.hsD=.ok H.ru:=KZ H.ru H.dr H.wgD H.grD
 have sp:=OG H o
 have rc:=OW H o hc
 have st:Ha 1 Lh [H.ru]=.ok (.int s):=by rw[hr];rfl
 have dp:Ha 1 Qf [H.ru]=.ok (.int d):=by rw[hr];rfl
 refine Hb _ _ _ _ ?_ rfl
 unfold Hd Nn
 simp only[Kb,Sa,map_cons,map_nil,List.length_cons,length_nil,cons_append,nil_append,reduceAdd,reduceSub,replicate,Mb,Pb,Po,Zg,tR,b1,b2,kD,Aa,Ia,Ja,La,Cb,Res.bind_ok,sp,rc,f1,st,dp,Mj,Eh,Db,Tb,decide_eq_false hs,false_eq_true,if_false,reduceIte,Va,Ub,Xa,Qb,set_cons_zero,set_cons_succ]
theorem KM:Ha 1 Fd [H.hsD]=.ok (dK H.leT):=by
 have e1:=QG H o hr hs hc
 have e2:=YB H o
 refine Hb _ _ _ _ ?_ rfl
 unfold Fd Bm
 simp only[Kb,Sa,map_cons,map_nil,List.length_cons,length_nil,cons_append,nil_append,reduceAdd,reduceSub,replicate,b1,Aa,Ia,Ja,La,Res.bind_ok,e1,e2,Ub,Xa,Qb]
theorem ST{k:Nat}(hk:k∈H.ks)(q:Option Nat)(h0:q=none->H.abv k= [])(h1:∀ a,q=some a->a∈H.abv k/\∀ j∈H.abv k,j≠a->(H.own a).length<(H.own j).length):
  Ha 2 Ed [H.hsD,.str (H.N k)]=.ok (Kr H.N q):=by
 have e1:=QG H o hr hs hc
 have e2:=Xv H o hk
 have hm:=o.hm
 have aks:∀ j∈H.abv k,j∈H.ks:=λj hj=>(mem_filter.mp hj).1
 have ln:∀ j∈H.abv k,Ji H.spT (.str (H.N j))=some (H.own j).length:=λj hj=>by
  have g:=Us (g:=λk=>sL (H.own k) H.N) (Gi H o) (aks j hj)
  have l:=Yv H o (aks j hj)
  unfold Ji Tw.spT
  dsimp only
  rw[g]
  unfold sL
  dsimp only
  rw[length_map,if_pos (by omega)]
 have mk:∀ xs:List Nat,(∀ j∈xs,j∈H.abv k)->∃ r,Do H.spT (xs.map λj=>D.str (H.N j))=.ok r:=by
  intro xs
  induction xs with
  |nil=>intro _;exact⟨_,rfl⟩
  |cons x xs ih=>
   intro hx
   obtain⟨r,hr'⟩:=ih λj hj=>hx j (mem_cons_of_mem _ hj)
   rw[map_cons,Do,ln x (hx x mem_cons_self),hr']
   dsimp only[Res.bind]
   cases Ji H.spT r with
   |none=>exact⟨_,rfl⟩
   |some m=>
    by_cases z:m<(H.own x).length
    .exact⟨_,if_pos z⟩
    .exact⟨_,if_neg z⟩
 obtain⟨r,hr'⟩:=mk (H.abv k) λ_ h=>h
 have hres:r=(Kr H.N q):=by
  obtain⟨xs,x1,_,x3⟩:=Sl hr'
  have xe:xs=(H.abv k).map H.N:=by
   have:∀ (l:List Nat) (xs:List Str),(l.map λj=>D.str (H.N j))=xs.map D.str->xs=l.map H.N:=by
    intro l
    induction l with
    |nil=>intro xs h;cases xs with
     |nil=>rfl
     |cons _ _=>cases h
    |cons a l ih=>intro xs h;cases xs with
     |nil=>cases h
     |cons x xs=>
      rw[map_cons,map_cons]at h
      injection h with h1 h2
      injection h1 with h1
      rw[map_cons,ih xs h2,h1]
   exact this _ _ x1
  rcases x3 with⟨z,rfl⟩|⟨j,x,z1,z2,rfl⟩
  .cases q with
   |none=>rfl
   |some a=>
    have:=(h1 a rfl).1
    rw[xe]at z
    rw[List.map_eq_nil_iff.mp z]at this
    cases this
  .cases q with
   |none=>rw[xe,h0 rfl]at z1;cases z1
   |some a=>
    obtain⟨a1,a2⟩:=h1 a rfl
    obtain⟨ia,hia⟩:=List.getElem?_of_mem a1
    have ga:xs[ia]? =some (H.N a):=by rw[xe,getElem?_map,hia];rfl
    rw[xe,getElem?_map]at z1
    obtain⟨b,hb,rfl⟩:=map_eq_some_iff.mp z1
    have hb':=mem_of_getElem? hb
    have zb:xs[j]? =some (H.N b):=by rw[xe,getElem?_map,hb];rfl
    have le:=(z2 _ zb ia _ ga).1
    dsimp only at le
    rw[ln b hb',ln a a1]at le
    by_cases e:b=a
    .rw[e];rfl
    .have:=a2 b hb' e
     simp only[Option.getD_some]at le
     omega
 have e3:Ha 2 Bf [dK H.spT,.str (H.N k)]=.ok r:=by
  refine Hb _ _ _ _ ?_ rfl
  unfold Bf Jn
  simp only[Kb,Sa,map_cons,map_nil,List.length_cons,length_nil,cons_append,nil_append,reduceAdd,reduceSub,replicate,Ub,Zx,El,b1,Aa,Ia,Ja,La,Cb,Res.bind_ok,e2,VE,sL,hr',Xa,Qb]
 rw[<-hres]
 refine Hb _ _ _ _ ?_ rfl
 unfold Ed Kn
 simp only[Kb,Sa,map_cons,map_nil,List.length_cons,length_nil,cons_append,nil_append,reduceAdd,reduceSub,replicate,b1,Aa,Ia,Ja,La,Cb,Res.bind_ok,e1,e3,Ub,Xa,Qb]
end
def Gw(E:Nat->Option Nat):Nat->Nat->List Nat
 |0,j=> [j]
 |f+1,j=>j::match E j with
  |none=> []
  |some p=>Gw E f p
def Fo(E:Nat->Option Nat):Prop:=∀ j p,E j=some p->p<j
def an(E:Nat->Option Nat)(j:Nat):List Nat:=Gw E j j
section
variable {E:Nat->Option Nat}(hE:Fo E)
include hE
theorem IC:∀ (f g j:Nat),j<=f->j<=g->Gw E f j=Gw E g j
 |0,0,j,_,_=>rfl
 |0,g+1,j,h,_=>by
  cases (show j=0 by omega)
  rw[Gw,Gw]
  cases e:E 0 with
  |none=>rfl
  |some p=>exact absurd (hE 0 p e) (by omega)
 |f+1,0,j,_,h=>by
  cases (show j=0 by omega)
  rw[Gw,Gw]
  cases e:E 0 with
  |none=>rfl
  |some p=>exact absurd (hE 0 p e) (by omega)
 |f+1,g+1,j,h1,h2=>by
  rw[Gw,Gw]
  cases e:E j with
  |none=>rfl
  |some p=>
   have:=hE j p e
   show j::Gw E f p=j::Gw E g p
   rw[IC f g p (by omega) (by omega)]
theorem Ag{j:Nat}(h:E j=none):an E j= [j]:=by
 unfold an
 cases j with
 |zero=>rfl
 |succ j=>rw[Gw,h]
theorem Oe{j p:Nat}(h:E j=some p):an E j=j::an E p:=by
 have:=hE j p h
 unfold an
 cases j with
 |zero=>omega
 |succ j=>rw[Gw,h];show _::Gw E j p=_;rw[IC hE j p p (by omega) (le_refl _)]
theorem Fj(j:Nat):j∈an E j:=by
 cases e:E j with
 |none=>rw[Ag hE e];exact List.mem_singleton_self _
 |some p=>rw[Oe hE e];exact mem_cons_self
theorem Gk:∀ (n j a:Nat),j<=n->a∈an E j->a<=j
 |n,j,a,h,ha=>by
  cases e:E j with
  |none=>rw[Ag hE e]at ha;rw[mem_singleton.mp ha];exact le_refl _
  |some p=>
   have:=hE j p e
   rw[Oe hE e]at ha
   rcases mem_cons.mp ha with rfl|ha
   .exact le_refl _
   .cases n with
    |zero=>omega
    |succ n=>have:=Gk n p a (by omega) ha;omega
theorem SM:∀ (n j:Nat),j<=n->(an E j).Pairwise (· > ·)
 |n,j,h=>by
  cases e:E j with
  |none=>rw[Ag hE e];exact List.pairwise_singleton _ _
  |some p=>
   have:=hE j p e
   rw[Oe hE e]
   refine pairwise_cons.mpr ⟨λa ha=>?_,?_⟩
   .have:=Gk hE p p a (le_refl _) ha;omega
   .cases n with
    |zero=>omega
    |succ n=>exact SM n p (by omega)
theorem En:∀ (n j a b:Nat),j<=n->a∈an E j->b∈an E a->b∈an E j
 |n,j,a,b,h,ha,hb=>by
  cases e:E j with
  |none=>rw[Ag hE e]at ha;rw[mem_singleton.mp ha]at hb;exact hb
  |some p=>
   have:=hE j p e
   have ha':=ha
   rw[Oe hE e]at ha
   rcases mem_cons.mp ha with rfl|ha
   .exact hb
   .rw[Oe hE e]
    cases n with
    |zero=>omega
    |succ n=>exact mem_cons_of_mem _ (En n p a b (by omega) ha hb)
theorem Ht:∀ (n j a b:Nat),j<=n->a∈an E j->b∈an E j->a∈an E b\/b∈an E a
 |n,j,a,b,h,ha,hb=>by
  have ha0:=ha
  have hb0:=hb
  cases e:E j with
  |none=>
   rw[Ag hE e]at ha hb
   rw[mem_singleton.mp ha,mem_singleton.mp hb];exact .inl (Fj hE j)
  |some p=>
   have:=hE j p e
   rw[Oe hE e]at ha hb
   rcases mem_cons.mp ha with rfl|ha
   .exact .inr hb0
   .rcases mem_cons.mp hb with rfl|hb
    .exact .inl ha0
    .cases n with
     |zero=>omega
     |succ n=>exact Ht n p a b (by omega) ha hb
end
theorem Cu{p q:Nat->Bool}{x:Nat}:∀ {U:List Nat},x∈U->p x=true->q x=false->(∀ y,q y=true->p y=true)->(U.filter q).length<(U.filter p).length
 | [],h,_,_,_=>by simp at h
 |u::U,h,hp,hq,hs=>by
  have le:∀ V:List Nat,(V.filter q).length<=(V.filter p).length:=λV=>by
   induction V with
   |nil=>simp
   |cons v V ih=>
    cases h1:q v with
    |true=>rw[filter_cons_of_pos h1,filter_cons_of_pos (hs v h1),List.length_cons,List.length_cons];omega
    |false=>
     rw[filter_cons_of_neg (by rw[h1];simp)]
     cases h2:p v with
     |true=>rw[filter_cons_of_pos h2,List.length_cons];omega
     |false=>rw[filter_cons_of_neg (by rw[h2];simp)];exact ih
  rcases mem_cons.mp h with rfl|h
  .rw[filter_cons_of_pos hp,filter_cons_of_neg (by rw[hq];simp),List.length_cons]
   have:=le U
   omega
  .have ih:=Cu h hp hq hs
   cases h1:q u with
   |true=>rw[filter_cons_of_pos h1,filter_cons_of_pos (hs u h1),List.length_cons,List.length_cons];omega
   |false=>
    rw[filter_cons_of_neg (by rw[h1];simp)]
    cases h2:p u with
    |true=>rw[filter_cons_of_pos h2,List.length_cons];omega
    |false=>rw[filter_cons_of_neg (by rw[h2];simp)];exact ih
def ds(E:Nat->Option Nat)(n k:Nat):List Nat:=(range n).filter λj=>decide (k∈an E j)
theorem Hg{E:Nat->Option Nat}{n k j:Nat}:j∈ds E n k↔j<n/\k∈an E j:=by
 unfold ds;rw[mem_filter,mem_range,decide_eq_true_eq]
theorem XM{E:Nat->Option Nat}{n k:Nat}:(ds E n k).Pairwise (· < ·):=Pairwise.filter _ List.pairwise_lt_range
section
variable {E:Nat->Option Nat}(hE:Fo E){n:Nat}
include hE
theorem CV{k j:Nat}(h:j∈ds E n k):k<=j:=Gk hE j j k (le_refl _) (Hg.mp h).2
theorem Jr{k:Nat}(h:k<n):k∈ds E n k:=Hg.mpr ⟨h,Fj hE k⟩
theorem Qw{k a:Nat}(hk:k<n):Et (ds E n k) (ds E n a)=decide (a∈an E k):=by
 rw[Bool.eq_iff_iff,decide_eq_true_eq]
 unfold Et
 rw[all_eq_true]
 constructor
 .intro h
  exact(Hg.mp (of_decide_eq_true (h k (Jr hE hk)))).2
 .intro h j hj
  have:=Hg.mp hj
  exact decide_eq_true (Hg.mpr ⟨this.1,En hE j j k a (le_refl _) this.2 h⟩)
theorem HP{k a:Nat}(hk:k<n)(ha:a<n)(ne:k≠a):HZ (ds E n k) (ds E n a)=false:=by
 unfold HZ
 rw[Qw hE hk,Qw hE ha]
 by_cases h1:a∈an E k
 .have h2:k∉an E a:=λh2=>ne (by
   have:=Gk hE k k a (le_refl _) h1
   have:=Gk hE a a k (le_refl _) h2
   omega)
  rw[decide_eq_true h1,decide_eq_false h2];simp
 .by_cases h2:k∈an E a
  .rw[decide_eq_false h1,decide_eq_true h2];simp
  .have:(UM (ds E n k) (ds E n a)).isEmpty=true:=by
    rw[isEmpty_iff]
    unfold UM
    rw[filter_eq_nil_iff]
    intro j hj z
    have j1:=Hg.mp hj
    have j2:=Hg.mp (of_decide_eq_true z)
    rcases Ht hE j j k a (le_refl _) j1.2 j2.2 with z|z
    .exact h2 z
    .exact h1 z
   rw[this];rfl
theorem EV{k a:Nat}(hk:k<n)(ha:a<n)(h:a∈an E k)(ne:a≠k):(ds E n k).length<(ds E n a).length:=by
 have l:=Gk hE k k a (le_refl _) h
 refine Cu (x:=a) (mem_range.mpr ha) (decide_eq_true (Fj hE a)) (decide_eq_false λz=>?_) λy hy=>decide_eq_true (En hE y y k a (le_refl _) (of_decide_eq_true hy) h)
 have:=Gk hE a a k (le_refl _) z
 omega
end
def eo:Option Nat->D
 |none=>.non
 |some p=>iN p
structure GE(L:List (Option Nat)):Prop where
 ne:L≠ []
 up:∀ (j p:Nat),L[j]? =some (some p)->p<j
theorem GE.snoc{L:List (Option Nat)}(g:GE L){q:Option Nat}(h:∀ p,q=some p->p<L.length):GE (L++ [q]):=by
 refine⟨by simp,λj p e=>?_⟩
 by_cases hj:j<L.length
 .rw[List.getElem?_append_left hj]at e;exact g.up j p e
 .have:j=L.length:=by
   have:=(List.getElem?_eq_some_iff.mp e).1
   rw[length_append]at this
   simp at this
   omega
  subst this
  rw[getElem?_append_right (le_refl _),Nat.sub_self]at e
  cases e
  exact h p rfl
abbrev BC(sc:D)(L:List (Option Nat))(x3 x4:Option S):Ba:= [some (.d sc),some (.d (.int 13)),some (.o (L.map eo)),x3,x4]
theorem JZ(sc:D)(L:List (Option Nat))(g:GE L)(hl:L.length<=100)(c:Int)(x4:Option S):∃ q y4,(∀ p,q=some p->p<L.length)/\Uc (BC sc L (some (.d (.int c))) x4)=.nx (BC sc (L++ [q]) (some (.d (.int c))) y4):=by
 have p60:=EW
 generalize hT:((10:Int)^60)=T at p60
 have hT0:0<T:=by rw[<-hT];decide
 have m1:=Ak c T hT0
 have hL:(L.map eo).length=L.length:=length_map ..
 have m2:=Ak (c%T) ((L.length:Int)+2) (by omega)
 have q1:=emod_nonneg (c%T) (show((L.length:Int)+2)≠0 by omega)
 have q2:=Int.emod_lt_of_pos (c%T) (show(0:Int)<(L.length:Int)+2 by omega)
 obtain⟨a,ha⟩:∃ a:Nat,(a:Int)=c%T%((L.length:Int)+2):=⟨(c%T%((L.length:Int)+2)).toNat,by omega⟩
 rw[<-ha]at m2 q1 q2
 have s1:Pb 4 (b2 Rf (b2 Rf (Fa 3) (b2 QB (kD (.int 10)) (kD (.int 60)))) (b2 Bc (b1 Pf (Fa 2)) (kD (.int 2)))) (BC sc L (some (.d (.int c))) x4)=.nx (BC sc L (some (.d (.int c))) (some (.d (iN a)))):=by
  simp only[Pb,b1,b2,kD,Qa,Rb,Ta,Res.bind_ok,p60,m1,Wc,hL,Wb,m2,Xa,set_cons_zero,set_cons_succ]
  rfl
 have ap:∀ d,Yq 2 (BC sc L (some (.d (.int c))) (some (.d (iN a)))) (.ok d)=.nx [some (.d sc),some (.d (.int 13)),some (.o (L.map eo++ [d])),some (.d (.int c)),some (.d (iN a))]:=λd=>Hk 2 _ _ d rfl (by rw[hL];omega)
 have fin:∀ q:Option Nat,Out.nx [some (.d sc),some (.d (.int 13)),some (.o (L.map eo++ [eo q])),some (.d (.int c)),some (.d (iN a))]=.nx (BC sc (L++ [q]) (some (.d (.int c))) (some (.d (iN a)))):=λq=>by
  unfold BC;rw[map_append];rfl
 have lt:IH (iN a) (.int (L.length:Int))=.ok (.bl (decide ((a:Int)<L.length))):=Eh _ _
 have eq':CC (iN a) (.int (L.length:Int))=.ok (.bl ((a:Int)==L.length)):=Ol _ _
 unfold Uc Mb
 rw[s1,Va]
 by_cases h1:a<L.length
 .refine⟨some a,some (.d (iN a)),λp e=>by cases e;exact h1,?_⟩
  simp only[Zg,tR,b1,b2,Qa,Rb,Ta,Res.bind_ok,Wc,hL,lt,Db,Tb,decide_eq_true (show(a:Int)<L.length by omega),if_true,reduceIte,Ng,La,Cb]
  exact(ap (iN a)).trans (fin (some a))
 .by_cases h2:a=L.length
  .refine⟨none,some (.d (iN a)),(λp e=>by cases e),?_⟩
   simp only[Zg,tR,b1,b2,kD,Qa,Rb,Ta,Res.bind_ok,Wc,hL,lt,eq',Db,Tb,decide_eq_false (show ¬ (a:Int)<L.length by omega),show((a:Int)==(L.length:Int))=true from by rw[h2];exact beq_self_eq_true _,false_eq_true,if_false,if_true,reduceIte,Ng]
   exact(ap .non).trans (fin none)
  .have hn:0<L.length:=List.length_pos_iff.mpr g.ne
   obtain⟨q,hq⟩:∃ q,L[L.length-1]? =some q:=⟨_,getElem?_eq_getElem (by omega)⟩
   have ix:Wm (.lst (L.map eo)) (.int (-1))=.ok (eo q):=by
    obtain⟨L0,rfl⟩:∃ L0,L=L0++ [q]:=by
     have hz:=List.getLast?_eq_getElem? (l:=L)
     rw[hq]at hz
     obtain⟨ys,hy⟩:=List.getLast?_eq_some_iff.mp hz
     exact⟨ys,hy⟩
    refine Ao _ _ _ ?_
    rw[map_append]
    exact KC _ _
   refine⟨q,some (.d (iN a)),λp e=>?_,?_⟩
   .have:=g.up _ p (e▸hq);omega
   .simp only[Zg,tR,b1,b2,kD,Qa,Rb,Ta,Res.bind_ok,Wc,hL,lt,eq',Db,Tb,decide_eq_false (show ¬ (a:Int)<L.length by omega),show((a:Int)==(L.length:Int))=false from by rw[Bool.eq_false_iff];intro z;exact h2 (by have:=beq_iff_eq.mp z;omega),false_eq_true,if_false,reduceIte,Ng,Tl,ix]
    exact(ap (eo q)).trans (fin q)
theorem HV(ns:List Int):∃ L,GE L/\L.length<=14/\Ha 2 Mc [.lst (ns.map D.int),.int 13]=.ok (.lst (L.map eo)):=by
 obtain⟨cs,hcs,hcl⟩:∃ cs:List Int,Cw (.lst (ns.map D.int)) (some 4) (some 17)=.ok (cs.map D.int)/\cs.length<=13:=by
  refine⟨(ns.drop (min 4 ns.length)).take (min 17 ns.length-min 4 ns.length),?_,by rw[length_take];omega⟩
  rw[Fz]
  unfold L3.cutD
  rw[show(some (4:Int))=some ((4:Nat):Int) from rfl,show(some (17:Int))=some ((17:Nat):Int) from rfl,HT.sIx_nat,HT.sIx_nat,length_map,<-List.map_drop,<-List.map_take]
 obtain⟨δ,e,L,y3,y4,g,hl,rfl⟩:=Hj (t:=Nb 3) (body:=Uc) (λi δ=>∃ L y3 y4,GE L/\L.length=i+1/\δ=BC (.lst (ns.map D.int)) L y3 y4) (cs.map D.int) (BC (.lst (ns.map D.int)) [none] none none) (λi d δ hd ⟨L,y3,y4,g,hl,e⟩=>by
  subst e
  rw[getElem?_map]at hd
  obtain⟨c,hc,rfl⟩:=map_eq_some_iff.mp hd
  have hi:=(List.getElem?_eq_some_iff.mp hc).1
  obtain⟨q,z4,h1,h2⟩:=JZ (.lst (ns.map D.int)) L g (by omega) c y4
  exact⟨_,rfl,_,.inl h2,L++ [q],_,_,g.snoc h1,by rw[length_append,hl];rfl,rfl⟩) ⟨[none],none,none,⟨by simp,λj p e=>by cases j<;>simp at e⟩,rfl,rfl⟩
 rw[length_map]at hl
 refine⟨L,g,by omega,Hb _ _ _ _ ?_ rfl⟩
 have s1:Yd 2 (b1 Xd (Aa (kD .non) Ia)) (Sa 5 [.lst (ns.map D.int),.int 13])=.nx (BC (.lst (ns.map D.int)) [none] none none):=by
  simp only[Sa,map_cons,map_nil,List.length_cons,length_nil,cons_append,nil_append,reduceAdd,reduceSub,replicate,Yd,b1,Aa,Ia,kD,Ja,Xd,Res.bind_ok,zero_le,reduceLeDiff,if_true,reduceIte,Xa,set_cons_zero,set_cons_succ]
  rfl
 have s2:Ue (Nb 3) Uc (b1 Ve (Uf (b3 Cw (Fa 0) (b1 Wg (kD (.int 4))) (b1 Wg (b2 Bc (kD (.int 4)) (Fa 1)))))) (BC (.lst (ns.map D.int)) [none] none none)=.nx (BC (.lst (ns.map D.int)) L y3 y4):=by
  simp only[Ue,b1,b2,b3,kD,Uf,Qa,Ta,Res.bind_ok,Wb,Xg,show(4:Int)+13=17 from rfl,hcs,Di,Xa]
  exact e
 unfold Mc Pj Mb
 rw[Kb,s1,Va,s2,Va]
 rfl
def Ef(L:List (Option Nat))(j:Nat):Option Nat:=L.getD j none
theorem PM{L:List (Option Nat)}{j:Nat}(h:j<L.length):L[j]? =some (Ef L j):=by
 unfold Ef;rw[List.getD_eq_getElem?_getD,getElem?_eq_getElem h];rfl
theorem GE.fo{L:List (Option Nat)}(g:GE L):Fo (Ef L):=λj p h=>by
 by_cases hj:j<L.length
 .exact g.up j p (by rw[PM hj,h])
 .unfold Ef at h;rw[List.getD_eq_getElem?_getD,List.getElem?_eq_none (by omega)]at h;cases h
theorem Ey(E:Nat->Option Nat)(m k:Nat):ds E (m+1) k=ds E m k++if k∈an E m then [m] else []:=by
 unfold ds
 rw[List.range_succ,List.filter_append]
 congr 1
 by_cases h:k∈an E m
 .simp[h]
 .simp[h]
section
variable {E:Nat->Option Nat}(hE:Fo E)
include hE
theorem AJ(k:Nat):ds E k k= []:=by
 unfold ds
 rw[filter_eq_nil_iff]
 intro j hj z
 have:=Gk hE j j k (le_refl _) (of_decide_eq_true z)
 have:=mem_range.mp hj
 omega
theorem JP(k:Nat):ds E (k+1) k= [k]:=by
 rw[Ey,AJ hE,if_pos (Fj hE k)];rfl
theorem WI{m k:Nat}(h:k<m):ds E (m+1) k=ds E m k++match E m with
  |none=> []
  |some p=>if p∈ds E m k then [m] else []:=by
 rw[Ey]
 congr 1
 cases e:E m with
 |none=>rw[Ag hE e,if_neg (by rw[mem_singleton];omega)]
 |some p=>
  have:=hE m p e
  rw[Oe hE e]
  dsimp only
  by_cases z:k∈an E p
  .rw[if_pos (mem_cons_of_mem _ z),if_pos (Hg.mpr ⟨this,z⟩)]
  .rw[if_neg (λq=>(mem_cons.mp q).elim (by omega) z),if_neg λq=>z (Hg.mp q).2]
end
theorem WJ(b:List Nat):CQ .non (iL b)=.ok (.bl false):=by
 have f:(b.map iN).all Zf=true:=by
  rw[all_eq_true];intro d hd;obtain⟨i,_,rfl⟩:=mem_map.mp hd;rfl
 show(if(Zf .non&&(b.map iN).all Zf)=true then _ else _)=_
 rw[f]
 show Res.ok (D.bl (GU .non (b.map iN)))=_
 congr 2
 unfold GU
 rw[List.any_eq_false]
 intro d hd
 obtain⟨i,_,rfl⟩:=mem_map.mp hd
 unfold iN
 rw[Jg]
 .simp
 all_goals simp
abbrev YH(L:List (Option Nat))(k:Nat)(F:List Nat)(x3:Option S):Ba:= [some (.d (.lst (L.map eo))),some (.d (iN k)),some (.o (F.map iN)),x3]
theorem RV(L:List (Option Nat)){j:Nat}(h:j<L.length):Wm (.lst (L.map eo)) (iN j)=.ok (eo (Ef L j)):=by
 refine Ao _ _ _ (Ik (by omega) ?_)
 rw[toNat_natCast,getElem?_map,PM h];rfl
theorem GZ(L:List (Option Nat))(k:Nat)(F:List Nat)(hF:F.length<=100){j:Nat}(h:j<L.length):Pc (YH L k F (some (.d (iN j))))=.nx (YH L k (F++match Ef L j with
  |none=> []
  |some p=>if p∈F then [j] else []) (some (.d (iN j)))):=by
 have e1:=RV L h
 have ap:=Hk 2 (YH L k F (some (.d (iN j)))) (F.map iN) (iN j) rfl (by rw[length_map];omega)
 unfold Pc
 cases e:Ef L j with
 |none=>
  rw[e]at e1
  have e2:=WJ F
  unfold iL at e2
  simp only[Zg,tR,b2,Qa,Rb,Ta,Res.bind_ok,e1,eo,e2,Db,Tb,false_eq_true,if_false,reduceIte,append_nil]
 |some p=>
  rw[e]at e1
  have e2:=DQ p F
  unfold iL at e2
  dsimp only
  by_cases z:p∈F
  .rw[decide_eq_true z]at e2
   rw[if_pos z]
   simp only[Zg,tR,b2,Qa,Rb,Ta,Res.bind_ok,e1,eo,e2,Db,Tb,if_true,reduceIte,Ng,La,Cb]
   rw[ap]
   unfold YH
   rw[map_append];rfl
  .rw[decide_eq_false z]at e2
   rw[if_neg z]
   simp only[Zg,tR,b2,Qa,Rb,Ta,Res.bind_ok,e1,eo,e2,Db,Tb,false_eq_true,if_false,reduceIte,append_nil]
theorem WU{L:List (Option Nat)}(g:GE L)(hl:L.length<=14){k:Nat}(hk:k<L.length):Ha 2 Fc [.lst (L.map eo),iN k]=.ok (iL (ds (Ef L) L.length k)):=by
 have hE:=g.fo
 have lL:(L.map eo).length=L.length:=length_map ..
 have r2:Oo [.int ((k:Int)+1),.int (L.length:Int)]=.ok ((range' (k+1) (L.length-(k+1))).map iN):=by
  rw[NS _ _ (by omega) (by omega),show((k:Int)+1)=((k+1:Nat):Int) by omega,show((L.length:Int)-((k+1:Nat):Int)).toNat=L.length-(k+1) by omega,Mv]
 obtain⟨δ,e,y3,rfl⟩:=Hj (t:=Nb 3) (body:=Pc) (λi δ=>∃ y3,δ=YH L k (ds (Ef L) (k+1+i) k) y3) ((range' (k+1) (L.length-(k+1))).map iN) (YH L k [k] none) (λi d δ hd ⟨y3,e⟩=>by
  subst e
  rw[getElem?_map]at hd
  obtain⟨j,hj,rfl⟩:=map_eq_some_iff.mp hd
  have hi:i<L.length-(k+1):=by have:=(List.getElem?_eq_some_iff.mp hj).1;rwa [List.length_range']at this
  rw[List.getElem?_range' hi]at hj
  have hj':j=k+1+i:=by have:=Option.some.inj hj;omega
  subst hj'
  have ln:(ds (Ef L) (k+1+i) k).length<=100:=by
   have:=length_filter_le (λj=>decide (k∈an (Ef L) j)) (range (k+1+i))
   rw[length_range]at this
   unfold ds
   omega
  have t:=GZ L k (ds (Ef L) (k+1+i) k) ln (j:=k+1+i) (by omega)
  rw[<-WI hE (show k<k+1+i by omega)]at t
  exact⟨_,rfl,_,.inl t,_,rfl⟩) ⟨none,by rw[Nat.add_zero,JP hE]⟩
 rw[length_map,List.length_range',show k+1+(L.length-(k+1))=L.length by omega]at e
 refine Hb _ _ _ _ ?_ rfl
 have s1:Yd 2 (b1 Xd (Aa (Ga 1) Ia)) (Sa 4 [.lst (L.map eo),iN k])=.nx (YH L k [k] none):=by
  simp only[Sa,map_cons,map_nil,List.length_cons,length_nil,cons_append,nil_append,reduceAdd,reduceSub,replicate,Yd,b1,Aa,Ia,La,Cb,Ja,Xd,Res.bind_ok,zero_le,reduceLeDiff,if_true,reduceIte,Xa,set_cons_zero,set_cons_succ]
  rfl
 have s2:Ue (Nb 3) Pc (b1 Oo (Aa (b2 Bc (Fa 1) (kD (.int 1))) (Aa (b1 Pf (Fa 0)) Ia))) (YH L k [k] none)=.nx (YH L k (ds (Ef L) L.length k) y3):=by
  have a1:Bc (iN k) (.int 1)=.ok (.int ((k:Int)+1)):=Wb _ _
  simp only[Ue,b1,b2,kD,Aa,Ia,Qa,Ta,Ja,Res.bind_ok,a1,Wc,lL,r2,Xa]
  exact e
 unfold Fc Ni Mb
 rw[Kb,s1,Va,s2,Va]
 rfl
theorem Du{α β:Type}{f g:α->Option β}:∀ {l:List α},(∀ k∈l,f k=g k)->l.filterMap f=l.filterMap g
 | [],_=>rfl
 |a::l,h=>by rw[filterMap_cons,filterMap_cons,h a mem_cons_self,Du λk hk=>h k (mem_cons_of_mem _ hk)]
theorem OB{α:Type}(xs:List α):Hi xs none (some (-1))=xs.reverse:=by
 unfold Hi
 have e:sliceRange (sliceBounds none none (some (-1)) xs.length).1 (sliceBounds none none (some (-1)) xs.length).2.1 (sliceBounds none none (some (-1)) xs.length).2.2=(range xs.length).map λ(k:Nat)=>xs.length-1-k:=by
  show sliceRange ((xs.length:Int)-1) (-1) (-1)=_
  unfold sliceRange
  rw[if_neg (by decide)]
  show(range (if(xs.length:Int)-1> -1 then((xs.length:Int)-1- -1- -1-1) / - -1 else 0).toNat).map _=_
  have ec:(if(xs.length:Int)-1> -1 then((xs.length:Int)-1- -1- -1-1) / - -1 else 0).toNat=xs.length:=by
   rw[show(- -1:Int)=1 by decide,Int.ediv_one]
   split<;>omega
  rw[ec]
  refine List.map_congr_left λk hk=>?_
  have:=mem_range.mp hk
  omega
 rw[e,List.filterMap_map]
 have fm:(range xs.length).filterMap ((λx=>xs[x]?)∘λk=>xs.length-1-k)=(range xs.length).filterMap λk=>xs.reverse[k]? :=by
  refine Du λk hk=>?_
  show xs[xs.length-1-k]? =_
  rw[List.getElem?_reverse (mem_range.mp hk)]
 rw[fm]
 have all:∀ (ys:List α),(range ys.length).filterMap (λk=>ys[k]?)=ys:=by
  intro ys
  induction ys with
  |nil=>rfl
  |cons y ys ih=>
   rw[List.length_cons,List.range_succ_eq_map,filterMap_cons,List.filterMap_map]
   show y::(range ys.length).filterMap (λk=>ys[k]?)=_
   rw[ih]
 have:=all xs.reverse
 rw[List.length_reverse]at this
 exact this
theorem AO(xs:List D)(n:Nat):L3.cutD xs none (some (n:Int))=xs.take n:=by
 unfold L3.cutD
 rw[HT.sIx_nat]
 show(xs.drop 0).take (min n xs.length-0)=_
 rw[List.drop_zero,Nat.sub_zero]
 by_cases h:n<=xs.length
 .rw[Nat.min_eq_left h]
 .rw[Nat.min_eq_right (by omega),take_of_length_le (by omega),take_of_length_le (by omega)]
abbrev AR(sc:D)(n:Nat)(O:List Nat)(x3 x4:Option S):Ba:= [some (.d sc),some (.d (iN n)),some (.d (iL O)),x3,x4]
theorem YZ(ns:List Int)(n:Nat)(hn:0<n)(hn2:n<=20)(O:List Nat)(hO:O.length<=20)(k:Nat)(hk:k<n)(x4:Option S):∃ O' y4,O'.Perm O/\Dd (AR (.lst (ns.map D.int)) n O (some (.d (iN k))) x4)=.nx (AR (.lst (ns.map D.int)) n O' (some (.d (iN k))) y4):=by
 have c1:Ha 2 Oa [.lst (ns.map D.int),.int (60+(k:Int))]=.ok (.int (Pn ns (60+k))):=by
  have:=Qn ns (60+k) (by omega)
  rw[<-this];congr 3
 have m1:=Ak (Pn ns (60+k)) (n:Int) (by omega)
 have q1:=emod_nonneg (Pn ns (60+k)) (show(n:Int)≠0 by omega)
 obtain⟨a,ha⟩:∃ a:Nat,(a:Int)=Pn ns (60+k)%n:=⟨(Pn ns (60+k)%n).toNat,by omega⟩
 rw[<-ha]at m1
 have a1:Bc (.int 60) (iN k)=.ok (.int (60+(k:Int))):=Wb _ _
 have m1':Rf (.int (Pn ns (60+k))) (iN n)=.ok (iN a):=m1
 have pa:Wg (iN a)=.ok (some (a:Int)):=rfl
 have e1:Cw (iL O) none (some (a:Int))=.ok ((O.take a).map iN):=by
  unfold iL;rw[Fz,AO,<-List.map_take]
 have e2:Cw (iL O) (some (a:Int)) none=.ok ((O.drop a).map iN):=by
  unfold iL;rw[Fz,Tn,<-List.map_drop]
 have e3:CY (.lst ((O.take a).map iN)) none (some (-1))=.ok ((O.take a).reverse.map iN):=by
  show(if some (-1:Int)=some 0 then Res.stuck else .ok (Hi _ _ _))=_
  rw[if_neg (by decide),OB,List.map_reverse]
 have l1:(O.take a).length<=20:=by rw[length_take];omega
 have l2:(O.drop a).length<=20:=by rw[List.length_drop];omega
 have e4:Jw (.lst ((O.take a).reverse.map iN)) (.lst ((O.drop a).map iN))=.ok (((O.take a).reverse++O.drop a).map iN):=by
  rw[RC _ _ (by rw[length_map,length_map,List.length_reverse];omega),map_append]
 refine⟨(O.take a).reverse++O.drop a,some (.d (iN a)),?_,?_⟩
 .have:=((O.take a).reverse_perm).append_right (O.drop a)
  rw[List.take_append_drop]at this
  exact this
 .unfold Dd Mb
  simp only[Pb,b1,b2,UH,b3,kD,Ug,Uf,Aa,Ia,Qa,Ta,La,Cb,Ja,Res.bind_ok,a1,c1,m1',Xa,Va,set_cons_zero,set_cons_succ,pa,e1,e2,Tl,Xg,e3,e4]
  rfl
theorem NR(ns:List Int)(n:Nat)(hn:0<n)(hn2:n<=14):∃ O:List Nat,O.Perm (range n)/\Ha 2 Jb [.lst (ns.map D.int),iN n]=.ok (iL O):=by
 have r1:Aj [iN n]=.ok ((range n).map iN):=by rw[<-No];exact Az n (by omega)
 obtain⟨δ,e,O,y3,y4,pO,rfl⟩:=Hj (t:=Nb 3) (body:=Dd) (λi δ=>∃ O y3 y4,O.Perm (range n)/\δ=AR (.lst (ns.map D.int)) n O y3 y4) ((range n).map iN) (AR (.lst (ns.map D.int)) n (range n) none none) (λi d δ hd ⟨O,y3,y4,pO,e⟩=>by
  subst e
  rw[getElem?_map]at hd
  obtain⟨k,hk,rfl⟩:=map_eq_some_iff.mp hd
  have lO:=pO.length_eq
  rw[length_range]at lO
  obtain⟨O',z4,p',t⟩:=YZ ns n hn (by omega) O (by omega) k (mem_range.mp (mem_of_getElem? hk)) y4
  exact⟨_,rfl,_,.inl t,O',_,_,p'.trans pO,rfl⟩) ⟨range n,none,none,Perm.refl _,rfl⟩
 refine⟨O,pO,Hb _ _ _ _ ?_ rfl⟩
 have l1:OE [iN n]=.ok ((range n).map iN):=by
  rw[<-No]
  show(if 0<=(n:Int)/\(n:Int)<=1000 then Res.ok (Dk 0 ((n:Int).toNat)) else .stuck)=_
  rw[if_pos (by omega),toNat_natCast]
 have s1:Pb 2 (Uf (b1 OE (Aa (Ga 1) Ia))) (Sa 5 [.lst (ns.map D.int),iN n])=.nx (AR (.lst (ns.map D.int)) n (range n) none none):=by
  simp only[Sa,map_cons,map_nil,List.length_cons,length_nil,cons_append,nil_append,reduceAdd,reduceSub,replicate,Pb,Uf,b1,Aa,Ia,La,Cb,Ja,Res.bind_ok,l1,Xa,set_cons_zero,set_cons_succ]
  rfl
 have s2:Ue (Nb 3) Dd (b1 Aj (Aa (Ga 1) Ia)) (AR (.lst (ns.map D.int)) n (range n) none none)=.nx (AR (.lst (ns.map D.int)) n O y3 y4):=by
  simp only[Ue,b1,Aa,Ia,La,Cb,Ja,Res.bind_ok,r1,Xa]
  exact e
 unfold Jb Kk Mb
 rw[Kb,s1,Va,s2,Va]
 rfl
abbrev dd(L:List (Option Nat))(k:Nat):List Nat:=ds (Ef L) L.length k
def Vb(X Q:Str)(L:List (Option Nat))(O:List Nat)(W:Nat->Bool)(ru:D):Tw:=⟨nm X Q,L.length,(O.filter W).map (52+ ·),O.map (26+ ·),λi=>if i<52 then(if W (i-26)=true then [i+26,i-26] else dd L (i-26)) else(dd L (i-52)).tail,λi=>dd L (i-26),ru⟩
theorem WM{E:Nat->Option Nat}(hE:Fo E){n k:Nat}(hk:k<n):ds E n k=k::(ds E n k).tail:=by
 have up:=XM (E:=E) (n:=n) (k:=k)
 have hs:=Jr hE hk
 have ge:∀ j∈ds E n k,k<=j:=λj hj=>CV hE hj
 generalize ds E n k=l at*
 cases l with
 |nil=>cases hs
 |cons a l=>
  have h1:=ge a mem_cons_self
  rcases mem_cons.mp hs with e|h
  .rw[e];rfl
  .have:=(pairwise_cons.mp up).1 k h
   omega
theorem Pw{L:List (Option Nat)}(hl:L.length<=14)(k:Nat):(dd L k).length<=14:=by
 have:=length_filter_le (λj=>decide (k∈an (Ef L) j)) (range L.length)
 rw[length_range]at this
 unfold dd ds
 omega
section
variable {X Q:Str}{L:List (Option Nat)}{O:List Nat}{W:Nat->Bool}{ru:D}(g:GE L)(hl:L.length<=14)(pO:O.Perm (range L.length))
include g hl pO
theorem Ql{k:Nat}(h:k∈O):k<L.length:=mem_range.mp (pO.mem_iff.mp h)
theorem Qr{k:Nat}(h:k<L.length):(Vb X Q L O W ru).mem (26+k)=if W k=true then [52+k,k] else dd L k:=by
 show(if 26+k<52 then(if W (26+k-26)=true then [26+k+26,26+k-26] else dd L (26+k-26)) else _)=_
 rw[if_pos (by omega),show 26+k-26=k by omega,show 26+k+26=52+k by omega]
theorem Rr(k:Nat):(Vb X Q L O W ru).mem (52+k)=(dd L k).tail:=by
 show(if 52+k<52 then(if W (52+k-26)=true then [52+k+26,52+k-26] else dd L (52+k-26)) else(dd L (52+k-52)).tail)=_
 rw[if_neg (by omega),show 52+k-52=k by omega]
theorem Dg(k:Nat):(Vb X Q L O W ru).own (26+k)=dd L k:=by
 show dd L (26+k-26)=_
 rw[show 26+k-26=k by omega]
theorem RD:(Vb X Q L O W ru).Ok:=by
 have hE:=g.fo
 have ki:∀ i∈(Vb X Q L O W ru).ids,(∃ k,k∈O/\W k=true/\i=52+k)\/∃ k,k∈O/\i=26+k:=λi hi=>by
  rcases mem_append.mp hi with z|z
  .obtain⟨k,hk,rfl⟩:=mem_map.mp z
   have:=mem_filter.mp hk
   exact .inl ⟨k,this.1,this.2,rfl⟩
  .obtain⟨k,hk,rfl⟩:=mem_map.mp z
   exact .inr ⟨k,hk,rfl⟩
 have km:∀ k∈(Vb X Q L O W ru).ks,∃ j,j∈O/\k=26+j:=λk hk=>by
  obtain⟨j,hj,rfl⟩:=mem_map.mp hk;exact⟨j,hj,rfl⟩
 have lt:=λ{k:Nat} (h:k∈O)=>Ql g hl pO h
 have ddl:∀ k,∀ j∈dd L k,j<L.length:=λk j hj=>(Hg.mp hj).1
 have tl:∀ k,∀ j∈(dd L k).tail,j∈dd L k:=λk j hj=>List.mem_of_mem_tail hj
 have nO:O.Nodup:=pO.nodup_iff.mpr List.nodup_range
 refine⟨λa b ha hb e=>ZQ (by omega) (by omega) e,λi hi=>?_,?_,λi hi=>?_,by show L.length<=31;omega,?_,λk hk=>?_,λk hk j hj R h1 h2=>?_,λk hk=>?_⟩
 .show L.length<=i/\_
  rcases ki i hi with⟨k,hk,_,rfl⟩|⟨k,hk,rfl⟩<;> · have:=lt hk;omega
 .show((O.filter W).map (52+ ·)++O.map (26+ ·)).Nodup
  refine nodup_append.mpr ⟨Pairwise.map _ (λa b h=>by omega) (nO.filter _),Pairwise.map _ (λa b h=>by omega) nO,λa ha b hb e=>?_⟩
  obtain⟨k,hk,rfl⟩:=mem_map.mp ha
  obtain⟨j,hj,rfl⟩:=mem_map.mp hb
  have:=lt hj
  omega
 .rcases ki i hi with⟨k,hk,hw,rfl⟩|⟨k,hk,rfl⟩
  .rw[Rr g hl pO]
   have:=Pw hl k
   exact⟨by rw[List.length_tail];omega,λa ha=>by have:=ddl k a (tl k a ha);omega⟩
  .have hk':=lt hk
   rw[Qr g hl pO hk']
   by_cases w:W k=true
   .rw[if_pos w]
    exact⟨by simp,λa ha=>by
     rcases mem_cons.mp ha with rfl|ha
     .omega
     .rw[mem_singleton.mp ha];omega⟩
   .rw[if_neg w]
    have:=Pw hl k
    exact⟨by omega,λa ha=>by have:=ddl k a ha;omega⟩
 .show((O.filter W).map (52+ ·)++O.map (26+ ·)).length<=100
  rw[length_append,length_map,length_map]
  have h1:=length_filter_le W O
  have h2:=pO.length_eq
  rw[length_range]at h2
  omega
 .obtain⟨q,hq,rfl⟩:=km k hk
  have hq':=lt hq
  refine⟨λi=>i=26+q\/i=52+q\/(i<L.length/\i∈dd L q),.inl rfl,λi hi h a ha=>?_,λj hj h=>?_⟩
  .rcases h with rfl|rfl|h
   .rw[Qr g hl pO hq']at ha
    by_cases w:W q=true
    .rw[if_pos w]at ha
     rcases mem_cons.mp ha with rfl|ha
     .exact .inr (.inl rfl)
     .rw[mem_singleton.mp ha];exact .inr (.inr ⟨hq',Jr hE hq'⟩)
    .rw[if_neg w]at ha
     exact .inr (.inr ⟨ddl q a ha,ha⟩)
   .rw[Rr g hl pO]at ha
    exact .inr (.inr ⟨ddl q a (tl q a ha),tl q a ha⟩)
   .rcases ki i hi with⟨k,_,_,rfl⟩|⟨k,_,rfl⟩<;>omega
  .rw[Dg g hl pO]
   have hj':j<L.length:=hj
   rcases h with rfl|rfl|h
   .omega
   .omega
   .exact h.2
 .obtain⟨q,hq,rfl⟩:=km k hk
  have hq':=lt hq
  rw[Dg g hl pO]at hj
  have c1:=h2 (26+q) (mem_append_right _ hk) h1
  rw[Qr g hl pO hq']at c1
  by_cases w:W q=true
  .rw[if_pos w]at c1
   rw[show dd L q=q::(dd L q).tail from WM hE hq']at hj
   rcases mem_cons.mp hj with rfl|hj
   .exact c1 _ (by simp)
   .have c2:=h2 (52+q) (mem_append_left _ (mem_map.mpr ⟨q,mem_filter.mpr ⟨hq,w⟩,rfl⟩)) (c1 _ mem_cons_self)
    exact c2 j (by rw[Rr g hl pO];exact hj)
  .rw[if_neg w]at c1
   exact c1 j hj
 .obtain⟨q,hq,rfl⟩:=km k hk
  rw[Dg g hl pO]
  exact⟨XM,ddl q⟩
theorem QD{i:Nat}(h:i<(Vb X Q L O W ru).ks.length):∃ k,O[i]? =some k/\(Vb X Q L O W ru).kk i=26+k:=by
 have h':i<O.length:=by
  have:(Vb X Q L O W ru).ks.length=O.length:=length_map ..
  omega
 refine⟨O[i],getElem?_eq_getElem h',?_⟩
 show(O.map (26+ ·)).getD i 0=_
 rw[List.getD_eq_getElem?_getD,getElem?_map,getElem?_eq_getElem h'];rfl
theorem PD(i j:Nat)(h:i<j)(hj:j<(Vb X Q L O W ru).ks.length):(Vb X Q L O W ru).cr i j=false:=by
 have hE:=g.fo
 obtain⟨a,a1,a2⟩:=QD g hl pO (show i<(Vb X Q L O W ru).ks.length by omega)
 obtain⟨b,b1,b2⟩:=QD g hl pO hj
 unfold Tw.cr
 rw[a2,b2,Dg g hl pO,Dg g hl pO]
 refine HP hE (Ql g hl pO (mem_of_getElem? a1)) (Ql g hl pO (mem_of_getElem? b1)) λe=>?_
 have nO:O.Nodup:=pO.nodup_iff.mpr List.nodup_range
 rw[<-e]at b1
 obtain⟨i1,e1⟩:=List.getElem?_eq_some_iff.mp a1
 obtain⟨i2,e2⟩:=List.getElem?_eq_some_iff.mp b1
 have:=(List.getElem_inj (h₀:=i1) (h₁:=i2) nO).mp (e1.trans e2.symm)
 omega
theorem Ny{k:Nat}(hk:k<L.length):(Vb X Q L O W ru).abv (26+k)=(O.filter λj=> !decide (j=k)&&decide (j∈an (Ef L) k)).map (26+ ·):=by
 have hE:=g.fo
 unfold Tw.abv
 show((O.map (26+ ·)).filter _)=_
 rw[List.filter_map]
 congr 1
 refine List.filter_congr λj hj=>?_
 show(!decide (26+j=26+k)&&Et ((Vb X Q L O W ru).own (26+k)) ((Vb X Q L O W ru).own (26+j)))=_
 rw[Dg g hl pO,Dg g hl pO,Qw hE hk]
 congr 2
 rw[decide_eq_decide]
 omega
end
theorem OJ{a0 a1 a2 a3 a4 a5 a6:Option S}{xs:List D}:Vw 7 [a0,a1,a2,a3,a4,a5,a6,some (.o xs)]= [a0,a1,a2,a3,a4,a5,a6,some (.d (.lst xs))]:=rfl
abbrev Cp(sc:D)(L:List (Option Nat))(ru:D)(A B C:List D)(x6 x7:Option S):Ba:= [some (.d sc),some (.d (.lst (L.map eo))),some (.d ru),some (.o A),some (.o B),some (.o C),x6,x7]
section
variable {X Q:Str}{L:List (Option Nat)}{O:List Nat}{ru:D}(g:GE L)(hl:L.length<=14)(pO:O.Perm (range L.length))(ns:List Int)(hN:∀ k:Nat,k<600->Ha 2 Pa [.lst (ns.map D.int),.int (k:Int)]=.ok (.str (nm X Q k)))
noncomputable def wW(ns:List Int)(L:List (Option Nat))(k:Nat):Bool:=decide (1<(dd L k).length)&&decide (Pn ns (30+k)%2=0)
abbrev Nj(X Q:Str)(L:List (Option Nat)):List D:=(range L.length).map λj=>D.str (nm X Q j)
include g hl pO hN
theorem QZ{k:Nat}(hk:k∈O)(B C:List D)(hB:B.length<=100)(hC:C.length<=100)(x7:Option S):∃ y7,Cd (Cp (.lst (ns.map D.int)) L ru (Nj X Q L) B C (some (.d (iN k))) x7)=
  .nx (Cp (.lst (ns.map D.int)) L ru (Nj X Q L) (B++if wW ns L k=true then [(Vb X Q L O (wW ns L) ru).ent (52+k)] else []) (C++ [(Vb X Q L O (wW ns L) ru).ent (26+k)]) (some (.d (iN k))) y7):=by
 have hE:=g.fo
 have hk':=Ql g hl pO hk
 have bn:=WU g hl hk'
 have hd:dd L k=k::(dd L k).tail:=WM hE hk'
 have ddl:=Pw hl k
 have sq:Ve (iL (dd L k))=.ok ((dd L k).map iN):=rfl
 have cm:∀ δ:Ba,Yf 1 (Nb 0) (λ_=>.ok true) Bd (some (.d (.lst (ns.map D.int)))::some (.d (.lst (L.map eo)))::some (.d ru)::some (.o (Nj X Q L))::δ) ((dd L k).map iN)=.ok ((dd L k).map λj=>D.str (nm X Q j)):=λδ=>by
  refine Re ?_ (by rw[length_map];omega)
  have:=Of (gc:=λ_=>.ok true) (fe:=Bd) (λ_=>true) iN (λj=>D.str (nm X Q j)) (some (.d (.lst (ns.map D.int)))::some (.d (.lst (L.map eo)))::some (.d ru)::some (.o (Nj X Q L))::δ) (dd L k) none (λj hj=>⟨rfl,λ_=>by
   have hj':=(Hg.mp hj).1
   have ix:Wm (.lst (Nj X Q L)) (iN j)=.ok (.str (nm X Q j)):=by
    refine Ao _ _ _ (Ik (by omega) ?_)
    rw[toNat_natCast,getElem?_map,List.getElem?_range hj'];rfl
   unfold Bd
   simp only[b2,Qa,Rb,Ta,Res.bind_ok,ix]⟩)
  rw[Ze]at this
  exact this
 have c30:Ha 2 Oa [.lst (ns.map D.int),.int (30+(k:Int))]=.ok (.int (Pn ns (30+k))):=by
  have:=Qn ns (30+k) (by omega)
  rw[<-this];congr 3
 have m2:=Ak (Pn ns (30+k)) 2 (by decide)
 have n26:Ha 2 Pa [.lst (ns.map D.int),.int (26+(k:Int))]=.ok (.str (nm X Q (26+k))):=by
  have:=hN (26+k) (by omega)
  rw[<-this];congr 3
 have n52:Ha 2 Pa [.lst (ns.map D.int),.int (52+(k:Int))]=.ok (.str (nm X Q (52+k))):=by
  have:=hN (52+k) (by omega)
  rw[<-this];congr 3
 have a26:Bc (.int 26) (iN k)=.ok (.int (26+(k:Int))):=Wb _ _
 have a30:Bc (.int 30) (iN k)=.ok (.int (30+(k:Int))):=Wb _ _
 have a52:Bc (.int 52) (iN k)=.ok (.int (52+(k:Int))):=Wb _ _
 have s1:Yd 7 (Rc 1 (Nb 0) (λ_=>.ok true) Bd (b1 Ve (b1 (Ha 2 Fc) (Aa (Ga 1) (Aa (Ga 6) Ia))))) (Cp (.lst (ns.map D.int)) L ru (Nj X Q L) B C (some (.d (iN k))) x7)=.nx (Cp (.lst (ns.map D.int)) L ru (Nj X Q L) B C (some (.d (iN k))) (some (.o ((dd L k).map λj=>D.str (nm X Q j))))):=by
  simp only[Yd,Rc,b1,Aa,Ia,La,Cb,Ja,Res.bind_ok,bn,sq,cm,Xa,set_cons_zero,set_cons_succ]
 have len:Pf (.lst ((dd L k).map λj=>D.str (nm X Q j)))=.ok (.int ((dd L k).length:Int)):=by rw[Wc,length_map]
 have ap5:∀ B' (d:D) x7,Yq 5 (Cp (.lst (ns.map D.int)) L ru (Nj X Q L) B' C (some (.d (iN k))) x7) (.ok d)=.nx (Cp (.lst (ns.map D.int)) L ru (Nj X Q L) B' (C++ [d]) (some (.d (iN k))) x7):=λB' d x7=>Hk 5 _ C d rfl (by omega)
 have ap4:∀ (d:D) x7,Yq 4 (Cp (.lst (ns.map D.int)) L ru (Nj X Q L) B C (some (.d (iN k))) x7) (.ok d)=.nx (Cp (.lst (ns.map D.int)) L ru (Nj X Q L) (B++ [d]) C (some (.d (iN k))) x7):=λd x7=>Hk 4 _ B d rfl (by omega)
 have fin:∀ (B':List D) (T:List Nat),T=(Vb X Q L O (wW ns L) ru).mem (26+k)->Al 7 (Ng 5 (b1 Rg (Aa (b1 (Ha 2 Pa) (Aa (Ga 0) (Aa (b2 Bc (kD (.int 26)) (Fa 6)) Ia))) (Aa (Ga 7) Ia)))) (Cp (.lst (ns.map D.int)) L ru (Nj X Q L) B' C (some (.d (iN k))) (some (.o (T.map λj=>D.str (nm X Q j)))))=
   .nx (Cp (.lst (ns.map D.int)) L ru (Nj X Q L) B' (C++ [(Vb X Q L O (wW ns L) ru).ent (26+k)]) (some (.d (iN k))) (some (.d (.lst (T.map λj=>D.str (nm X Q j)))))):=λB' T hT=>by
  have:=ap5 B' (.tup [.str (nm X Q (26+k)),.lst (T.map λj=>D.str (nm X Q j))]) (some (.d (.lst (T.map λj=>D.str (nm X Q j)))))
  unfold Al
  rw[OJ]
  simp only[Ng,b1,b2,kD,Aa,Ia,La,Cb,Qa,Ta,Ja,Res.bind_ok,a26,n26,Rg,List.length_cons,length_nil,reduceAdd,reduceLeDiff,if_true,reduceIte]
  rw[this,hT];rfl
 have gt:SJ (.int ((dd L k).length:Int)) (.int 1)=.ok (.bl (decide (((dd L k).length:Int)>1))):=Ui _ _
 have eq2:CC (.int (Pn ns (30+k)%2)) (.int 0)=.ok (.bl (Pn ns (30+k)%2==0)):=Ol _ _
 have test:Ii (tR (b2 SJ (b1 Pf (Fa 7)) (kD (.int 1)))) (tR (b2 CC (b2 Rf (b1 (Ha 2 Oa) (Aa (Ga 0) (Aa (b2 Bc (kD (.int 30)) (Fa 6)) Ia))) (kD (.int 2))) (kD (.int 0)))) (Cp (.lst (ns.map D.int)) L ru (Nj X Q L) B C (some (.d (iN k))) (some (.o ((dd L k).map λj=>D.str (nm X Q j)))))=.ok (wW ns L k):=by
  simp only[Ii,tR,b1,b2,kD,Aa,Ia,La,Qa,Rb,Ta,Ja,Res.bind_ok,len,gt,Db,a30,c30,m2,eq2,Th]
  unfold wW
  by_cases z:1<(dd L k).length
  .rw[decide_eq_true (show((dd L k).length:Int)>1 by omega),decide_eq_true z,if_pos rfl,Bool.true_and]
   congr 1
  .rw[decide_eq_false (show ¬ ((dd L k).length:Int)>1 by omega),decide_eq_false z];rfl
 have mk:=Qr (X:=X) (Q:=Q) (O:=O) (W:=wW ns L) (ru:=ru) g hl pO hk'
 have mw:=Rr (X:=X) (Q:=Q) (O:=O) (W:=wW ns L) (ru:=ru) g hl pO k
 unfold Cd Mb
 rw[s1,Va]
 unfold Zg
 rw[test,Tb]
 cases w:wW ns L k with
 |true=>
  rw[w,if_pos rfl]at mk
  refine⟨some (.d (.lst ([52+k,k].map λj=>D.str (nm X Q j)))),?_⟩
  have cut:Cw (.lst ((dd L k).map λj=>D.str (nm X Q j))) (some 1) none=.ok (((dd L k).tail).map λj=>D.str (nm X Q j)):=by
   rw[Fz,show(some (1:Int))=some ((1:Nat):Int) from rfl,Tn,<-List.map_drop,List.drop_one]
  have ix:Wm (.lst ((dd L k).map λj=>D.str (nm X Q j))) (.int 0)=.ok (.str (nm X Q k)):=by
   refine Ao _ _ _ (Ik (by omega) ?_)
   rw[hd];rfl
  have s2:Ng 4 (b1 Rg (Aa (b1 (Ha 2 Pa) (Aa (Ga 0) (Aa (b2 Bc (kD (.int 52)) (Fa 6)) Ia))) (Aa (Uf (b3 Cw (Fa 7) (b1 Wg (kD (.int 1))) Ug)) Ia))) (Cp (.lst (ns.map D.int)) L ru (Nj X Q L) B C (some (.d (iN k))) (some (.o ((dd L k).map λj=>D.str (nm X Q j)))))=.nx (Cp (.lst (ns.map D.int)) L ru (Nj X Q L) (B++ [(Vb X Q L O (wW ns L) ru).ent (52+k)]) C (some (.d (iN k))) (some (.o ((dd L k).map λj=>D.str (nm X Q j))))):=by
   have:=ap4 (.tup [.str (nm X Q (52+k)),.lst (((dd L k).tail).map λj=>D.str (nm X Q j))]) (some (.o ((dd L k).map λj=>D.str (nm X Q j))))
   simp only[Ng,b1,b2,b3,kD,Ug,Uf,Aa,Ia,La,Cb,Qa,Rb,Ta,Ja,Res.bind_ok,a52,n52,Xg,cut,Rg,List.length_cons,length_nil,reduceAdd,reduceLeDiff,if_true,reduceIte]
   rw[this,<-mw];try rfl
  have s3:∀ B',Yd 7 (b1 Xd (Aa (b1 (Ha 2 Pa) (Aa (Ga 0) (Aa (b2 Bc (kD (.int 52)) (Fa 6)) Ia))) (Aa (b2 Wm (Fa 7) (kD (.int 0))) Ia))) (Cp (.lst (ns.map D.int)) L ru (Nj X Q L) B' C (some (.d (iN k))) (some (.o ((dd L k).map λj=>D.str (nm X Q j)))))=.nx (Cp (.lst (ns.map D.int)) L ru (Nj X Q L) B' C (some (.d (iN k))) (some (.o ([52+k,k].map λj=>D.str (nm X Q j))))):=λB'=>by
   simp only[Yd,b1,b2,kD,Aa,Ia,La,Cb,Qa,Rb,Ta,Ja,Res.bind_ok,a52,n52,ix,Xd,List.length_cons,length_nil,reduceAdd,zero_le,reduceLeDiff,if_true,reduceIte,Xa,set_cons_zero,set_cons_succ]
   rfl
  rw[if_pos rfl]
  dsimp only
  rw[s2,Va,s3,Va,fin _ _ mk.symm,if_pos rfl]
 |false=>
  rw[w,if_neg Bool.false_ne_true]at mk
  refine⟨some (.d (.lst ((dd L k).map λj=>D.str (nm X Q j)))),?_⟩
  rw[if_neg Bool.false_ne_true,Va,fin _ _ mk.symm,if_neg Bool.false_ne_true,append_nil]
end
section
variable {X Q:Str}{L:List (Option Nat)}{O:List Nat}{ru:D}(g:GE L)(hl:L.length<=14)(pO:O.Perm (range L.length))(ns:List Int)(hN:∀ k:Nat,k<600->Ha 2 Pa [.lst (ns.map D.int),.int (k:Int)]=.ok (.str (nm X Q k)))(hO:Ha 2 Jb [.lst (ns.map D.int),iN L.length]=.ok (iL O))
include g hl pO hN hO
theorem NV:Ha 3 Sc [.lst (ns.map D.int),.lst (L.map eo),ru]=.ok (Vb X Q L O (wW ns L) ru).hsD:=by
 have lL:(L.map eo).length=L.length:=length_map ..
 have lO:O.length=L.length:=by have:=pO.length_eq;rwa [length_range]at this
 have r1:Aj [.int (L.length:Int)]=.ok ((range L.length).map iN):=by rw[<-No];exact Az L.length (by omega)
 have cm:∀ δ:Ba,Yf 1 (Nb 0) (λ_=>.ok true) Ad (some (.d (.lst (ns.map D.int)))::δ) ((range L.length).map iN)=.ok (Nj X Q L):=λδ=>by
  refine Re ?_ (by rw[length_map,length_range];omega)
  have:=Of (gc:=λ_=>.ok true) (fe:=Ad) (λ_=>true) iN (λj=>D.str (nm X Q j)) (some (.d (.lst (ns.map D.int)))::δ) (range L.length) none (λj hj=>⟨rfl,λ_=>by
   have e:Ha 2 Pa [.lst (ns.map D.int),iN j]=.ok (.str (nm X Q j)):=hN j (by have:=mem_range.mp hj;omega)
   unfold Ad
   simp only[b1,Aa,Ia,La,Cb,Ja,Res.bind_ok,e]⟩)
  rw[Ze]at this
  exact this
 obtain⟨δ,e,y6,y7,rfl⟩:=Hj (t:=Nb 6) (body:=Cd) (λi δ=>∃ y6 y7,δ=Cp (.lst (ns.map D.int)) L ru (Nj X Q L) (((O.take i).filter (wW ns L)).map λk=>(Vb X Q L O (wW ns L) ru).ent (52+k)) ((O.take i).map λk=>(Vb X Q L O (wW ns L) ru).ent (26+k)) y6 y7) (O.map iN) (Cp (.lst (ns.map D.int)) L ru (Nj X Q L) [] [] none none) (λi d δ hd ⟨y6,y7,e⟩=>by
  subst e
  rw[getElem?_map]at hd
  obtain⟨k,hk,rfl⟩:=map_eq_some_iff.mp hd
  have hi:=(List.getElem?_eq_some_iff.mp hk).1
  have hkO:=mem_of_getElem? hk
  have l1:(O.take i).length<=14:=by rw[length_take];omega
  have l2:=length_filter_le (wW ns L) (O.take i)
  obtain⟨z7,t⟩:=QZ (ru:=ru) g hl pO ns hN hkO (((O.take i).filter (wW ns L)).map λk=>(Vb X Q L O (wW ns L) ru).ent (52+k)) ((O.take i).map λk=>(Vb X Q L O (wW ns L) ru).ent (26+k)) (by rw[length_map];omega) (by rw[length_map];omega) y7
  refine⟨_,rfl,_,.inl t,some (.d (iN k)),z7,?_⟩
  have tk:O.take (i+1)=O.take i++ [k]:=by rw[List.take_add_one,hk];rfl
  rw[tk,List.filter_append,map_append,map_append]
  cases w:wW ns L k with
  |true=>rw[if_pos rfl,filter_cons_of_pos w];rfl
  |false=>rw[if_neg Bool.false_ne_true,filter_cons_of_neg (by rw[w];exact Bool.false_ne_true)];rfl) ⟨none,none,rfl⟩
 rw[length_map,take_of_length_le (le_refl _)]at e
 have sq:Ve (iL O)=.ok (O.map iN):=rfl
 have hO':Ha 2 Jb [.lst (ns.map D.int),.int (L.length:Int)]=.ok (iL O):=hO
 generalize hH:Vb X Q L O (wW ns L) ru=H at e ⊢
 have ent:(Mx∘λk=>(H.N k,(H.mem k).map H.N))=H.ent:=by
  funext k
  show D.tup [.str (H.N k),.lst (((H.mem k).map H.N).map D.str)]=D.tup [.str (H.N k),.lst ((H.mem k).map λk=>D.str (H.N k))]
  rw[map_map];rfl
 have wiE:H.wi.map H.ent=((O.filter (wW ns L)).map λk=>H.ent (52+k)):=by rw[<-hH];show((O.filter (wW ns L)).map (52+ ·)).map _=_;rw[map_map];rfl
 have ksE:H.ks.map H.ent=(O.map λk=>H.ent (26+k)):=by rw[<-hH];show(O.map (26+ ·)).map _=_;rw[map_map];rfl
 have lw:H.wi.length<=14:=by
  have h1:=length_filter_le (wW ns L) O
  rw[<-hH];show((O.filter (wW ns L)).map (52+ ·)).length<=14;rw[length_map];omega
 have lk:H.ks.length<=14:=by rw[<-hH];show(O.map (26+ ·)).length<=14;rw[length_map];omega
 have mk:Ha 4 (Iq 4 "House" Kg) [ru,.lst (Nj X Q L),.lst ((O.filter (wW ns L)).map λk=>H.ent (52+k)),.lst (O.map λk=>H.ent (26+k))]=.ok H.hsD:=by
  have:=CK ru (Nj X Q L) (H.wi.map λk=>(H.N k,(H.mem k).map H.N)) (H.ks.map λk=>(H.N k,(H.mem k).map H.N)) (by rw[length_map];omega) (by rw[length_map];omega)
  rw[map_map,map_map,ent,wiE,ksE]at this
  rw[this]
  have e1:H.ru=ru:=by rw[<-hH];rfl
  have e2:H.dr=.lst (Nj X Q L):=by rw[<-hH];rfl
  unfold Tw.hsD Tw.wgD Tw.grD
  rw[e1,e2,wiE,ksE]
 refine Hb _ _ _ _ ?_ rfl
 have s1:Yd 3 (Rc 1 (Nb 0) (λ_=>.ok true) Ad (b1 Aj (Aa (b1 Pf (Fa 1)) Ia))) (Sa 8 [.lst (ns.map D.int),.lst (L.map eo),ru])=.nx [some (.d (.lst (ns.map D.int))),some (.d (.lst (L.map eo))),some (.d ru),some (.o (Nj X Q L)),none,none,none,none]:=by
  simp only[Sa,map_cons,map_nil,List.length_cons,length_nil,cons_append,nil_append,reduceAdd,reduceSub,replicate,Yd,Rc,b1,Aa,Ia,Qa,Ta,Ja,Res.bind_ok,Wc,lL,r1,cm,Xa,set_cons_zero,set_cons_succ]
 have s2:Ue (Nb 6) Cd (b1 Ve (b1 (Ha 2 Jb) (Aa (Ga 0) (Aa (b1 Pf (Fa 1)) Ia)))) (Cp (.lst (ns.map D.int)) L ru (Nj X Q L) [] [] none none)=.nx (Cp (.lst (ns.map D.int)) L ru (Nj X Q L) ((O.filter (wW ns L)).map λk=>H.ent (52+k)) (O.map λk=>H.ent (26+k)) y6 y7):=by
  simp only[Ue,b1,Aa,Ia,La,Qa,Ta,Ja,Res.bind_ok,Wc,lL,hO',sq,Xa]
  exact e
 unfold Sc Jk Mb
 rw[Kb,s1,Va]
 have s3:Yd 4 (b1 Xd Ia) [some (.d (.lst (ns.map D.int))),some (.d (.lst (L.map eo))),some (.d ru),some (.o (Nj X Q L)),none,none,none,none]=.nx [some (.d (.lst (ns.map D.int))),some (.d (.lst (L.map eo))),some (.d ru),some (.o (Nj X Q L)),some (.o []),none,none,none]:=by
  simp only[Yd,b1,Ia,Xd,Res.bind_ok,length_nil,zero_le,if_true,reduceIte,Xa,set_cons_zero,set_cons_succ]
 have s4:Yd 5 (b1 Xd Ia) [some (.d (.lst (ns.map D.int))),some (.d (.lst (L.map eo))),some (.d ru),some (.o (Nj X Q L)),some (.o []),none,none,none]=.nx (Cp (.lst (ns.map D.int)) L ru (Nj X Q L) [] [] none none):=by
  simp only[Yd,b1,Ia,Xd,Res.bind_ok,length_nil,zero_le,if_true,reduceIte,Xa,set_cons_zero,set_cons_succ]
 rw[s3,Va,s4,Va,s2,Va]
 have fz:Vw 3 (Vw 5 (Vw 4 (Cp (.lst (ns.map D.int)) L ru (Nj X Q L) ((O.filter (wW ns L)).map λk=>H.ent (52+k)) (O.map λk=>H.ent (26+k)) y6 y7)))= [some (.d (.lst (ns.map D.int))),some (.d (.lst (L.map eo))),some (.d ru),some (.d (.lst (Nj X Q L))),some (.d (.lst ((O.filter (wW ns L)).map λk=>H.ent (52+k)))),some (.d (.lst (O.map λk=>H.ent (26+k)))),y6,y7]:=rfl
 unfold Al
 rw[fz]
 simp only[Ub,b1,Aa,Ia,La,Cb,Ja,Res.bind_ok,mk,Xa,Qb]
end
section
variable {E:Nat->Option Nat}(hE:Fo E)
include hE
theorem PH(k:Nat):an E k=k::(an E k).tail:=by
 cases e:E k with
 |none=>rw[Ag hE e];rfl
 |some p=>rw[Oe hE e];rfl
theorem RN{n k:Nat}(hk:k<n):((range n).filter λj=> !decide (j=k)&&decide (j∈an E k)).length=(an E k).length-1:=by
 have dn:=SM hE k k (le_refl _)
 have c:=PH hE k
 have le:∀ a∈an E k,a<=k:=λa ha=>Gk hE k k a (le_refl _) ha
 generalize an E k=l at*
 rw[c]at dn
 obtain⟨d1,d2⟩:=pairwise_cons.mp dn
 have e:((range n).filter λj=> !decide (j=k)&&decide (j∈l))=l.tail.reverse:=SG _ _ (Pairwise.filter _ List.pairwise_lt_range) (List.pairwise_reverse.mpr d2) λj=>by
  rw[mem_filter,mem_range,List.mem_reverse,and_eq_true,decide_eq_true_eq,Bool.not_eq_true',decide_eq_false_iff_not]
  constructor
  .rintro⟨_,h2,h3⟩
   rw[c]at h3
   exact(mem_cons.mp h3).resolve_left h2
  .intro h
   have h3:j∈l:=by rw[c];exact mem_cons_of_mem _ h
   have:=d1 j h
   exact⟨by omega,by omega,h3⟩
 rw[e,List.length_reverse,List.length_tail]
theorem SN{j p:Nat}(h:E j=some p):(an E j).length-1=(an E p).length-1+1:=by
 have:0<(an E p).length:=List.length_pos_of_mem (Fj hE p)
 rw[Oe hE h,List.length_cons];omega
end
section
variable {X Q:Str}{L:List (Option Nat)}{O:List Nat}{W:Nat->Bool}{ru:D}(g:GE L)(hl:L.length<=14)(pO:O.Perm (range L.length))
include g hl pO
theorem Py{k:Nat}(hk:k<L.length):((Vb X Q L O W ru).abv (26+k)).length=(an (Ef L) k).length-1:=by
 rw[Ny g hl pO hk,length_map,(pO.filter _).length_eq,RN g.fo hk]
theorem Oy{k:Nat}(hk:k<L.length):k∈O:=pO.mem_iff.mpr (mem_range.mpr hk)
theorem TJ{k:Nat}(hk:k<L.length):26+k∈(Vb X Q L O W ru).ks:=mem_map.mpr ⟨k,Oy g hl pO hk,rfl⟩
theorem AQ{k:Nat}(hk:k<L.length)(h:Ef L k=none):(Vb X Q L O W ru).abv (26+k)= []:=by
 refine List.eq_nil_of_length_eq_zero ?_
 rw[Py g hl pO hk,Ag g.fo h];rfl
theorem BQ{k p:Nat}(hk:k<L.length)(h:Ef L k=some p):26+p∈(Vb X Q L O W ru).abv (26+k)/\∀ j∈(Vb X Q L O W ru).abv (26+k),j≠26+p->((Vb X Q L O W ru).own (26+p)).length<((Vb X Q L O W ru).own j).length:=by
 have hE:=g.fo
 have hp:=hE k p h
 rw[Ny g hl pO hk]
 refine⟨mem_map.mpr ⟨p,mem_filter.mpr ⟨Oy g hl pO (by omega),?_⟩,rfl⟩,λj hj ne=>?_⟩
 .rw[decide_eq_false (by omega),decide_eq_true (show p∈an (Ef L) k by rw[Oe hE h];exact mem_cons_of_mem _ (Fj hE p))];rfl
 .obtain⟨a,ha,rfl⟩:=mem_map.mp hj
  obtain⟨a1,a2⟩:=mem_filter.mp ha
  rw[and_eq_true,decide_eq_true_eq,Bool.not_eq_true',decide_eq_false_iff_not]at a2
  have a3:=a2.2
  rw[Oe hE h]at a3
  have a4:=(mem_cons.mp a3).resolve_left a2.1
  rw[Dg g hl pO,Dg g hl pO]
  exact EV hE (by omega) (Ql g hl pO a1) a4 (by omega)
end
abbrev Xi(sc:D)(L:List (Option Nat))(d:Int)(ru h:D)(lv:List D)(x6 x7 x8 x9 x10 x11 x12:Option S):Ba:= [some (.d sc),some (.d (.lst (L.map eo))),some (.d (.int d)),some (.d ru),some (.d h),some (.o lv),x6,x7,x8,x9,x10,x11,x12]
abbrev lvN(L:List (Option Nat))(k:Nat):Nat:=(an (Ef L) k).length-1
theorem YM(L:List (Option Nat)):Qi [.lst (L.map eo)]=.ok ((range L.length).map λ(j:Nat)=>D.tup [.int (j:Int),eo (Ef L j)]):=by
 rw[Ty eo none L]
 exact Xt (λj=>eo (Ef L j)) L.length
theorem BN(L:List (Option Nat)){n k:Nat}(h:k<n):Wm (.lst ((range n).map λk=>iN (lvN L k))) (iN k)=.ok (iN (lvN L k)):=by
 refine Ao _ _ _ (Ik (by omega) ?_)
 rw[toNat_natCast,getElem?_map,List.getElem?_range h];rfl
theorem TQ{L:List (Option Nat)}(g:GE L)(hl:L.length<=14)(sc:D)(d:Int)(ru h:D):∃ y6 y7,Ue (Xe 2 (Lb (Nb 6) (Lb (Nb 7) We))) Tk (b1 Qi (Aa (Ga 1) Ia)) (Xi sc L d ru h [] none none none none none none none)=.nx (Xi sc L d ru h ((range L.length).map λk=>iN (lvN L k)) y6 y7 none none none none none):=by
 have hE:=g.fo
 have en:=YM L
 obtain⟨δ,e,y6,y7,rfl⟩:=Hj (t:=Xe 2 (Lb (Nb 6) (Lb (Nb 7) We))) (body:=Tk) (λi δ=>∃ y6 y7,δ=Xi sc L d ru h ((range i).map λk=>iN (lvN L k)) y6 y7 none none none none none) ((range L.length).map λ(j:Nat)=>D.tup [.int (j:Int),eo (Ef L j)]) (Xi sc L d ru h [] none none none none none none none) (λi x δ hd ⟨y6,y7,e⟩=>by
  subst e
  rw[getElem?_map]at hd
  obtain⟨j,hj,rfl⟩:=map_eq_some_iff.mp hd
  have hi:i<L.length:=by have:=(List.getElem?_eq_some_iff.mp hj).1;rwa [length_range]at this
  rw[List.getElem?_range hi]at hj
  cases hj
  have ap:∀ (q:Option S) (z:D),Yq 5 (Xi sc L d ru h ((range i).map λk=>iN (lvN L k)) (some (.d (iN i))) q none none none none none) (.ok z)=.nx (Xi sc L d ru h ((range i).map (λk=>iN (lvN L k))++ [z]) (some (.d (iN i))) q none none none none none):=λq z=>Hk 5 _ _ z rfl (by rw[length_map,length_range];omega)
  refine⟨Xi sc L d ru h ((range i).map λk=>iN (lvN L k)) (some (.d (iN i))) (some (.d (eo (Ef L i)))) none none none none none,rfl,Xi sc L d ru h ((range (i+1)).map λk=>iN (lvN L k)) (some (.d (iN i))) (some (.d (eo (Ef L i)))) none none none none none,.inl ?_,_,_,rfl⟩
  rw[List.range_succ,map_append]
  cases e:Ef L i with
  |none=>
   have lv:lvN L i=0:=by unfold lvN;rw[Ag hE e];rfl
   have:=ap (some (.d .non)) (.int 0)
   unfold Tk
   have nn:Oj (eo none)=.ok (.bl true):=rfl
   simp only[Zg,tR,b1,Qa,Ta,Res.bind_ok,nn,Db,Tb,if_true,reduceIte,Ng,kD]
   refine this.trans ?_
   rw[map_cons,lv];rfl
  |some p=>
   have hp:=hE i p e
   have lv:lvN L i=lvN L p+1:=SN hE e
   have ix:=BN L hp
   have a1:Bc (iN (lvN L p)) (.int 1)=.ok (iN (lvN L p+1)):=Wb _ _
   have:=ap (some (.d (iN p))) (iN (lvN L p+1))
   unfold Tk
   have nn:Oj (eo (some p))=.ok (.bl false):=rfl
   have nn2:eo (some p)=iN p:=rfl
   simp only[Zg,tR,b1,Qa,Ta,Res.bind_ok,nn,Db,Tb,false_eq_true,if_false,reduceIte,Ng,kD,b2,Rb,nn2,ix,a1]
   refine this.trans ?_
   rw[map_cons,lv];rfl) ⟨none,none,rfl⟩
 rw[length_map,length_range]at e
 refine⟨y6,y7,?_⟩
 simp only[Ue,b1,Aa,Ia,La,Cb,Ja,Res.bind_ok,en,Xa]
 exact e
section
variable {X Q:Str}{L:List (Option Nat)}{O:List Nat}{W:Nat->Bool}{ru:D}(g:GE L)(hl:L.length<=14)(pO:O.Perm (range L.length))(ns:List Int)(hN:∀ k:Nat,k<600->Ha 2 Pa [.lst (ns.map D.int),.int (k:Int)]=.ok (.str (nm X Q k))){p d hh:Int}(hr:ru=.tup [.int p,.int d,.int hh,.int (d-1)])
include g hl pO hN hr
theorem VQ{k:Nat}(hk:k<L.length)(x8 x10 x11 x12:Option S):∃ y10 y11 y12,Uk (Xi (.lst (ns.map D.int)) L d ru (Vb X Q L O W ru).hsD ((range L.length).map λk=>iN (lvN L k)) (some (.d (iN k))) (some (.d (eo (Ef L k)))) x8 (some (.d (dK (Vb X Q L O W ru).leT))) x10 x11 x12)=
  .nx (Xi (.lst (ns.map D.int)) L d ru (Vb X Q L O W ru).hsD ((range L.length).map λk=>iN (lvN L k)) (some (.d (iN k))) (some (.d (eo (Ef L k)))) x8 (some (.d (dK (Vb X Q L O W ru).leT))) y10 y11 y12):=by
 have hE:=g.fo
 have ok:=RD (X:=X) (Q:=Q) (W:=W) (ru:=ru) g hl pO
 have cr:=PD (X:=X) (Q:=Q) (W:=W) (ru:=ru) g hl pO
 have inK:=TJ (X:=X) (Q:=Q) (W:=W) (ru:=ru) g hl pO hk
 have lev:=Py (X:=X) (Q:=Q) (W:=W) (ru:=ru) g hl pO hk
 have n26:∀ k,k<L.length->Ha 2 Pa [.lst (ns.map D.int),.int (26+(k:Int))]=.ok (.str (nm X Q (26+k))):=λk h=>by
  have:=hN (26+k) (by omega)
  rw[<-this];congr 3
 have a26:∀ k,Bc (.int 26) (iN k)=.ok (.int (26+(k:Int))):=λk=>Wb _ _
 have hru:(Vb X Q L O W ru).ru=.tup [.int p,.int d,.int hh,.int (d-1)]:=hr
 have eld:=ST (Vb X Q L O W ru) ok hru (by omega) cr inK ((Ef L k).map (26+ ·)) (λz=>by
  cases e:Ef L k with
  |none=>exact AQ g hl pO hk e
  |some q=>rw[e]at z;cases z) λa z=>by
  cases e:Ef L k with
  |none=>rw[e]at z;cases z
  |some q=>rw[e]at z;cases z;exact BQ g hl pO hk e
 have gt:De (Vb X Q L O W ru).leT (.str (nm X Q (26+k)))=.ok (iN (lvN L k)):=by
  have:=Yn (f:=(Vb X Q L O W ru).N) (g:=λk=>iN ((Vb X Q L O W ru).abv k).length) (Gi _ ok) inK
  rw[lev]at this
  exact this
 have ix:=BN L hk
 have ne1:Uj (iN (lvN L k)) (iN (lvN L k))=.ok (.bl false):=by
  have:Uj (iN (lvN L k)) (iN (lvN L k))=.ok (.bl (!(((lvN L k:Nat):Int)==((lvN L k:Nat):Int)))):=Eo _ _
  rw[this,beq_self_eq_true];rfl
 have ib:Tr "bool" (iN (lvN L k))=.ok (.bl false):=rfl
 have neS:∀ x:Str,Uj (.str x) (.str x)=.ok (.bl false):=λx=>by simp[Uj,Kc,Jg]
 have neN:Uj .non .non=.ok (.bl false):=by simp[Uj,Kc,Jg]
 have neB:∀ b:Bool,Uj (.bl b) (.bl b)=.ok (.bl false):=λb=>by simp[Uj,Kc,Jg]
 have q9:∀ (x10 x11 x12:Option S),Gc 9 (Xi (.lst (ns.map D.int)) L d ru (Vb X Q L O W ru).hsD ((range L.length).map λk=>iN (lvN L k)) (some (.d (iN k))) (some (.d (eo (Ef L k)))) x8 (some (.d (dK (Vb X Q L O W ru).leT))) x10 x11 x12)=.ok (Vb X Q L O W ru).leT:=λ_ _ _=>by
  unfold Xi;simp only[Iz,El]
 have s1:Pb 10 (b1 (Ha 2 Pa) (Aa (Ga 0) (Aa (b2 Bc (kD (.int 26)) (Fa 6)) Ia))) (Xi (.lst (ns.map D.int)) L d ru (Vb X Q L O W ru).hsD ((range L.length).map λk=>iN (lvN L k)) (some (.d (iN k))) (some (.d (eo (Ef L k)))) x8 (some (.d (dK (Vb X Q L O W ru).leT))) x10 x11 x12)=.nx (Xi (.lst (ns.map D.int)) L d ru (Vb X Q L O W ru).hsD ((range L.length).map λk=>iN (lvN L k)) (some (.d (iN k))) (some (.d (eo (Ef L k)))) x8 (some (.d (dK (Vb X Q L O W ru).leT))) (some (.d (.str (nm X Q (26+k))))) x11 x12):=by
  simp only[Pb,b1,b2,kD,Aa,Ia,La,Qa,Ta,Ja,Res.bind_ok,a26,n26 k hk,Xa,set_cons_zero,set_cons_succ]
 have s2:Zg (Fk (tR (b2 Uj (Dr De (Gc 9) (Fa 10)) (b2 Wm (Fa 5) (Fa 6)))) (tR (b1 (Tr "bool") (Dr De (Gc 9) (Fa 10))))) (Ub (kD (.bl false))) Out.nx (Xi (.lst (ns.map D.int)) L d ru (Vb X Q L O W ru).hsD ((range L.length).map λk=>iN (lvN L k)) (some (.d (iN k))) (some (.d (eo (Ef L k)))) x8 (some (.d (dK (Vb X Q L O W ru).leT))) (some (.d (.str (nm X Q (26+k))))) x11 x12)=.nx (Xi (.lst (ns.map D.int)) L d ru (Vb X Q L O W ru).hsD ((range L.length).map λk=>iN (lvN L k)) (some (.d (iN k))) (some (.d (eo (Ef L k)))) x8 (some (.d (dK (Vb X Q L O W ru).leT))) (some (.d (.str (nm X Q (26+k))))) x11 x12):=by
  simp only[Zg,Fk,tR,b1,b2,Dr,q9,Qa,Rb,Ta,Res.bind_ok,gt,ix,ne1,ib,Db,Yi,false_eq_true,if_false,reduceIte,Tb]
 have s3:Pb 11 (kD .non) (Xi (.lst (ns.map D.int)) L d ru (Vb X Q L O W ru).hsD ((range L.length).map λk=>iN (lvN L k)) (some (.d (iN k))) (some (.d (eo (Ef L k)))) x8 (some (.d (dK (Vb X Q L O W ru).leT))) (some (.d (.str (nm X Q (26+k))))) x11 x12)=.nx (Xi (.lst (ns.map D.int)) L d ru (Vb X Q L O W ru).hsD ((range L.length).map λk=>iN (lvN L k)) (some (.d (iN k))) (some (.d (eo (Ef L k)))) x8 (some (.d (dK (Vb X Q L O W ru).leT))) (some (.d (.str (nm X Q (26+k))))) (some (.d .non)) x12):=rfl
 have s4:Zg (tR (b1 Go (Fa 7))) (Pb 11 (b1 (Ha 2 Pa) (Aa (Ga 0) (Aa (b2 Bc (kD (.int 26)) (Fa 7)) Ia)))) Out.nx (Xi (.lst (ns.map D.int)) L d ru (Vb X Q L O W ru).hsD ((range L.length).map λk=>iN (lvN L k)) (some (.d (iN k))) (some (.d (eo (Ef L k)))) x8 (some (.d (dK (Vb X Q L O W ru).leT))) (some (.d (.str (nm X Q (26+k))))) (some (.d .non)) x12)=.nx (Xi (.lst (ns.map D.int)) L d ru (Vb X Q L O W ru).hsD ((range L.length).map λk=>iN (lvN L k)) (some (.d (iN k))) (some (.d (eo (Ef L k)))) x8 (some (.d (dK (Vb X Q L O W ru).leT))) (some (.d (.str (nm X Q (26+k))))) (some (.d (Kr (nm X Q) ((Ef L k).map (26+ ·))))) x12):=by
  cases e:Ef L k with
  |none=>rfl
  |some q=>
   have:=hE k q e
   have nn:Go (eo (some q))=.ok (.bl true):=rfl
   have nn2:eo (some q)=iN q:=rfl
   simp only[Zg,tR,b1,b2,kD,Aa,Ia,La,Qa,Ta,Res.bind_ok,nn,Db,Tb,if_true,reduceIte,Pb,nn2,a26,n26 q (by omega),Ja,Xa,set_cons_zero,set_cons_succ]
   rfl
 have s5:Pb 12 (b1 (Ha 2 Ed) (Aa (Ga 4) (Aa (Ga 10) Ia))) (Xi (.lst (ns.map D.int)) L d ru (Vb X Q L O W ru).hsD ((range L.length).map λk=>iN (lvN L k)) (some (.d (iN k))) (some (.d (eo (Ef L k)))) x8 (some (.d (dK (Vb X Q L O W ru).leT))) (some (.d (.str (nm X Q (26+k))))) (some (.d (Kr (nm X Q) ((Ef L k).map (26+ ·))))) x12)=.nx (Xi (.lst (ns.map D.int)) L d ru (Vb X Q L O W ru).hsD ((range L.length).map λk=>iN (lvN L k)) (some (.d (iN k))) (some (.d (eo (Ef L k)))) x8 (some (.d (dK (Vb X Q L O W ru).leT))) (some (.d (.str (nm X Q (26+k))))) (some (.d (Kr (nm X Q) ((Ef L k).map (26+ ·))))) (some (.d (Kr (nm X Q) ((Ef L k).map (26+ ·)))))):=by
  have eld':Ha 2 Ed [(Vb X Q L O W ru).hsD,.str (nm X Q (26+k))]=.ok (Kr (nm X Q) ((Ef L k).map (26+ ·))):=eld
  simp only[Pb,b1,Aa,Ia,La,Cb,Ja,Res.bind_ok,eld',Xa,set_cons_zero,set_cons_succ]
 have s6:∀ z:Option Nat,Zg (Fk (tR (b2 Uj (Fa 12) (Fa 11))) (tR (b2 Uj (b1 Oj (Fa 12)) (b1 Oj (Fa 11))))) (Ub (kD (.bl false))) Out.nx (Xi (.lst (ns.map D.int)) L d ru (Vb X Q L O W ru).hsD ((range L.length).map λk=>iN (lvN L k)) (some (.d (iN k))) (some (.d (eo (Ef L k)))) x8 (some (.d (dK (Vb X Q L O W ru).leT))) (some (.d (.str (nm X Q (26+k))))) (some (.d (Kr (nm X Q) z))) (some (.d (Kr (nm X Q) z))))=.nx (Xi (.lst (ns.map D.int)) L d ru (Vb X Q L O W ru).hsD ((range L.length).map λk=>iN (lvN L k)) (some (.d (iN k))) (some (.d (eo (Ef L k)))) x8 (some (.d (dK (Vb X Q L O W ru).leT))) (some (.d (.str (nm X Q (26+k))))) (some (.d (Kr (nm X Q) z))) (some (.d (Kr (nm X Q) z)))):=λz=>by
  cases z with
  |none=>
   have i1:Oj (Kr (nm X Q) none)=.ok (.bl true):=rfl
   have i2:Uj (Kr (nm X Q) none) (Kr (nm X Q) none)=.ok (.bl false):=neN
   simp only[Zg,Fk,tR,b1,b2,Qa,Ta,Res.bind_ok,i1,i2,neB,Db,Yi,false_eq_true,if_false,reduceIte,Tb]
  |some a=>
   have i1:Oj (Kr (nm X Q) (some a))=.ok (.bl false):=rfl
   have i2:Uj (Kr (nm X Q) (some a)) (Kr (nm X Q) (some a))=.ok (.bl false):=neS _
   simp only[Zg,Fk,tR,b1,b2,Qa,Ta,Res.bind_ok,i1,i2,neB,Db,Yi,false_eq_true,if_false,reduceIte,Tb]
 refine⟨some (.d (.str (nm X Q (26+k)))),some (.d (Kr (nm X Q) ((Ef L k).map (26+ ·)))),some (.d (Kr (nm X Q) ((Ef L k).map (26+ ·)))),?_⟩
 unfold Uk Mb
 rw[s1,Va,s2,Va,s3,Va,s4,Va,s5,Va,s6]
end
theorem law_true(ns:List Int)(hl0:ns.length<=63):QE [.lst (ns.map D.int)]=.ok (.bl true):=by
 obtain⟨L,g,hl,el⟩:=HV ns
 obtain⟨X,Q,_,hN⟩:=LK ns
 have hn:0<L.length:=List.length_pos_iff.mpr g.ne
 obtain⟨O,pO,hO⟩:=NR ns L.length hn hl
 have hO':Ha 2 Jb [.lst (ns.map D.int),.int (L.length:Int)]=.ok (iL O):=hO
 have lO:O.length=L.length:=by have:=pO.length_eq;rwa [length_range]at this
 have lL:(L.map eo).length=L.length:=length_map ..
 have c1:Ha 2 Oa [.lst (ns.map D.int),.int 1]=.ok (.int (Pn ns 1)):=Qn ns 1 (by decide)
 have c2:Ha 2 Oa [.lst (ns.map D.int),.int 2]=.ok (.int (Pn ns 2)):=Qn ns 2 (by decide)
 have c3:Ha 2 Oa [.lst (ns.map D.int),.int 3]=.ok (.int (Pn ns 3)):=Qn ns 3 (by decide)
 have q1:=emod_nonneg (Pn ns 1) (show(19:Int)≠0 by decide)
 obtain⟨d,hd⟩:∃ d:Int,d=2+Pn ns 1%19:=⟨_,rfl⟩
 have m1:=Ak (Pn ns 1) 19 (by decide)
 have m2:=Ak (Pn ns 2) 24 (by decide)
 have m3:=Ak (Pn ns 3) d (by omega)
 generalize hru:D.tup [.int (1+Pn ns 2%24),.int d,.int (1+Pn ns 3%d),.int (d-1)]=ru
 have ho:=NV (ru:=ru) g hl pO ns hN hO
 have ok:=RD (X:=X) (Q:=Q) (W:=wW ns L) (ru:=ru) g hl pO
 have cr:=PD (X:=X) (Q:=Q) (W:=wW ns L) (ru:=ru) g hl pO
 have lof:=KM (Vb X Q L O (wW ns L) ru) ok (show(Vb X Q L O (wW ns L) ru).ru=_ from hru.symm) (by omega) cr
 have t2:=λ{k:Nat} (hk:k<L.length)=>VQ (X:=X) (Q:=Q) (W:=wW ns L) (ru:=ru) g hl pO ns hN hru.symm hk
 have en:=YM L
 have ks:Vi (dK (Vb X Q L O (wW ns L) ru).leT)=.ok ((O.map (26+ ·)).map λk=>D.str (nm X Q k)):=by
  have:=Xm (nm X Q) (λk=>iN ((Vb X Q L O (wW ns L) ru).abv k).length) (O.map (26+ ·))
  unfold Vi dK
  dsimp only
  have e:((Vb X Q L O (wW ns L) ru).leT.map (·.1)).map Sj=(O.map (26+ ·)).map λk=>D.str (nm X Q k):=by
   have h2:Res.ok (((Vb X Q L O (wW ns L) ru).leT.map (·.1)).map Sj)=Res.ok ((O.map (26+ ·)).map λk=>D.str (nm X Q k)):=this
   injection h2
  have ln:((Vb X Q L O (wW ns L) ru).leT.map (·.1)).length<=1000:=by
   show((tK (O.map (26+ ·)) (nm X Q) λk=>iN ((Vb X Q L O (wW ns L) ru).abv k).length).map (·.1)).length<=1000
   unfold tK
   rw[length_map,length_map,length_map]
   omega
  rw[if_pos (Pz ln),e]
 have cm:∀ δ:Ba,Yf 1 (Nb 0) (λ_=>.ok true) Rk (some (.d (.lst (ns.map D.int)))::δ) (O.map iN)=.ok ((O.map (26+ ·)).map λk=>D.str (nm X Q k)):=λδ=>by
  refine Re ?_ (by rw[length_map];omega)
  have:=Of (gc:=λ_=>.ok true) (fe:=Rk) (λ_=>true) iN (λj=>D.str (nm X Q (26+j))) (some (.d (.lst (ns.map D.int)))::δ) O none (λj hj=>⟨rfl,λ_=>by
   have hj':=Ql g hl pO hj
   have n26:Ha 2 Pa [.lst (ns.map D.int),.int (26+(j:Int))]=.ok (.str (nm X Q (26+j))):=by
    have:=hN (26+j) (by omega)
    rw[<-this];congr 3
   have a26:Bc (.int 26) (iN j)=.ok (.int (26+(j:Int))):=Wb _ _
   unfold Rk
   simp only[b1,b2,kD,Aa,Ia,La,Cb,Qa,Ja,Res.bind_ok,a26,n26]⟩)
  rw[Ze]at this
  rw[map_map]
  exact this
 have sq:Ve (iL O)=.ok (O.map iN):=rfl
 have nes:Uj (.lst ((O.map (26+ ·)).map λk=>D.str (nm X Q k))) (.lst ((O.map (26+ ·)).map λk=>D.str (nm X Q k)))=.ok (.bl false):=MK (nm X Q) (O.map (26+ ·))
 have isd:Tr "dict" (dK (Vb X Q L O (wW ns L) ru).leT)=.ok (.bl true):=rfl
 obtain⟨y6,y7,l1⟩:=TQ g hl (.lst (ns.map D.int)) d ru (Vb X Q L O (wW ns L) ru).hsD
 obtain⟨δ,e2,z6,z7,z10,z11,z12,rfl⟩:=Hj (t:=Xe 2 (Lb (Nb 6) (Lb (Nb 7) We))) (body:=Uk) (λi δ=>∃ z6 z7 z10 z11 z12,δ=Xi (.lst (ns.map D.int)) L d ru (Vb X Q L O (wW ns L) ru).hsD ((range L.length).map λk=>iN (lvN L k)) z6 z7 (some (.d (iL O))) (some (.d (dK (Vb X Q L O (wW ns L) ru).leT))) z10 z11 z12) ((range L.length).map λ(j:Nat)=>D.tup [.int (j:Int),eo (Ef L j)]) (Xi (.lst (ns.map D.int)) L d ru (Vb X Q L O (wW ns L) ru).hsD ((range L.length).map λk=>iN (lvN L k)) y6 y7 (some (.d (iL O))) (some (.d (dK (Vb X Q L O (wW ns L) ru).leT))) none none none) (λi x δ hx ⟨z6,z7,z10,z11,z12,e⟩=>by
  subst e
  rw[getElem?_map]at hx
  obtain⟨j,hj,rfl⟩:=map_eq_some_iff.mp hx
  obtain⟨w10,w11,w12,t⟩:=t2 (mem_range.mp (mem_of_getElem? hj)) (some (.d (iL O))) z10 z11 z12
  exact⟨_,rfl,_,.inl t,_,_,_,_,_,rfl⟩) ⟨_,_,_,_,_,rfl⟩
 have s1:Pb 1 (b1 (Ha 2 Mc) (Aa (Ga 0) (Aa (kD (.int 13)) Ia))) (Sa 13 [.lst (ns.map D.int)])=.nx [some (.d (.lst (ns.map D.int))),some (.d (.lst (L.map eo))),none,none,none,none,none,none,none,none,none,none,none]:=by
  simp only[Sa,map_cons,map_nil,List.length_cons,length_nil,cons_append,nil_append,reduceAdd,reduceSub,replicate,Pb,b1,kD,Aa,Ia,La,Ja,Res.bind_ok,el,Xa,set_cons_zero,set_cons_succ]
 have s2:Pb 2 (b2 Bc (kD (.int 2)) (b2 Rf (b1 (Ha 2 Oa) (Aa (Ga 0) (Aa (kD (.int 1)) Ia))) (kD (.int 19)))) [some (.d (.lst (ns.map D.int))),some (.d (.lst (L.map eo))),none,none,none,none,none,none,none,none,none,none,none]=.nx [some (.d (.lst (ns.map D.int))),some (.d (.lst (L.map eo))),some (.d (.int d)),none,none,none,none,none,none,none,none,none,none]:=by
  rw[hd]
  simp only[Pb,b1,b2,kD,Aa,Ia,La,Ja,Res.bind_ok,c1,m1,Wb,Xa,set_cons_zero,set_cons_succ]
 have s3:Pb 3 (b1 Rg (Aa (b2 Bc (kD (.int 1)) (b2 Rf (b1 (Ha 2 Oa) (Aa (Ga 0) (Aa (kD (.int 2)) Ia))) (kD (.int 24)))) (Aa (Ga 2) (Aa (b2 Bc (kD (.int 1)) (b2 Rf (b1 (Ha 2 Oa) (Aa (Ga 0) (Aa (kD (.int 3)) Ia))) (Fa 2))) (Aa (b2 Rx (Fa 2) (kD (.int 1))) Ia))))) [some (.d (.lst (ns.map D.int))),some (.d (.lst (L.map eo))),some (.d (.int d)),none,none,none,none,none,none,none,none,none,none]=.nx [some (.d (.lst (ns.map D.int))),some (.d (.lst (L.map eo))),some (.d (.int d)),some (.d ru),none,none,none,none,none,none,none,none,none]:=by
  rw[<-hru]
  simp only[Pb,b1,b2,kD,Aa,Ia,La,Cb,Qa,Ta,Ja,Res.bind_ok,c2,c3,m2,m3,Wb,Mj,Rg,List.length_cons,length_nil,reduceAdd,reduceLeDiff,if_true,reduceIte,Xa,set_cons_zero,set_cons_succ]
 have s4:Pb 4 (b1 (Ha 3 Sc) (Aa (Ga 0) (Aa (Ga 1) (Aa (Ga 3) Ia)))) [some (.d (.lst (ns.map D.int))),some (.d (.lst (L.map eo))),some (.d (.int d)),some (.d ru),none,none,none,none,none,none,none,none,none]=.nx [some (.d (.lst (ns.map D.int))),some (.d (.lst (L.map eo))),some (.d (.int d)),some (.d ru),some (.d (Vb X Q L O (wW ns L) ru).hsD),none,none,none,none,none,none,none,none]:=by
  simp only[Pb,b1,Aa,Ia,La,Cb,Ja,Res.bind_ok,ho,Xa,set_cons_zero,set_cons_succ]
 have s5:Yd 5 (b1 Xd Ia) [some (.d (.lst (ns.map D.int))),some (.d (.lst (L.map eo))),some (.d (.int d)),some (.d ru),some (.d (Vb X Q L O (wW ns L) ru).hsD),none,none,none,none,none,none,none,none]=.nx (Xi (.lst (ns.map D.int)) L d ru (Vb X Q L O (wW ns L) ru).hsD [] none none none none none none none):=by
  simp only[Yd,b1,Ia,Xd,Res.bind_ok,length_nil,zero_le,if_true,reduceIte,Xa,set_cons_zero,set_cons_succ]
 have s6:Pb 8 (b1 (Ha 2 Jb) (Aa (Ga 0) (Aa (b1 Pf (Fa 1)) Ia))) (Xi (.lst (ns.map D.int)) L d ru (Vb X Q L O (wW ns L) ru).hsD ((range L.length).map λk=>iN (lvN L k)) y6 y7 none none none none none)=.nx (Xi (.lst (ns.map D.int)) L d ru (Vb X Q L O (wW ns L) ru).hsD ((range L.length).map λk=>iN (lvN L k)) y6 y7 (some (.d (iL O))) none none none none):=by
  simp only[Pb,b1,Aa,Ia,La,Qa,Ta,Ja,Res.bind_ok,Wc,lL,hO',Xa,set_cons_zero,set_cons_succ]
 have s7:Pb 9 (b1 (Ha 1 Fd) (Aa (Ga 4) Ia)) (Xi (.lst (ns.map D.int)) L d ru (Vb X Q L O (wW ns L) ru).hsD ((range L.length).map λk=>iN (lvN L k)) y6 y7 (some (.d (iL O))) none none none none)=.nx (Xi (.lst (ns.map D.int)) L d ru (Vb X Q L O (wW ns L) ru).hsD ((range L.length).map λk=>iN (lvN L k)) y6 y7 (some (.d (iL O))) (some (.d (dK (Vb X Q L O (wW ns L) ru).leT))) none none none):=by
  simp only[Pb,b1,Aa,Ia,La,Cb,Ja,Res.bind_ok,lof,Xa,set_cons_zero,set_cons_succ]
 have s8:Zg (Fk (Bj (tR (b1 (Tr "dict") (Fa 9)))) (tR (b2 Uj (Uf (Dt Vi (Ga 9))) (Uf (Rc 1 (Nb 0) (λ_=>.ok true) Rk (b1 Ve (Ga 8))))))) (Ub (kD (.bl false))) Out.nx (Xi (.lst (ns.map D.int)) L d ru (Vb X Q L O (wW ns L) ru).hsD ((range L.length).map λk=>iN (lvN L k)) y6 y7 (some (.d (iL O))) (some (.d (dK (Vb X Q L O (wW ns L) ru).leT))) none none none)=.nx (Xi (.lst (ns.map D.int)) L d ru (Vb X Q L O (wW ns L) ru).hsD ((range L.length).map λk=>iN (lvN L k)) y6 y7 (some (.d (iL O))) (some (.d (dK (Vb X Q L O (wW ns L) ru).leT))) none none none):=by
  simp only[Zg,Fk,Bj,tR,b1,b2,Dt,Uf,Rc,La,Cb,Qa,Ta,Res.bind_ok,isd,ks,sq,cm,nes,Db,Yi,Bool.not_true,false_eq_true,if_false,reduceIte,Tb]
 have s9:Ue (Xe 2 (Lb (Nb 6) (Lb (Nb 7) We))) Uk (b1 Qi (Aa (Ga 1) Ia)) (Xi (.lst (ns.map D.int)) L d ru (Vb X Q L O (wW ns L) ru).hsD ((range L.length).map λk=>iN (lvN L k)) y6 y7 (some (.d (iL O))) (some (.d (dK (Vb X Q L O (wW ns L) ru).leT))) none none none)=.nx (Xi (.lst (ns.map D.int)) L d ru (Vb X Q L O (wW ns L) ru).hsD ((range L.length).map λk=>iN (lvN L k)) z6 z7 (some (.d (iL O))) (some (.d (dK (Vb X Q L O (wW ns L) ru).leT))) z10 z11 z12):=by
  simp only[Ue,b1,Aa,Ia,La,Cb,Ja,Res.bind_ok,en,Xa]
  exact e2
 unfold QE TM Mb
 rw[Kb,s1,Va,s2,Va,s3,Va,s4,Va,s5,Va,l1,Va,s6,Va,s7,Va,s8,Va,s9,Va]
 rfl
end G
local macro_rules| `(tactic| walk_at "memfree")=> `(tactic| first|exact List.forall_mem_nil _|exact List.forall_mem_cons.mpr ⟨(by intro h;first|exact absurd h (by decide)|exact Or.inl rfl|exact Or.inr rfl),by walk_at "memfree"⟩)
local macro_rules| `(tactic| walk_at "memdis")=> `(tactic| first|exact List.forall_mem_nil _|exact List.forall_mem_cons.mpr ⟨by decide +kernel,by walk_at "memdis"⟩)
local macro_rules| `(tactic| walk_at "compok")=> `(tactic| exact⟨rfl,by decide +kernel,by walk_at "memfree",rfl,by walk_at "memdis"⟩)
namespace G
open PySem PySem.Spec PyProof.Rows L2 L3
def top(i:Nat):Stmt:=PySem.Challenge.pw_wardsmith_k61_levels_and_elders.main.body.getD i (.Pass ⟨0,0,0,0⟩)
abbrev He:Stmt:=top 25
abbrev Vc:Stmt:=top 27
abbrev Nh:Stmt:=top 23
abbrev Jj:Stmt:=VJ (top 22) 0
abbrev Qc:Stmt:=top 28
abbrev Ie:Stmt:=top 26
abbrev Od:Stmt:=top 29
abbrev Nd:Stmt:=top 30
abbrev Qd:Stmt:=top 17
abbrev Sd:Stmt:=top 19
abbrev Gf:Stmt:=top 20
abbrev Ke:Stmt:=top 8
abbrev Je:Stmt:=top 15
abbrev Pd:Stmt:=top 16
abbrev Dc:Stmt:=top 14
abbrev Ff:Stmt:=top 5
abbrev Jf:Stmt:=top 4
abbrev Kf:Stmt:=top 6
abbrev Fg:Stmt:=top 9
abbrev Lf:Stmt:=top 13
abbrev Hf:Stmt:=top 12
abbrev Le:Stmt:=top 18
abbrev Me:Stmt:=top 11
abbrev Dl:Stmt:=top 31
structure Txt(K:Frag)(mg:Str->Option Value):Prop where
 n_bool:mg "bool"=none
 n_dict:mg "dict"=none
 n_enumerate:mg "enumerate"=none
 n_isinstance:mg "isinstance"=none
 n_len:mg "len"=none
 n_list:mg "list"=none
 n_min:mg "min"=none
 n_range:mg "range"=none
 n_set:mg "set"=none
 o_House_doors:FldK K "House" "doors"
 o_House_grants:FldK K "House" "grants"
 o_House_rules:FldK K "House" "rules"
 o_House_wings:FldK K "House" "wings"
section
variable {P:Program}{w:World}{K:Frag}{mg:Str->Option Value}{base:Heap}
theorem Ai:FnScope ["_law_script","_law_k","_law_number"] ["_law_script","_law_k"] (Ca He):=⟨rfl,rfl,rfl,by decide +kernel,rfl,by decide +kernel,by decide +kernel⟩
theorem As{f:Addr}{fd:FuncData}(F:Fun K "_law_cell" "_law_cell" He f fd)(hm:mg "_law_cell"=some (.ref f))(T:Txt K mg)  :Fn P w K mg base 1 "_law_cell" 2 Oa:=
 Lc (k:=0) F Ai hm (F.binds (ps:= ["_law_script","_law_k"]) λ_ _ _ _ _ _=>EC λ_ _=>rfl) λcdv A outer s H E hr=>
  (Ua (Cl (Rh YN (Ma 1) (Wa (Qh T.n_len (Ma 0)))) (Ya (Xc (Pm (Ma 0) (Ma 1)))) Og)
  (Ua (Zd 2 Ai.nd (Be (Wa (Ct (Ma 1) (Wa Fb))) (Wa Fb)))
  (Ua (Cl (Rh XN (Wa (Qh T.n_len (Ma 0))) (Wa Fb)) (Ya (Zd 2 Ai.nd (Be (Ma 2) (Wa (Ct (Wa (Ah (Wa (Pm (Ma 0) (Wa (Ah (Wa (Ct (Ma 1) (Wa Fb))) (Wa (Qh T.n_len (Ma 0))))))) (Wa Fb))) (Wa Fb)))))) Og)
  (Ya (Xc (Ah (Wa (Ct (Ma 2) (Ma 2))) (Wa Fb)))))))
theorem Te:FnScope ["_law_script","_law_most","_law_elders_here","_law_cell_here","_law_at"] ["_law_script","_law_most"] (Ca Vc):=⟨rfl,rfl,rfl,by decide +kernel,rfl,by decide +kernel,by decide +kernel⟩
theorem Io{f:Addr}{fd:FuncData}(F:Fun K "_law_elders" "_law_elders" Vc f fd)(hm:mg "_law_elders"=some (.ref f))(T:Txt K mg)  :Fn P w K mg base 1 "_law_elders" 2 Mc:=
 Lc (k:=0) F Te hm (F.binds (ps:= ["_law_script","_law_most"]) λ_ _ _ _ _ _=>EC λ_ _=>rfl) λcdv A outer s H E hr=>
  (Ua (Im 2 Te.nd (Em (Ea DH Za)))
  (Ua (Hm PassesOwn.never rfl (Sk (Ce (Bu (Ma 0) (Bk Fb) (Bk (Be (Wa Fb) (Ma 1)))))) (Hc 3 Te.nd) (Ua (Zd 4 Te.nd (Ah (Wa (Ah (Ma 3) (Wa (SX (Wa Fb) (Wa Fb))))) (Wa (Be (Wa (Qh T.n_len (Ma 2))) (Wa Fb)))))
  (Ya (Cl (Rh YN (Ma 4) (Wa (Qh T.n_len (Ma 2)))) (Ya (Sf 2 (Na 4))) (Ya (Cl (Rh (XU (Iu hr)) (Ma 4) (Wa (Qh T.n_len (Ma 2)))) (Ya (Sf 2 DH)) (Ya (Sf 2 (Pm (Ma 2) (Wa (NN (Wa Fb))))))))))))
  (Ya (YF 2))))
theorem RB:FnScope ["things"] ["things"] (Ca Nh):=⟨rfl,rfl,rfl,by decide +kernel,rfl,by decide +kernel,by decide +kernel⟩
theorem HB{f:Addr}{fd:FuncData}(F:Fun K "copied" "copied" Nh f fd)(hm:mg "copied"=some (.ref f))(T:Txt K mg)  :Fn P w K mg base 1 "copied" 1 Lg:=
 Lc (k:=0) F RB hm (F.binds (ps:= ["things"]) λ_ _ _ _ _ _=>LM λ_=>rfl) λcdv A outer s H E hr=>
  (Ya (Xc (Ce (Ri ["name","names"] ["things"] (by walk_at "compok") rfl (Sk (Na 0)) (λC fp pins s H=>⟨(Hu rfl (Dh (Hc 0 (show Nodup (["name","names","things"]:List Str) by decide +kernel)) (Dh (Hc 1 (show Nodup (["name","names","things"]:List Str) by decide +kernel)) Gu))),Vo,(Uq (Ea (Na 0) (Ea (Ce (Au T.n_list (Ma 1))) Za)))⟩)))))
theorem AG:FnScope ["self","rules","doors","wings","grants"] ["self","rules","doors","wings","grants"] (Ca Jj):=⟨rfl,rfl,rfl,by decide +kernel,rfl,by decide +kernel,by decide +kernel⟩
theorem HF{f C:Addr}{fd:FuncData}(F:Fun K "__init__" "House.__init__" Jj f fd)(M:Mk K C f)(hm:mg "House"=some (.ref C))(hc:nsIn K mainGlobals "House"=some (some (.ref C)))(cl:Cls K C)(na_rules:NoAttr K C "rules")(na_doors:NoAttr K C "doors")(na_wings:NoAttr K C "wings")(na_grants:NoAttr K C "grants")(T:Txt K mg)(F_copied:Fn P w K mg base 1 "copied" 1 Lg):FnI P w K mg base 3 "House" 4 4 Kg:=
 MJ (k:=1) F AG M hm hc (F.binds (ps:= ["self","rules","doors","wings","grants"]) λ_ _ _ _ _ _=>N3 λ_ _ _ _ _=>rfl) λcdv A outer s H E hr=>
  (Um cl na_rules (Na 1)
  (Um cl na_doors (Ce (Au T.n_list (Ma 2)))
  (Um cl na_wings (Eb (F_copied.mono (by decide)) hr (Ea (Na 3) Za))
  (Um cl na_grants (Eb (F_copied.mono (by decide)) hr (Ea (Na 4) Za))
  EQ))))
theorem Xf:FnScope ["_law_elders_here","_law_k","_law_found","_law_j"] ["_law_elders_here","_law_k"] (Ca Qc):=⟨rfl,rfl,rfl,by decide +kernel,rfl,by decide +kernel,by decide +kernel⟩
theorem Nm{f:Addr}{fd:FuncData}(F:Fun K "_law_beneath" "_law_beneath" Qc f fd)(hm:mg "_law_beneath"=some (.ref f))(T:Txt K mg)  :Fn P w K mg base 1 "_law_beneath" 2 Fc:=
 Lc (k:=0) F Xf hm (F.binds (ps:= ["_law_elders_here","_law_k"]) λ_ _ _ _ _ _=>EC λ_ _=>rfl) λcdv A outer s H E hr=>
  (Ua (Im 2 Xf.nd (Em (Ea (Na 1) Za)))
  (Ua (Hm PassesOwn.never rfl (UD T.n_range (Ea (Be (Ma 1) (Wa Fb)) (Ea (Qh T.n_len (Ma 0)) Za))) (Hc 3 Xf.nd) (Ya (Cl (K1 (Wa (Pm (Ma 0) (Ma 3))) (Ma 2)) (Ya (Sf 2 (Na 3))) Og)))
  (Ya (YF 2))))
theorem Bi:FnScope ["_law_script","_law_k","_law_some","_law_pad"] ["_law_script","_law_k"] (Ca Ie):=⟨rfl,rfl,rfl,by decide +kernel,rfl,by decide +kernel,by decide +kernel⟩
theorem Bs{f:Addr}{fd:FuncData}(F:Fun K "_law_name" "_law_name" Ie f fd)(hm:mg "_law_name"=some (.ref f))(T:Txt K mg)(F__law_cell:Fn P w K mg base 1 "_law_cell" 2 Oa):Fn P w K mg base 2 "_law_name" 2 Pa:=
 Lc (k:=1) F Bi hm (F.binds (ps:= ["_law_script","_law_k"]) λ_ _ _ _ _ _=>EC λ_ _=>rfl) λcdv A outer s H E hr=>
  (Ua (Zd 2 Bi.nd EH)
  (Ua (Zd 3 Bi.nd (Eb (F__law_cell.mono (by decide)) hr (Ea (Na 0) (Ea Fb Za))))
  (Ya (Xc (Be (Wa (Be (Wa (Be (Wa (CH (Wa EH) (Wa (Ah (Ma 3) (Wa Fb))))) (Wa (Pm (Ma 2) (Wa (Ah (Ma 1) (Wa Fb))))))) (Wa (Pm (Ma 2) (Wa (Ah (Wa (BH (Ma 1) (Wa Fb))) (Wa Fb))))))) (Wa (CH (Wa EH) (Wa (Ah (Wa (BH (Ma 3) (Wa Fb))) (Wa Fb))))))))))
theorem Ae:FnScope ["_law_script","_law_many","_law_order_here","_law_k","_law_at"] ["_law_script","_law_many"] (Ca Od):=⟨rfl,rfl,rfl,by decide +kernel,rfl,by decide +kernel,by decide +kernel⟩
theorem Ep{f:Addr}{fd:FuncData}(F:Fun K "_law_order" "_law_order" Od f fd)(hm:mg "_law_order"=some (.ref f))(T:Txt K mg)(F__law_cell:Fn P w K mg base 1 "_law_cell" 2 Oa):Fn P w K mg base 2 "_law_order" 2 Jb:=
 Lc (k:=1) F Ae hm (F.binds (ps:= ["_law_script","_law_many"]) λ_ _ _ _ _ _=>EC λ_ _=>rfl) λcdv A outer s H E hr=>
  (Ua (Zd 2 Ae.nd (Ce (IV rfl T.n_list T.n_range (Ea (Na 1) Za))))
  (Ua (Hm PassesOwn.never rfl (Ju T.n_range (Ea (Na 1) Za)) (Hc 3 Ae.nd) (Ua (Zd 4 Ae.nd (Ah (Wa (Eb (F__law_cell.mono (by decide)) hr (Ea (Na 0) (Ea (Be (Wa Fb) (Ma 3)) Za)))) (Ma 1)))
  (Ya (Zd 2 Ae.nd (Ce (ZM (Wa (Ce (JV (Wa (Ce (Bu (Ma 2) Ho (Bk (Na 4))))) Ho (Bk (NN (Wa Fb)))))) (Wa (Ce (Bu (Ma 2) (Bk (Na 4)) Ho)))))))))
  (Ya (Xc (Na 2)))))
theorem Oc:FnScope ["_law_script","_law_elders_here","_law_rules","_law_doors","_law_wings","_law_grants","_law_k","_law_things"] ["_law_script","_law_elders_here","_law_rules"] (Ca Nd):=⟨rfl,rfl,rfl,by decide +kernel,rfl,by decide +kernel,by decide +kernel⟩
theorem Dp{f:Addr}{fd:FuncData}(F:Fun K "_law_house" "_law_house" Nd f fd)(hm:mg "_law_house"=some (.ref f))(T:Txt K mg)(F_House:FnI P w K mg base 3 "House" 4 4 Kg)(F__law_beneath:Fn P w K mg base 1 "_law_beneath" 2 Fc)(F__law_cell:Fn P w K mg base 1 "_law_cell" 2 Oa)(F__law_name:Fn P w K mg base 2 "_law_name" 2 Pa)(F__law_order:Fn P w K mg base 2 "_law_order" 2 Jb):Fn P w K mg base 4 "_law_house" 3 Sc:=
 Lc (k:=3) F Oc hm (F.binds (ps:= ["_law_script","_law_elders_here","_law_rules"]) λ_ _ _ _ _ _=>M3 λ_ _ _=>rfl) λcdv A outer s H E hr=>
  (Ua (Im 3 Oc.nd (Ri ["_law_k"] ["_law_script","_law_elders_here","_law_rules","_law_doors","_law_wings","_law_grants","?","_law_things"] (by walk_at "compok") rfl (Ju T.n_range (Ea (Qh T.n_len (Ma 1)) Za)) (λC fp pins s H=>⟨(Hc 0 (show Nodup (["_law_k","_law_script","_law_elders_here","_law_rules","_law_doors","_law_wings","_law_grants","?","_law_things"]:List Str) by decide +kernel)),Vo,(Eb (F__law_name.mono (by decide)) hr (Ea (Na 1) (Ea (Na 0) Za)))⟩)))
  (Ua (Im 4 Oc.nd (Em Za))
  (Ua (Im 5 Oc.nd (Em Za))
  (Ua (Hm PassesOwn.never rfl (Sk (Eb (F__law_order.mono (by decide)) hr (Ea (Na 0) (Ea (Qh T.n_len (Ma 1)) Za)))) (Hc 6 Oc.nd) (Ua (by refine VS 7 Oc.nd ["_law_j"] ["_law_script","_law_elders_here","_law_rules","_law_doors","_law_wings","_law_grants","_law_k","_law_things"] (by walk_at "compok") rfl (Sk (Eb (F__law_beneath.mono (by decide)) hr (Ea (Na 1) (Ea (Na 6) Za))))  ?_;exact(λC fp pins s H=>⟨(Hc 0 (show Nodup (["_law_j","_law_script","_law_elders_here","_law_rules","_law_doors","_law_wings","_law_grants","_law_k","_law_things"]:List Str) by decide +kernel)),Vo,(Pm (Ma 4) (Ma 0))⟩))
  (Ua (Cl (JU (WG (Rh XN (Wa (Qh T.n_len (Ma 7))) (Wa Fb)) (Ux (Rh (XU (Iu hr)) (Wa (Ah (Wa (Eb (F__law_cell.mono (by decide)) hr (Ea (Na 0) (Ea (Be (Wa Fb) (Ma 6)) Za)))) (Wa Fb))) (Wa Fb))))) (Ua (Sf 4 (Uq (Ea (Eb (F__law_name.mono (by decide)) hr (Ea (Na 0) (Ea (Be (Wa Fb) (Ma 6)) Za))) (Ea (Ce (Bu (Ma 7) (Bk Fb) Ho)) Za))))
  (Ya (Im 7 Oc.nd (Em (Ea (Eb (F__law_name.mono (by decide)) hr (Ea (Na 0) (Ea (Be (Wa Fb) (Ma 6)) Za))) (Ea (Pm (Ma 7) (Wa Fb)) Za)))))) Og)
  (Ya (Ls 7 (Sf 5 (Uq (Ea (Eb (F__law_name.mono (by decide)) hr (Ea (Na 0) (Ea (Be (Wa Fb) (Ma 6)) Za))) (Ea (Na 7) Za)))))))))
  (Ya (Ls 4 (Ls 5 (Ls 3 (Xc (AU (F_House.mono (by decide)) hr (Ea (Na 2) (Ea (Na 3) (Ea (Na 4) (Ea (Na 5) Za))))))))))))))
theorem Kp:FnScope ["doors","wider"] ["doors","wider"] (Ca Qd):=⟨rfl,rfl,rfl,by decide +kernel,rfl,by decide +kernel,by decide +kernel⟩
theorem Gp{f:Addr}{fd:FuncData}(F:Fun K "are_within" "are_within" Qd f fd)(hm:mg "are_within"=some (.ref f))(T:Txt K mg)  :Fn P w K mg base 1 "are_within" 2 Yb:=
 Lc (k:=0) F Kp hm (F.binds (ps:= ["doors","wider"]) λ_ _ _ _ _ _=>EC λ_ _=>rfl) λcdv A outer s H E hr=>
  (Ya (Xc (Oz rfl T.n_len T.n_set (Ma 0) (Ma 1))))
theorem Lp:FnScope ["spans","name"] ["spans","name"] (Ca Sd):=⟨rfl,rfl,rfl,by decide +kernel,rfl,by decide +kernel,by decide +kernel⟩
theorem Ip{f:Addr}{fd:FuncData}(F:Fun K "keys_above" "keys_above" Sd f fd)(hm:mg "keys_above"=some (.ref f))(T:Txt K mg)(F_are_within:Fn P w K mg base 1 "are_within" 2 Yb):Fn P w K mg base 2 "keys_above" 2 Ic:=
 Lc (k:=1) F Lp hm (F.binds (ps:= ["spans","name"]) λ_ _ _ _ _ _=>EC λ_ _=>rfl) λcdv A outer s H E hr=>
  (Ya (Xc (Ce (Ri ["other"] ["spans","name"] (by walk_at "compok") rfl (TD (Na 0)) (λC fp pins s H=>⟨(Hc 0 (show Nodup (["other","spans","name"]:List Str) by decide +kernel)),(JN (JU (WG (Rh (Wz (Iu hr)) (Ma 0) (Ma 2)) (Ux (Aw (Eb (F_are_within.mono (by decide)) hr (Ea (Dj (Zi 1) (Ma 2)) (Ea (Dj (Zi 1) (Ma 0)) Za)))))))),(Na 0)⟩)))))
theorem Pv:FnScope ["spans","name"] ["spans","name"] (Ca Gf):=⟨rfl,rfl,rfl,by decide +kernel,rfl,by decide +kernel,by decide +kernel⟩
theorem Bv{f:Addr}{fd:FuncData}{cc:Addr}(hc:fd.code=.ref cc)(hC:codeHdIn K cc 136=true)(hB:BM base mg)(F:Fun K "elder_in" "elder_in" Gf f fd)(hm:mg "elder_in"=some (.ref f))(T:Txt K mg)(F_keys_above:Fn P w K mg base 2 "keys_above" 2 Ic):Fn P w K mg base 3 "elder_in" 2 Bf:=
 LJ (k:=2) F Pv hm (F.binds (ps:= ["spans","name"]) λ_ _ _ _ _ _=>EC λ_ _=>rfl) λA outer s H E hr=>
  (Ya (Xc (BU 0 (List.mem_singleton_self _) hC hc rfl hr T.n_min T.n_len hB ⟨rfl,rfl,rfl,by decide +kernel,rfl,rfl,rfl,λ_ _ _ _ _ _ _=>rfl,by decide,by decide,by decide⟩ (Ea (Eb (F_keys_above.mono (by decide)) hr (Ea (Na 0) (Ea (Na 1) Za))) Za) rfl rfl)))
theorem Os:FnScope ["rules"] ["rules"] (Ca Ke):=⟨rfl,rfl,rfl,by decide +kernel,rfl,by decide +kernel,by decide +kernel⟩
theorem Ds{f:Addr}{fd:FuncData}(F:Fun K "depths_of" "depths_of" Ke f fd)(hm:mg "depths_of"=some (.ref f))(T:Txt K mg)  :Fn P w K mg base 1 "depths_of" 1 Qf:=
 Lc (k:=0) F Os hm (F.binds (ps:= ["rules"]) λ_ _ _ _ _ _=>LM λ_=>rfl) λcdv A outer s H E hr=>
  (Ya (Xc (Pm (Ma 0) (Wa Fb))))
theorem Ms:FnScope ["doors","others"] ["doors","others"] (Ca Je):=⟨rfl,rfl,rfl,by decide +kernel,rfl,by decide +kernel,by decide +kernel⟩
theorem Cs{f:Addr}{fd:FuncData}(F:Fun K "are_apart" "are_apart" Je f fd)(hm:mg "are_apart"=some (.ref f))(T:Txt K mg)  :Fn P w K mg base 1 "are_apart" 2 Fe:=
 Lc (k:=0) F Ms hm (F.binds (ps:= ["doors","others"]) λ_ _ _ _ _ _=>EC λ_ _=>rfl) λcdv A outer s H E hr=>
  (Ya (Xc (Oz rfl T.n_len T.n_set (Ma 0) (Ma 1))))
theorem Jp:FnScope ["doors","others"] ["doors","others"] (Ca Pd):=⟨rfl,rfl,rfl,by decide +kernel,rfl,by decide +kernel,by decide +kernel⟩
theorem Fp{f:Addr}{fd:FuncData}(F:Fun K "are_nested" "are_nested" Pd f fd)(hm:mg "are_nested"=some (.ref f))(T:Txt K mg)(F_are_within:Fn P w K mg base 1 "are_within" 2 Yb):Fn P w K mg base 2 "are_nested" 2 Md:=
 Lc (k:=1) F Jp hm (F.binds (ps:= ["doors","others"]) λ_ _ _ _ _ _=>EC λ_ _=>rfl) λcdv A outer s H E hr=>
  (Ya (Xc (RX (Wz (Iu hr)) (Wa (Eb (F_are_within.mono (by decide)) hr (Ea (Na 0) (Ea (Na 1) Za)))) (Wa (Eb (F_are_within.mono (by decide)) hr (Ea (Na 1) (Ea (Na 0) Za)))))))
theorem Jc:FnScope ["spans","names","place","one","other"] ["spans"] (Ca Dc):=⟨rfl,rfl,rfl,by decide +kernel,rfl,by decide +kernel,by decide +kernel⟩
theorem Yk{f:Addr}{fd:FuncData}(F:Fun K "refuse_crossed" "refuse_crossed" Dc f fd)(hm:mg "refuse_crossed"=some (.ref f))(T:Txt K mg)(F_are_apart:Fn P w K mg base 1 "are_apart" 2 Fe)(F_are_nested:Fn P w K mg base 2 "are_nested" 2 Md):Fn P w K mg base 3 "refuse_crossed" 1 Cc:=
 Lc (k:=2) F Jc hm (F.binds (ps:= ["spans"]) λ_ _ _ _ _ _=>LM λ_=>rfl) λcdv A outer s H E hr=>
  (Ua (Zd 1 Jc.nd (Ce (Gy rfl T.n_list (Na 0))))
  (Ya (Hm PassesOwn.never rfl (Xw T.n_enumerate (Ea (Na 1) Za)) (Hu rfl (Dh (Hc 2 Jc.nd) (Dh (Hc 3 Jc.nd) Gu))) (Ya (Hm PassesOwn.never rfl (Sk (Ce (Bu (Ma 1) (Bk (Be (Ma 2) (Wa Fb))) Ho))) (Hc 4 Jc.nd) (Ya (Cl (JU (WG (FH (Aw (Eb (F_are_apart.mono (by decide)) hr (Ea (Dj (Zi 0) (Ma 3)) (Ea (Dj (Zi 0) (Ma 4)) Za))))) (Ux (FH (Aw (Eb (F_are_nested.mono (by decide)) hr (Ea (Dj (Zi 0) (Ma 3)) (Ea (Dj (Zi 0) (Ma 4)) Za)))))))) (Ya TW) Og)))))))
theorem Tf:FnScope ["house","name","members","reached","waiting","thing"] ["house","name"] (Ca Ff):=⟨rfl,rfl,rfl,by decide +kernel,rfl,by decide +kernel,by decide +kernel⟩
theorem Av{f:Addr}{fd:FuncData}(F:Fun K "doors_of" "doors_of" Ff f fd)(hm:mg "doors_of"=some (.ref f))(T:Txt K mg)  :Fn P w K mg base 1 "doors_of" 2 Af:=
 Lc (k:=0) F Tf hm (F.binds (ps:= ["house","name"]) λ_ _ _ _ _ _=>EC λ_ _=>rfl) λcdv A outer s H E hr=>
  (Ua (Zd 2 Tf.nd (Bt rfl T.n_dict (Wa (Ce (ZM (Wa (Tq T.o_House_wings (Na 0))) (Wa (Tq T.o_House_grants (Na 0))))))))
  (Ua (YS 3 Tf.nd)
  (Ua (Im 4 Tf.nd (Em (Ea (Na 1) Za)))
  (Ua (YL 100000 PassesOwn.never (Rh XN (Wa (Qh T.n_len (Ma 4))) (Wa Fb)) (Ua (ZS 5 4 Tf.nd)
  (Ya (Cl (CU (Ma 5) (Zi 3)) (Ua (AT 3 AH (Na 5))
  (Ya (US 4 (ZT (Zi 2) (Ea (Na 5) (Ea (Ce (Em Za)) Za)))))) Og))))
  (Ya (RW 3 (Xc (Ce (Ri ["door"] ["house","name","members","reached","waiting","thing"] (by walk_at "compok") rfl (Sk (Tq T.o_House_doors (Na 0))) (λC fp pins s H=>⟨(Hc 0 (show Nodup (["door","house","name","members","reached","waiting","thing"]:List Str) by decide +kernel)),(JN (TX (Ma 0) (Zi 4))),(Na 0)⟩))))))))))
theorem Rv:FnScope ["things"] ["things"] (Ca Jf):=⟨rfl,rfl,rfl,by decide +kernel,rfl,by decide +kernel,by decide +kernel⟩
theorem Dv{f:Addr}{fd:FuncData}(F:Fun K "names_of" "names_of" Jf f fd)(hm:mg "names_of"=some (.ref f))(T:Txt K mg)  :Fn P w K mg base 1 "names_of" 1 Cf:=
 Lc (k:=0) F Rv hm (F.binds (ps:= ["things"]) λ_ _ _ _ _ _=>LM λ_=>rfl) λcdv A outer s H E hr=>
  (Ya (Xc (Ce (Ri ["name","names"] ["things"] (by walk_at "compok") rfl (Sk (Na 0)) (λC fp pins s H=>⟨(Hu rfl (Dh (Hc 0 (show Nodup (["name","names","things"]:List Str) by decide +kernel)) (Dh (Hc 1 (show Nodup (["name","names","things"]:List Str) by decide +kernel)) Gu))),Vo,(Na 0)⟩)))))
theorem Sv:FnScope ["house"] ["house"] (Ca Kf):=⟨rfl,rfl,rfl,by decide +kernel,rfl,by decide +kernel,by decide +kernel⟩
theorem Ev{f:Addr}{fd:FuncData}(F:Fun K "spans_of" "spans_of" Kf f fd)(hm:mg "spans_of"=some (.ref f))(T:Txt K mg)(F_doors_of:Fn P w K mg base 1 "doors_of" 2 Af)(F_names_of:Fn P w K mg base 1 "names_of" 1 Cf):Fn P w K mg base 2 "spans_of" 1 Df:=
 Lc (k:=1) F Sv hm (F.binds (ps:= ["house"]) λ_ _ _ _ _ _=>LM λ_=>rfl) λcdv A outer s H E hr=>
  (Ya (Xc (Bt rfl T.n_dict (Wa (Ce (Ri ["name"] ["house"] (by walk_at "compok") rfl (Sk (Eb (F_names_of.mono (by decide)) hr (Ea (Tq T.o_House_grants (Na 0)) Za))) (λC fp pins s H=>⟨(Hc 0 (show Nodup (["name","house"]:List Str) by decide +kernel)),Vo,(Uq (Ea (Na 0) (Ea (Eb (F_doors_of.mono (by decide)) hr (Ea (Na 1) (Ea (Na 0) Za))) Za)))⟩)))))))
theorem Px:FnScope ["rules"] ["rules"] (Ca Fg):=⟨rfl,rfl,rfl,by decide +kernel,rfl,by decide +kernel,by decide +kernel⟩
theorem Kx{f:Addr}{fd:FuncData}(F:Fun K "step_of" "step_of" Fg f fd)(hm:mg "step_of"=some (.ref f))(T:Txt K mg)  :Fn P w K mg base 1 "step_of" 1 Lh:=
 Lc (k:=0) F Px hm (F.binds (ps:= ["rules"]) λ_ _ _ _ _ _=>LM λ_=>rfl) λcdv A outer s H E hr=>
  (Ya (Xc (Pm (Ma 0) (Wa Fb))))
theorem Jm:FnScope ["house","spans"] ["house"] (Ca Lf):=⟨rfl,rfl,rfl,by decide +kernel,rfl,by decide +kernel,by decide +kernel⟩
theorem Fv{f:Addr}{fd:FuncData}(F:Fun K "tower_in" "tower_in" Lf f fd)(hm:mg "tower_in"=some (.ref f))(T:Txt K mg)(F_depths_of:Fn P w K mg base 1 "depths_of" 1 Qf)(F_refuse_crossed:Fn P w K mg base 3 "refuse_crossed" 1 Cc)(F_spans_of:Fn P w K mg base 2 "spans_of" 1 Df)(F_step_of:Fn P w K mg base 1 "step_of" 1 Lh):Fn P w K mg base 4 "tower_in" 1 Hd:=
 Lc (k:=3) F Jm hm (F.binds (ps:= ["house"]) λ_ _ _ _ _ _=>LM λ_=>rfl) λcdv A outer s H E hr=>
  (Ua (Zd 1 Jm.nd (Eb (F_spans_of.mono (by decide)) hr (Ea (Na 0) Za)))
  (Ua (SS (Eb (F_refuse_crossed.mono (by decide)) hr (Ea (Na 1) Za)))
  (Ua (Cl (Rh YN (Wa (Eb (F_step_of.mono (by decide)) hr (Ea (Tq T.o_House_rules (Na 0)) Za))) (Wa (ON (Wa (Eb (F_depths_of.mono (by decide)) hr (Ea (Tq T.o_House_rules (Na 0)) Za))) (Wa Fb)))) (Ya TW) Og)
  (Ya (Xc (Na 1))))))
theorem Qv:FnScope ["house","name"] ["house","name"] (Ca Hf):=⟨rfl,rfl,rfl,by decide +kernel,rfl,by decide +kernel,by decide +kernel⟩
theorem Cv{f:Addr}{fd:FuncData}(F:Fun K "elder_of" "elder_of" Hf f fd)(hm:mg "elder_of"=some (.ref f))(T:Txt K mg)(F_elder_in:Fn P w K mg base 3 "elder_in" 2 Bf)(F_tower_in:Fn P w K mg base 4 "tower_in" 1 Hd):Fn P w K mg base 5 "elder_of" 2 Ed:=
 Lc (k:=4) F Qv hm (F.binds (ps:= ["house","name"]) λ_ _ _ _ _ _=>EC λ_ _=>rfl) λcdv A outer s H E hr=>
  (Ya (Xc (Eb (F_elder_in.mono (by decide)) hr (Ea (Eb (F_tower_in.mono (by decide)) hr (Ea (Na 0) Za)) (Ea (Na 1) Za)))))
theorem Ps:FnScope ["spans"] ["spans"] (Ca Le):=⟨rfl,rfl,rfl,by decide +kernel,rfl,by decide +kernel,by decide +kernel⟩
theorem Es{f:Addr}{fd:FuncData}(F:Fun K "levels_in" "levels_in" Le f fd)(hm:mg "levels_in"=some (.ref f))(T:Txt K mg)(F_keys_above:Fn P w K mg base 2 "keys_above" 2 Ic):Fn P w K mg base 3 "levels_in" 1 Ge:=
 Lc (k:=2) F Ps hm (F.binds (ps:= ["spans"]) λ_ _ _ _ _ _=>LM λ_=>rfl) λcdv A outer s H E hr=>
  (Ya (Xc (Bt rfl T.n_dict (Wa (Ce (Ri ["name"] ["spans"] (by walk_at "compok") rfl (TD (Na 0)) (λC fp pins s H=>⟨(Hc 0 (show Nodup (["name","spans"]:List Str) by decide +kernel)),Vo,(Uq (Ea (Na 0) (Ea (Qh T.n_len (Wa (Eb (F_keys_above.mono (by decide)) hr (Ea (Na 1) (Ea (Na 0) Za))))) Za)))⟩)))))))
theorem Qs:FnScope ["house"] ["house"] (Ca Me):=⟨rfl,rfl,rfl,by decide +kernel,rfl,by decide +kernel,by decide +kernel⟩
theorem Fs{f:Addr}{fd:FuncData}(F:Fun K "levels_of" "levels_of" Me f fd)(hm:mg "levels_of"=some (.ref f))(T:Txt K mg)(F_levels_in:Fn P w K mg base 3 "levels_in" 1 Ge)(F_tower_in:Fn P w K mg base 4 "tower_in" 1 Hd):Fn P w K mg base 5 "levels_of" 1 Fd:=
 Lc (k:=4) F Qs hm (F.binds (ps:= ["house"]) λ_ _ _ _ _ _=>LM λ_=>rfl) λcdv A outer s H E hr=>
  (Ya (Xc (Eb (F_levels_in.mono (by decide)) hr (Ea (Eb (F_tower_in.mono (by decide)) hr (Ea (Na 0) Za)) Za))))
theorem Vd:FnScope ["_law_script","_law_elders_here","_law_depths","_law_rules","_law_house_here","_law_levels","_law_k","_law_at","_law_order_here","_law_found","_law_name_here","_law_due","_law_told"] ["_law_script"] (Ca Dl):=⟨rfl,rfl,rfl,by decide +kernel,rfl,by decide +kernel,by decide +kernel⟩
theorem BR{f:Addr}{fd:FuncData}(F:Fun K "law" "law" Dl f fd)(T:Txt K mg)(F__law_cell:Fn P w K mg base 1 "_law_cell" 2 Oa)(F__law_elders:Fn P w K mg base 1 "_law_elders" 2 Mc)(F__law_house:Fn P w K mg base 4 "_law_house" 3 Sc)(F__law_name:Fn P w K mg base 2 "_law_name" 2 Pa)(F__law_order:Fn P w K mg base 2 "_law_order" 2 Jb)(F_elder_of:Fn P w K mg base 5 "elder_of" 2 Ed)(F_levels_of:Fn P w K mg base 5 "levels_of" 1 Fd):FnOk P w K mg base Qm 6 f fd ["_law_script"] (ET K 1 QE):=
 ZP (k:=5) F Vd λcdv A outer s H E hr=>
  (Ua (Zd 1 Vd.nd (Eb (F__law_elders.mono (by decide)) hr (Ea (Na 0) (Ea Fb Za))))
  (Ua (Zd 2 Vd.nd (Be (Wa Fb) (Wa (Ah (Wa (Eb (F__law_cell.mono (by decide)) hr (Ea (Na 0) (Ea Fb Za)))) (Wa Fb)))))
  (Ua (Zd 3 Vd.nd (Uq (Ea (Be (Wa Fb) (Wa (Ah (Wa (Eb (F__law_cell.mono (by decide)) hr (Ea (Na 0) (Ea Fb Za)))) (Wa Fb)))) (Ea (Na 2) (Ea (Be (Wa Fb) (Wa (Ah (Wa (Eb (F__law_cell.mono (by decide)) hr (Ea (Na 0) (Ea Fb Za)))) (Ma 2)))) (Ea (ON (Ma 2) (Wa Fb)) Za))))))
  (Ua (Zd 4 Vd.nd (Eb (F__law_house.mono (by decide)) hr (Ea (Na 0) (Ea (Na 1) (Ea (Na 3) Za)))))
  (Ua (Im 5 Vd.nd (Em Za))
  (Ua (Hm PassesOwn.never rfl (Xw T.n_enumerate (Ea (Na 1) Za)) (Hu rfl (Dh (Hc 6 Vd.nd) (Dh (Hc 7 Vd.nd) Gu))) (Ya (Cl (UX (Ma 7)) (Ya (Sf 5 Fb)) (Ya (Sf 5 (Be (Wa (Pm (Ma 5) (Ma 7))) (Wa Fb)))))))
  (Ua (Zd 8 Vd.nd (Eb (F__law_order.mono (by decide)) hr (Ea (Na 0) (Ea (Qh T.n_len (Ma 1)) Za))))
  (Ua (Zd 9 Vd.nd (Eb (F_levels_of.mono (by decide)) hr (Ea (Na 4) Za)))
  (Ua (Cl (JU (YT (FH (Aw (MN YD (by decide +kernel) T.n_isinstance T.n_dict (Ma 9)))) (YG (Rh (Wz (Iu hr)) (Wa (Ce (Gy rfl T.n_list (Na 9)))) (Wa (Ce (Ri ["_law_k"] ["_law_script","_law_elders_here","_law_depths","_law_rules","_law_house_here","_law_levels","?","_law_at","_law_order_here","_law_found","_law_name_here","_law_due","_law_told"] (by walk_at "compok") rfl (Sk (Na 8)) (λC fp pins s H=>⟨(Hc 0 (show Nodup (["_law_k","_law_script","_law_elders_here","_law_depths","_law_rules","_law_house_here","_law_levels","?","_law_at","_law_order_here","_law_found","_law_name_here","_law_due","_law_told"]:List Str) by decide +kernel)),Vo,(Eb (F__law_name.mono (by decide)) hr (Ea (Na 1) (Ea (Be (Wa Fb) (Ma 0)) Za)))⟩)))))))) (Ya (Xc AH)) Og)
  (Ua (Hm PassesOwn.never rfl (Xw T.n_enumerate (Ea (Na 1) Za)) (Hu rfl (Dh (Hc 6 Vd.nd) (Dh (Hc 7 Vd.nd) Gu))) (Ua (Zd 10 Vd.nd (Eb (F__law_name.mono (by decide)) hr (Ea (Na 0) (Ea (Be (Wa Fb) (Ma 6)) Za))))
  (Ua (Cl (JU (YT (Rh (Wz (Iu hr)) (Wa (Dj (Zi 9) (Ma 10))) (Wa (Pm (Ma 5) (Ma 6)))) (YG (Aw (MN XD (by decide +kernel) T.n_isinstance T.n_bool (Wa (Dj (Zi 9) (Ma 10)))))))) (Ya (Xc AH)) Og)
  (Ua (Zd 11 Vd.nd DH)
  (Ua (Cl (DU (Ma 7)) (Ya (Zd 11 Vd.nd (Eb (F__law_name.mono (by decide)) hr (Ea (Na 0) (Ea (Be (Wa Fb) (Ma 7)) Za))))) Og)
  (Ua (Zd 12 Vd.nd (Eb (F_elder_of.mono (by decide)) hr (Ea (Na 4) (Ea (Na 10) Za))))
  (Ya (Cl (JU (YT (Rh (Wz (Iu hr)) (Ma 12) (Ma 11)) (YG (Rh (Wz (Iu hr)) (Wa (LN (Ma 12))) (Wa (LN (Ma 11))))))) (Ya (Xc AH)) Og))))))))
  (Ya (Xc AH))))))))))))
end
theorem all_mk{l:PySem.W.OpenLaw}{w:World}{K:Frag}{h:Heap}{mg:Str->Option Value}{fa:Addr}(X:K.In h)(G:h.Ns mainGlobals mg)(hfa:mg "law"=some (.ref fa)){f0:Addr}{od0 an0:Option Addr}{sl0:Array (Option Value)}{oc0 kV0 dc0 pm0 cd0 ct0:Value}{f1:Addr}{od1 an1:Option Addr}{sl1:Array (Option Value)}{oc1 kV1 dc1 pm1 cd1 ct1:Value}{f2:Addr}{od2 an2:Option Addr}{sl2:Array (Option Value)}{oc2 kV2 dc2 pm2 cd2 ct2:Value}{f3:Addr}{od3 an3:Option Addr}{sl3:Array (Option Value)}{oc3 kV3 dc3 pm3 cd3 ct3:Value}{C3:Addr}{f4:Addr}{od4 an4:Option Addr}{sl4:Array (Option Value)}{oc4 kV4 dc4 pm4 cd4 ct4:Value}{f5:Addr}{od5 an5:Option Addr}{sl5:Array (Option Value)}{oc5 kV5 dc5 pm5 cd5 ct5:Value}{f6:Addr}{od6 an6:Option Addr}{sl6:Array (Option Value)}{oc6 kV6 dc6 pm6 cd6 ct6:Value}{f7:Addr}{od7 an7:Option Addr}{sl7:Array (Option Value)}{oc7 kV7 dc7 pm7 cd7 ct7:Value}{f8:Addr}{od8 an8:Option Addr}{sl8:Array (Option Value)}{oc8 kV8 dc8 pm8 cd8 ct8:Value}{f9:Addr}{od9 an9:Option Addr}{sl9:Array (Option Value)}{oc9 kV9 dc9 pm9 cd9 ct9:Value}{f10:Addr}{od10 an10:Option Addr}{sl10:Array (Option Value)}{oc10 kV10 dc10 pm10 ct10:Value}{tcd:Addr}{f11:Addr}{od11 an11:Option Addr}{sl11:Array (Option Value)}{oc11 kV11 dc11 pm11 cd11 ct11:Value}{f12:Addr}{od12 an12:Option Addr}{sl12:Array (Option Value)}{oc12 kV12 dc12 pm12 cd12 ct12:Value}{f13:Addr}{od13 an13:Option Addr}{sl13:Array (Option Value)}{oc13 kV13 dc13 pm13 cd13 ct13:Value}{f14:Addr}{od14 an14:Option Addr}{sl14:Array (Option Value)}{oc14 kV14 dc14 pm14 cd14 ct14:Value}{f15:Addr}{od15 an15:Option Addr}{sl15:Array (Option Value)}{oc15 kV15 dc15 pm15 cd15 ct15:Value}{f16:Addr}{od16 an16:Option Addr}{sl16:Array (Option Value)}{oc16 kV16 dc16 pm16 cd16 ct16:Value}{f17:Addr}{od17 an17:Option Addr}{sl17:Array (Option Value)}{oc17 kV17 dc17 pm17 cd17 ct17:Value}{f18:Addr}{od18 an18:Option Addr}{sl18:Array (Option Value)}{oc18 kV18 dc18 pm18 cd18 ct18:Value}{f19:Addr}{od19 an19:Option Addr}{sl19:Array (Option Value)}{oc19 kV19 dc19 pm19 cd19 ct19:Value}{f20:Addr}{od20 an20:Option Addr}{sl20:Array (Option Value)}{oc20 kV20 dc20 pm20 cd20 ct20:Value}{f21:Addr}{od21 an21:Option Addr}{sl21:Array (Option Value)}{oc21 kV21 dc21 pm21 cd21 ct21:Value}{f22:Addr}{od22 an22:Option Addr}{sl22:Array (Option Value)}{oc22 kV22 dc22 pm22 cd22 ct22:Value}{f23:Addr}{od23 an23:Option Addr}{sl23:Array (Option Value)}{oc23 kV23 dc23 pm23 cd23 ct23:Value}(a0:nsIn K mainGlobals "_law_cell"=some (some (.ref f0)))(l0:K.lookup f0=some ⟨oc0,od0,.func (fnOf "_law_cell" "_law_cell" (Gb He) (Bb He) (Ca He) .none kV0 dc0 pm0 an0 cd0 ct0),sl0⟩)(c0:codeIn K cd0 "_law_cell"=true)(k0:keepIn K (.ref f0)=true)(a1:nsIn K mainGlobals "_law_elders"=some (some (.ref f1)))(l1:K.lookup f1=some ⟨oc1,od1,.func (fnOf "_law_elders" "_law_elders" (Gb Vc) (Bb Vc) (Ca Vc) .none kV1 dc1 pm1 an1 cd1 ct1),sl1⟩)(c1:codeIn K cd1 "_law_elders"=true)(k1:keepIn K (.ref f1)=true)(a2:nsIn K mainGlobals "copied"=some (some (.ref f2)))(l2:K.lookup f2=some ⟨oc2,od2,.func (fnOf "copied" "copied" (Gb Nh) (Bb Nh) (Ca Nh) .none kV2 dc2 pm2 an2 cd2 ct2),sl2⟩)(c2:codeIn K cd2 "copied"=true)(k2:keepIn K (.ref f2)=true)(aC3:nsIn K mainGlobals "House"=some (some (.ref C3)))(a3:findIn K (.ref C3) "__init__"=some (some (.ref f3)))(i3:isFn K (.ref f3)=true)(l3:K.lookup f3=some ⟨oc3,od3,.func (fnOf "__init__" "House.__init__" (Gb Jj) (Bb Jj) (Ca Jj) .none kV3 dc3 pm3 an3 cd3 ct3),sl3⟩)(c3:codeIn K cd3 "House.__init__"=true)(k3:keepIn K (.ref f3)=true)(pg3:plainGet K C3 Str.empty=true)(hd3:hasDictIn K C3=true)(po3:plainOver K C3=true)(sa3:findIn K (.ref C3) "__setattr__"=some (some (.builtin "object.__setattr__")))(mk3:makesIn K C3=true)(kc3:keepIn K (.ref C3)=true)(n3_rules:findIn K (.ref C3) "rules"=some none)(n3_doors:findIn K (.ref C3) "doors"=some none)(n3_wings:findIn K (.ref C3) "wings"=some none)(n3_grants:findIn K (.ref C3) "grants"=some none)(a4:nsIn K mainGlobals "_law_beneath"=some (some (.ref f4)))(l4:K.lookup f4=some ⟨oc4,od4,.func (fnOf "_law_beneath" "_law_beneath" (Gb Qc) (Bb Qc) (Ca Qc) .none kV4 dc4 pm4 an4 cd4 ct4),sl4⟩)(c4:codeIn K cd4 "_law_beneath"=true)(k4:keepIn K (.ref f4)=true)(a5:nsIn K mainGlobals "_law_name"=some (some (.ref f5)))(l5:K.lookup f5=some ⟨oc5,od5,.func (fnOf "_law_name" "_law_name" (Gb Ie) (Bb Ie) (Ca Ie) .none kV5 dc5 pm5 an5 cd5 ct5),sl5⟩)(c5:codeIn K cd5 "_law_name"=true)(k5:keepIn K (.ref f5)=true)(a6:nsIn K mainGlobals "_law_order"=some (some (.ref f6)))(l6:K.lookup f6=some ⟨oc6,od6,.func (fnOf "_law_order" "_law_order" (Gb Od) (Bb Od) (Ca Od) .none kV6 dc6 pm6 an6 cd6 ct6),sl6⟩)(c6:codeIn K cd6 "_law_order"=true)(k6:keepIn K (.ref f6)=true)(a7:nsIn K mainGlobals "_law_house"=some (some (.ref f7)))(l7:K.lookup f7=some ⟨oc7,od7,.func (fnOf "_law_house" "_law_house" (Gb Nd) (Bb Nd) (Ca Nd) .none kV7 dc7 pm7 an7 cd7 ct7),sl7⟩)(c7:codeIn K cd7 "_law_house"=true)(k7:keepIn K (.ref f7)=true)(a8:nsIn K mainGlobals "are_within"=some (some (.ref f8)))(l8:K.lookup f8=some ⟨oc8,od8,.func (fnOf "are_within" "are_within" (Gb Qd) (Bb Qd) (Ca Qd) .none kV8 dc8 pm8 an8 cd8 ct8),sl8⟩)(c8:codeIn K cd8 "are_within"=true)(k8:keepIn K (.ref f8)=true)(a9:nsIn K mainGlobals "keys_above"=some (some (.ref f9)))(l9:K.lookup f9=some ⟨oc9,od9,.func (fnOf "keys_above" "keys_above" (Gb Sd) (Bb Sd) (Ca Sd) .none kV9 dc9 pm9 an9 cd9 ct9),sl9⟩)(c9:codeIn K cd9 "keys_above"=true)(k9:keepIn K (.ref f9)=true)(a10:nsIn K mainGlobals "elder_in"=some (some (.ref f10)))(l10:K.lookup f10=some ⟨oc10,od10,.func (fnOf "elder_in" "elder_in" (Gb Gf) (Bb Gf) (Ca Gf) .none kV10 dc10 pm10 an10 (.ref tcd) ct10),sl10⟩)(c10:codeIn K (.ref tcd) "elder_in"=true)(k10:keepIn K (.ref f10)=true)(tz:codeHdIn K tcd 136=true)(ty:K.lookup 136=none)(a11:nsIn K mainGlobals "depths_of"=some (some (.ref f11)))(l11:K.lookup f11=some ⟨oc11,od11,.func (fnOf "depths_of" "depths_of" (Gb Ke) (Bb Ke) (Ca Ke) .none kV11 dc11 pm11 an11 cd11 ct11),sl11⟩)(c11:codeIn K cd11 "depths_of"=true)(k11:keepIn K (.ref f11)=true)(a12:nsIn K mainGlobals "are_apart"=some (some (.ref f12)))(l12:K.lookup f12=some ⟨oc12,od12,.func (fnOf "are_apart" "are_apart" (Gb Je) (Bb Je) (Ca Je) .none kV12 dc12 pm12 an12 cd12 ct12),sl12⟩)(c12:codeIn K cd12 "are_apart"=true)(k12:keepIn K (.ref f12)=true)(a13:nsIn K mainGlobals "are_nested"=some (some (.ref f13)))(l13:K.lookup f13=some ⟨oc13,od13,.func (fnOf "are_nested" "are_nested" (Gb Pd) (Bb Pd) (Ca Pd) .none kV13 dc13 pm13 an13 cd13 ct13),sl13⟩)(c13:codeIn K cd13 "are_nested"=true)(k13:keepIn K (.ref f13)=true)(a14:nsIn K mainGlobals "refuse_crossed"=some (some (.ref f14)))(l14:K.lookup f14=some ⟨oc14,od14,.func (fnOf "refuse_crossed" "refuse_crossed" (Gb Dc) (Bb Dc) (Ca Dc) .none kV14 dc14 pm14 an14 cd14 ct14),sl14⟩)(c14:codeIn K cd14 "refuse_crossed"=true)(k14:keepIn K (.ref f14)=true)(a15:nsIn K mainGlobals "doors_of"=some (some (.ref f15)))(l15:K.lookup f15=some ⟨oc15,od15,.func (fnOf "doors_of" "doors_of" (Gb Ff) (Bb Ff) (Ca Ff) .none kV15 dc15 pm15 an15 cd15 ct15),sl15⟩)(c15:codeIn K cd15 "doors_of"=true)(k15:keepIn K (.ref f15)=true)(a16:nsIn K mainGlobals "names_of"=some (some (.ref f16)))(l16:K.lookup f16=some ⟨oc16,od16,.func (fnOf "names_of" "names_of" (Gb Jf) (Bb Jf) (Ca Jf) .none kV16 dc16 pm16 an16 cd16 ct16),sl16⟩)(c16:codeIn K cd16 "names_of"=true)(k16:keepIn K (.ref f16)=true)(a17:nsIn K mainGlobals "spans_of"=some (some (.ref f17)))(l17:K.lookup f17=some ⟨oc17,od17,.func (fnOf "spans_of" "spans_of" (Gb Kf) (Bb Kf) (Ca Kf) .none kV17 dc17 pm17 an17 cd17 ct17),sl17⟩)(c17:codeIn K cd17 "spans_of"=true)(k17:keepIn K (.ref f17)=true)(a18:nsIn K mainGlobals "step_of"=some (some (.ref f18)))(l18:K.lookup f18=some ⟨oc18,od18,.func (fnOf "step_of" "step_of" (Gb Fg) (Bb Fg) (Ca Fg) .none kV18 dc18 pm18 an18 cd18 ct18),sl18⟩)(c18:codeIn K cd18 "step_of"=true)(k18:keepIn K (.ref f18)=true)(a19:nsIn K mainGlobals "tower_in"=some (some (.ref f19)))(l19:K.lookup f19=some ⟨oc19,od19,.func (fnOf "tower_in" "tower_in" (Gb Lf) (Bb Lf) (Ca Lf) .none kV19 dc19 pm19 an19 cd19 ct19),sl19⟩)(c19:codeIn K cd19 "tower_in"=true)(k19:keepIn K (.ref f19)=true)(a20:nsIn K mainGlobals "elder_of"=some (some (.ref f20)))(l20:K.lookup f20=some ⟨oc20,od20,.func (fnOf "elder_of" "elder_of" (Gb Hf) (Bb Hf) (Ca Hf) .none kV20 dc20 pm20 an20 cd20 ct20),sl20⟩)(c20:codeIn K cd20 "elder_of"=true)(k20:keepIn K (.ref f20)=true)(a21:nsIn K mainGlobals "levels_in"=some (some (.ref f21)))(l21:K.lookup f21=some ⟨oc21,od21,.func (fnOf "levels_in" "levels_in" (Gb Le) (Bb Le) (Ca Le) .none kV21 dc21 pm21 an21 cd21 ct21),sl21⟩)(c21:codeIn K cd21 "levels_in"=true)(k21:keepIn K (.ref f21)=true)(a22:nsIn K mainGlobals "levels_of"=some (some (.ref f22)))(l22:K.lookup f22=some ⟨oc22,od22,.func (fnOf "levels_of" "levels_of" (Gb Me) (Bb Me) (Ca Me) .none kV22 dc22 pm22 an22 cd22 ct22),sl22⟩)(c22:codeIn K cd22 "levels_of"=true)(k22:keepIn K (.ref f22)=true)(a23:nsIn K mainGlobals "law"=some (some (.ref f23)))(l23:K.lookup f23=some ⟨oc23,od23,.func (fnOf "law" "law" (Gb Dl) (Bb Dl) (Ca Dl) .none kV23 dc23 pm23 an23 cd23 ct23),sl23⟩)(c23:codeIn K cd23 "law"=true)(k23:keepIn K (.ref f23)=true)(z0:nsIn K mainGlobals "bool"=some none)(z1:nsIn K mainGlobals "dict"=some none)(z2:nsIn K mainGlobals "enumerate"=some none)(z3:nsIn K mainGlobals "isinstance"=some none)(z4:nsIn K mainGlobals "len"=some none)(z5:nsIn K mainGlobals "list"=some none)(z6:nsIn K mainGlobals "min"=some none)(z7:nsIn K mainGlobals "range"=some none)(z8:nsIn K mainGlobals "set"=some none)
  :∃ fd:FuncData,(∀ (s:Shared) (v:Value),BindsTo s fd ⟨[v],[]⟩ [("_law_script",v)])/\(∀ q∈Gh,K.lookup q.1=none/\∃ c,codeHdIn K c q.1=true)/\∀ base:Heap,K.In base->base.Ns mainGlobals mg->BM base mg->FnOk l.prog w K mg base Qm 6 fa fd ["_law_script"] (EG K):=by
 have e:=hfa.symm.trans (mg_of X G a23)
 cases e
 have T:Txt K mg:=⟨mg_none_of X G z0,mg_none_of X G z1,mg_none_of X G z2,mg_none_of X G z3,mg_none_of X G z4,mg_none_of X G z5,mg_none_of X G z6,mg_none_of X G z7,mg_none_of X G z8,⟨⟨C3,aC3,⟨pg3,hd3,po3,sa3⟩,n3_doors⟩⟩,⟨⟨C3,aC3,⟨pg3,hd3,po3,sa3⟩,n3_grants⟩⟩,⟨⟨C3,aC3,⟨pg3,hd3,po3,sa3⟩,n3_rules⟩⟩,⟨⟨C3,aC3,⟨pg3,hd3,po3,sa3⟩,n3_wings⟩⟩⟩
 refine⟨fnOf "law" "law" (Gb Dl) (Bb Dl) (Ca Dl) .none kV23 dc23 pm23 an23 cd23 ct23,λs v=>.of_eq rfl,λq hq=>by cases mem_singleton.mp hq;exact⟨ty,_,tz⟩,λbase _ _ hB=>?_⟩
 have F__law_cell:Fn l.prog w K mg base 1 "_law_cell" 2 Oa:=As (Xb (st:=He) l0 c0 k0) (mg_of X G a0) T
 have F__law_elders:Fn l.prog w K mg base 1 "_law_elders" 2 Mc:=Io (Xb (st:=Vc) l1 c1 k1) (mg_of X G a1) T
 have F_copied:Fn l.prog w K mg base 1 "copied" 1 Lg:=HB (Xb (st:=Nh) l2 c2 k2) (mg_of X G a2) T
 have F_House:FnI l.prog w K mg base 3 "House" 4 4 Kg:=HF (Xb (st:=Jj) l3 c3 k3) ⟨mk3,a3,i3,kc3⟩ (mg_of X G aC3) aC3 ⟨pg3,hd3,po3,sa3⟩ n3_rules n3_doors n3_wings n3_grants T F_copied
 have F__law_beneath:Fn l.prog w K mg base 1 "_law_beneath" 2 Fc:=Nm (Xb (st:=Qc) l4 c4 k4) (mg_of X G a4) T
 have F__law_name:Fn l.prog w K mg base 2 "_law_name" 2 Pa:=Bs (Xb (st:=Ie) l5 c5 k5) (mg_of X G a5) T F__law_cell
 have F__law_order:Fn l.prog w K mg base 2 "_law_order" 2 Jb:=Ep (Xb (st:=Od) l6 c6 k6) (mg_of X G a6) T F__law_cell
 have F__law_house:Fn l.prog w K mg base 4 "_law_house" 3 Sc:=Dp (Xb (st:=Nd) l7 c7 k7) (mg_of X G a7) T F_House F__law_beneath F__law_cell F__law_name F__law_order
 have F_are_within:Fn l.prog w K mg base 1 "are_within" 2 Yb:=Gp (Xb (st:=Qd) l8 c8 k8) (mg_of X G a8) T
 have F_keys_above:Fn l.prog w K mg base 2 "keys_above" 2 Ic:=Ip (Xb (st:=Sd) l9 c9 k9) (mg_of X G a9) T F_are_within
 have F_elder_in:Fn l.prog w K mg base 3 "elder_in" 2 Bf:=Bv rfl tz hB (Xb (st:=Gf) l10 c10 k10) (mg_of X G a10) T F_keys_above
 have F_depths_of:Fn l.prog w K mg base 1 "depths_of" 1 Qf:=Ds (Xb (st:=Ke) l11 c11 k11) (mg_of X G a11) T
 have F_are_apart:Fn l.prog w K mg base 1 "are_apart" 2 Fe:=Cs (Xb (st:=Je) l12 c12 k12) (mg_of X G a12) T
 have F_are_nested:Fn l.prog w K mg base 2 "are_nested" 2 Md:=Fp (Xb (st:=Pd) l13 c13 k13) (mg_of X G a13) T F_are_within
 have F_refuse_crossed:Fn l.prog w K mg base 3 "refuse_crossed" 1 Cc:=Yk (Xb (st:=Dc) l14 c14 k14) (mg_of X G a14) T F_are_apart F_are_nested
 have F_doors_of:Fn l.prog w K mg base 1 "doors_of" 2 Af:=Av (Xb (st:=Ff) l15 c15 k15) (mg_of X G a15) T
 have F_names_of:Fn l.prog w K mg base 1 "names_of" 1 Cf:=Dv (Xb (st:=Jf) l16 c16 k16) (mg_of X G a16) T
 have F_spans_of:Fn l.prog w K mg base 2 "spans_of" 1 Df:=Ev (Xb (st:=Kf) l17 c17 k17) (mg_of X G a17) T F_doors_of F_names_of
 have F_step_of:Fn l.prog w K mg base 1 "step_of" 1 Lh:=Kx (Xb (st:=Fg) l18 c18 k18) (mg_of X G a18) T
 have F_tower_in:Fn l.prog w K mg base 4 "tower_in" 1 Hd:=Fv (Xb (st:=Lf) l19 c19 k19) (mg_of X G a19) T F_depths_of F_refuse_crossed F_spans_of F_step_of
 have F_elder_of:Fn l.prog w K mg base 5 "elder_of" 2 Ed:=Cv (Xb (st:=Hf) l20 c20 k20) (mg_of X G a20) T F_elder_in F_tower_in
 have F_levels_in:Fn l.prog w K mg base 3 "levels_in" 1 Ge:=Es (Xb (st:=Le) l21 c21 k21) (mg_of X G a21) T F_keys_above
 have F_levels_of:Fn l.prog w K mg base 5 "levels_of" 1 Fd:=Fs (Xb (st:=Me) l22 c22 k22) (mg_of X G a22) T F_levels_in F_tower_in
 exact UQ (BR (Xb (st:=Dl) l23 c23 k23) T F__law_cell F__law_elders F__law_house F__law_name F__law_order F_elder_of F_levels_of) law_true
theorem tabs_nd:∀ q∈Gh,Gh.find? (λr=>r.1==q.1)=some q:=λq hq=>by cases mem_singleton.mp hq;rfl
end G
open PySem PySem.W PyProof.Rows
set_option maxRecDepth 100000 in
set_option maxHeartbeats 0 in
theorem PySem.W.Fast.tw11505769777207219196 : True := trivial
theorem PySem.W.Fast.tw1003537399652486488 : True := trivial
theorem PySem.W.Fast.tw3682282444990490933 : True := trivial
theorem PySem.W.Fast.tw12848761082326005378 : True := trivial
theorem PySem.W.Fast.tw8524429449191205505 : True := trivial
theorem PySem.W.Fast.tw11433069391349159071 : True := trivial
theorem PySem.W.Fast.tw17144389320435656593 : True := trivial
theorem PySem.W.Fast.tw4869653458432540582 : True := trivial
theorem PySem.W.Fast.tw12342052338838846313 : True := trivial
theorem PySem.W.Fast.tw15878801074377795843 : True := trivial
theorem PySem.W.Fast.tw7735989329492012765 : True := trivial
theorem PySem.W.Fast.tw17167316310464297521 : True := trivial
theorem PySem.W.Fast.tw12504229260862463660 : True := trivial
theorem PySem.W.Fast.tw15064013558181166449 : True := trivial
theorem PySem.W.Fast.tw3849537496671138691 : True := trivial
theorem PySem.W.Fast.tw8310338203127723386 : True := trivial
theorem PySem.Challenge.cw_wardsmith_k61_levels_and_elders_holds : PySem.Challenge.rw_wardsmith_k61_levels_and_elders.Holds := by
 w_on;o_law;k_head;(case hw=>w_witness2)
 k_fill
 refine L3.walkT (l:=PySem.Challenge.rw_wardsmith_k61_levels_and_elders) (k:=6) (x:="_law_script") rfl rfl ⟨rfl,by decide,by decide,rfl⟩ (λw h Y=>PySem.W.km_in_of Y) (λw h Y q hq=>by cases mem_singleton.mp hq;exact PySem.W.km_tabs_of Y _ (.head _)) G.tabs_nd ?F
 case F=>
  intro w mg fa h KX GG hmg
  refine' G.all_mk KX GG hmg ?a0 ?l0 ?c0 ?k0 ?a1 ?l1 ?c1 ?k1 ?a2 ?l2 ?c2 ?k2 ?aC3 ?a3 ?i3 ?l3 ?c3 ?k3 ?pg3 ?hd3 ?po3 ?sa3 ?mk3 ?kc3 ?n3_rules ?n3_doors ?n3_wings ?n3_grants ?a4 ?l4 ?c4 ?k4 ?a5 ?l5 ?c5 ?k5 ?a6 ?l6 ?c6 ?k6 ?a7 ?l7 ?c7 ?k7 ?a8 ?l8 ?c8 ?k8 ?a9 ?l9 ?c9 ?k9 ?a10 ?l10 ?c10 ?k10 ?tz ?ty ?a11 ?l11 ?c11 ?k11 ?a12 ?l12 ?c12 ?k12 ?a13 ?l13 ?c13 ?k13 ?a14 ?l14 ?c14 ?k14 ?a15 ?l15 ?c15 ?k15 ?a16 ?l16 ?c16 ?k16 ?a17 ?l17 ?c17 ?k17 ?a18 ?l18 ?c18 ?k18 ?a19 ?l19 ?c19 ?k19 ?a20 ?l20 ?c20 ?k20 ?a21 ?l21 ?c21 ?k21 ?a22 ?l22 ?c22 ?k22 ?a23 ?l23 ?c23 ?k23 ?z0 ?z1 ?z2 ?z3 ?z4 ?z5 ?z6 ?z7 ?z8
  (case a0=>k_is);(case l0=>k_is);(case c0=>k_is);(case k0=>k_is);(case a1=>k_is);(case l1=>k_is)
  (case c1=>k_is);(case k1=>k_is);(case a2=>k_is);(case l2=>k_is);(case c2=>k_is);(case k2=>k_is)
  (case aC3=>k_is);(case a3=>k_is);(case i3=>k_is);(case l3=>k_is);(case c3=>k_is);(case k3=>k_is)
  (case pg3=>k_is);(case hd3=>k_is);(case po3=>k_is);(case sa3=>k_is);(case mk3=>k_is);(case kc3=>k_is)
  (case n3_rules=>k_is);(case n3_doors=>k_is);(case n3_wings=>k_is);(case n3_grants=>k_is);(case a4=>k_is);(case l4=>k_is)
  (case c4=>k_is);(case k4=>k_is);(case a5=>k_is);(case l5=>k_is);(case c5=>k_is);(case k5=>k_is)
  (case a6=>k_is);(case l6=>k_is);(case c6=>k_is);(case k6=>k_is);(case a7=>k_is);(case l7=>k_is)
  (case c7=>k_is);(case k7=>k_is);(case a8=>k_is);(case l8=>k_is);(case c8=>k_is);(case k8=>k_is)
  (case a9=>k_is);(case l9=>k_is);(case c9=>k_is);(case k9=>k_is);(case a10=>k_is);(case l10=>k_is)
  (case c10=>k_is);(case k10=>k_is);(case tz=>kernel_rfl);(case ty=>kernel_rfl);(case a11=>k_is);(case l11=>k_is)
  (case c11=>k_is);(case k11=>k_is);(case a12=>k_is);(case l12=>k_is);(case c12=>k_is);(case k12=>k_is)
  (case a13=>k_is);(case l13=>k_is);(case c13=>k_is);(case k13=>k_is);(case a14=>k_is);(case l14=>k_is)
  (case c14=>k_is);(case k14=>k_is);(case a15=>k_is);(case l15=>k_is);(case c15=>k_is);(case k15=>k_is)
  (case a16=>k_is);(case l16=>k_is);(case c16=>k_is);(case k16=>k_is);(case a17=>k_is);(case l17=>k_is)
  (case c17=>k_is);(case k17=>k_is);(case a18=>k_is);(case l18=>k_is);(case c18=>k_is);(case k18=>k_is)
  (case a19=>k_is);(case l19=>k_is);(case c19=>k_is);(case k19=>k_is);(case a20=>k_is);(case l20=>k_is)
  (case c20=>k_is);(case k20=>k_is);(case a21=>k_is);(case l21=>k_is);(case c21=>k_is);(case k21=>k_is)
  (case a22=>k_is);(case l22=>k_is);(case c22=>k_is);(case k22=>k_is);(case a23=>k_is);(case l23=>k_is)
  (case c23=>k_is);(case k23=>k_is);(case z0=>k_is);(case z1=>k_is);(case z2=>k_is);(case z3=>k_is)
  (case z4=>k_is);(case z5=>k_is);(case z6=>k_is);(case z7=>k_is);(case z8=>k_is)
