import PyProof.Rows.All
import Wide.All
import OpenK.AllK
import Wide.FinOn
import Lean
import PyProof.EqAt
import PyProof.EqKinds
import PyProof.TupleCall
import PyProof.ZipIter
import PyProof.Draws
import PyProof.TupleIter
import PyProof.ListMulRoad
import PyProof.FactsAll.tuple
import PyProof.ReprRoads
import PyProof.Rows.RegFStrParts
import PyProof.Rows.Range3
import KE.KIntText
import PyProof.AutoListH
import PyProof.Rows.MinMaxN
import PyProof.SetScanFacts
import PyProof.SetKind
import PyProof.DictKinds
import PyProof.WalkLemmas
import PyProof.CollectWalk
import PyProof.FactsAll.set
import PyProof.Walks
import PyProof.WalksS
import PyProof.SetRoads
import PyProof.Rows.SetFrom
import PyProof.Rows.SortWalk
import PyProof.EnumMake
import PyProof.EnumFor
import PyProof.DictItemsLoops
import PyProof.DictWalks
import KE.KDictList
import PyProof.Rows.SumAny
import KE.KRevIter
import KE.KDictOf
import PyProof.AttrMissHeap
import PyProof.NsDelKeeps
import PyProof.RulesAs
import KE.KTryMore
import PyProof.ExcArgsOwn
import KE.KUnpack
import PyProof.ExcClass2
import OpenK.KMake
import OpenK.KGet
import PyProof.InstStore
import PyProof.InstStoreFacts
import OpenK.KCls
import OpenK.KMore
import PyProof.FString4
import PyProof.StrLawsRepr
import KE.KEqDict
import KE.KItemsList
import PySem.Challenge.RW_wardsmith_k41_barrels_of_a_plan
noncomputable section
open PySem.W (Frag nsIn findIn keepIn fnOf mg_of codeIn hideAll mg_none_of mroIn hasDictIn emptyDict kia_one instObj kitAny specialIn exmOne hideAll_none plainGet typeIn callWith_K cellsFrom_some tail_of_in methodObj hideAll_get of_hideAll lookIn plainOver takerIn makesIn isFn kitOne nsOkIn tailIn readsIn findCls)
open List (range length_map map_cons mem_cons_of_mem mem_cons replicate mem_cons_self mem_range length_nil length_range set_cons_zero set_cons_succ size_toArray lookup_cons mem_map getElem?_map getElem?_eq_getElem map_map Nodup length_append map_nil getElem?_set_ne not_mem_nil nil_append all_eq_true cons_append mem_singleton mem_append Pairwise map_append mem_append_right append_nil foldl_cons getElem?_range filterMap_cons Perm mem_of_getElem? length_singleton map_congr_left getD_eq_getElem?_getD filter_cons_of_pos getElem?_set_self nodup_cons replicate_succ append_assoc getElem?_eq_none forall_mem_cons mem_filter getElem?_set_self' filter_cons_of_neg pairwise_cons mem_reverse getElem?_append_right getElem?_append_left length_replicate mem_map_of_mem all_cons flatten_cons zip_cons_cons map_singleton nodup_range forall_mem_nil length_take any_cons)
open PySem.Heap (lt_size get?_push_of_some get?_push_size SameBut size_push FlyingW get?_update_self get?_update_other)
open Nat (le_refl ne_of_lt reduceAdd le_trans lt_of_lt_of_le lt_irrefl zero_le le_succ reduceSub reduceLeDiff le_of_lt lt_trans ne_of_gt lt_succ_self lt_or_ge zero_add)
open Bool (false_eq_true and_eq_true)
open Classical (propDecidable)
open Int (emod_nonneg emod_lt_of_pos)
open Option (isSome_iff_exists map_eq_some_iff map_some)
open Array (length_toList getElem?_toList getD size_append)
set_option Elab.async false
set_option linter.all false
set_option maxRecDepth 100000
namespace L2
open PySem PySem.Spec PyProof.Rows
abbrev Cb:=Sum Int Str
def Iv:Cb->Value->Bool
 | .inl k,v=>Value.isInt k v
 | .inr x,v=>Value.isStrOf x v
def X7(w:World):Cb->Int
 | .inl k=>hashInt k
 | .inr x=>hashStr w x
theorem Lc:∀ {k:Cb} {v:Value},Iv k v=true->(∃ i t,k=Sum.inl i/\v=Value.int i t)\/(∃ x t,k=Sum.inr x/\v=Value.str x t)
 | .inl i,v,h=>by
  obtain⟨t,e⟩:=Value.isInt_shape (k:=i) (v:=v) h
  exact .inl ⟨i,t,rfl,e⟩
 | .inr x,v,h=>by
  obtain⟨t,e⟩:=Value.isStrOf_shape (x:=x) (v:=v) h
  exact .inr ⟨x,t,rfl,e⟩
theorem UI(i:Int)(t:Tok):Iv (.inl i) (.int i t)=true:=by simp[Iv,Value.isInt]
theorem VI(x:Str)(t:Tok):Iv (.inr x) (.str x t)=true:=by simp[Iv,Value.isStrOf]
theorem Q2(a b:Int):decide ((Sum.inl a:Cb)=Sum.inl b)=(a==b):=by
 by_cases e:a=b
 .subst e;simp
 .have h:¬ (Sum.inl a:Cb)=Sum.inl b:=λq=>e (Sum.inl.inj q)
  rw[decide_eq_false h]
  exact(beq_eq_false_iff_ne.mpr e).symm
theorem V2(a b:Str):decide ((Sum.inr a:Cb)=Sum.inr b)=decide (a=b):=by
 by_cases e:a=b
 .subst e;simp
 .have h:¬ (Sum.inr a:Cb)=Sum.inr b:=λq=>e (Sum.inr.inj q)
  rw[decide_eq_false h,decide_eq_false e]
theorem T2(a:Int)(b:Str):decide ((Sum.inl a:Cb)=Sum.inr b)=false:=decide_eq_false (λq=>nomatch q)
theorem U2(a:Str)(b:Int):decide ((Sum.inr a:Cb)=Sum.inl b)=false:=decide_eq_false (λq=>nomatch q)
def Cd(prog:Program)(w:World):PySem.KeyKind prog w Cb where
 is:=Iv
 hash:=X7 w
 inj:=λv a b ha hb=>by
  rcases Lc ha with⟨i,t,rfl,rfl⟩|⟨x,t,rfl,rfl⟩
  .rcases Lc hb with⟨j,u,rfl,e⟩|⟨y,u,rfl,e⟩
   .injection e with e1 _;rw[e1]
   .exact nomatch e
  .rcases Lc hb with⟨j,u,rfl,e⟩|⟨y,u,rfl,e⟩
   .exact nomatch e
   .injection e with e1 _;rw[e1]
 byValue:=λk v h=>by
  rcases Lc h with⟨i,t,rfl,rfl⟩|⟨x,t,rfl,rfl⟩<;>rfl
 pyHash:=λhv h=>by
  rcases Lc hv with⟨i,t,rfl,rfl⟩|⟨x,t,rfl,rfl⟩
  .exact wpAny_pyHash_int h
  .exact wpAny_pyHash_str h
 eqBool:=λhu hv h=>by
  rcases Lc hu with⟨i,t,rfl,rfl⟩|⟨x,t,rfl,rfl⟩
  .rcases Lc hv with⟨j,u,rfl,rfl⟩|⟨y,u,rfl,rfl⟩
   .rw[Q2]at h;exact wpAny_eqBool_int h
   .rw[T2]at h;exact SeqAt.EqAt.int_str i t y u _ _ _ _ h
  .rcases Lc hv with⟨j,u,rfl,rfl⟩|⟨y,u,rfl,rfl⟩
   .rw[U2]at h;exact SeqAt.EqAt.str_int x t j u _ _ _ _ h
   .rw[V2]at h;exact wpAny_eqBool_str h
 «strs» :=λk x t v h=>by
  rcases Lc h with⟨i,u,rfl,e⟩|⟨y,u,rfl,e⟩
  .exact nomatch e
  .injection e with e1 _
   subst e1
   cases v<;>rfl
theorem Uz(prog:Program)(w:World)(i:Int)(t:Tok):(Cd prog w).is (.inl i) (.int i t)=true:=UI i t
theorem Vz(prog:Program)(w:World)(x:Str)(t:Tok):(Cd prog w).is (.inr x) (.str x t)=true:=VI x t
inductive V where
 |non|bl (b:Bool)|int (i:Int)|str (x:Str)|byt (b:Array UInt8)|flt (b:UInt64)|ref (a:Addr)|ty (n:String)
 deriving DecidableEq
def RelV:V->Value->Prop
 | .non,u=>u=Value.none
 | .bl b,u=>u=Value.bool b
 | .int i,u=>∃ t,u=Value.int i t
 | .str x,u=>∃ t,u=Value.str x t
 | .byt b,u=>∃ t,u=Value.bytes b t
 | .flt b,u=>∃ t,u=Value.float b t
 | .ref a,u=>u=Value.ref a
 | .ty n,u=>u=Value.type n
abbrev Vals:List V->List Value->Prop:=Paired RelV
variable{xs:List V}{us:List Value}
theorem Vals.length(r:Vals xs us):xs.length=us.length:=Paired.length r
theorem Vals.get:∀ {xs:List V} {us:List Value} {i:Nat} {x:V},Vals xs us->xs[i]? =some x->∃ u,us[i]? =some u/\RelV x u
 |_,_,_,_,.nil,e=>by simp at e
 |_,_,0,_,.cons r _,e=>by simp at e;subst e;exact⟨_,rfl,r⟩
 |_,_,i+1,x,.cons _ t,e=>by
  obtain⟨u,h1,h2⟩:=Vals.get (i:=i) (x:=x) t (by simpa using e)
  exact⟨u,by simpa using h1,h2⟩
variable{u:Value}
theorem Vals.set{x:V}(r:RelV x u):∀ {xs:List V} {us:List Value} (i:Nat),Vals xs us->Vals (xs.set i x) (us.set i u)
 |_,_,_,.nil=>.nil
 |_,_,0,.cons _ t=>.cons r t
 |_,_,i+1,.cons q t=>.cons q (Vals.set r i t)
theorem Vals.append:∀ {xs ys:List V} {us ws:List Value},Vals xs us->Vals ys ws->Vals (xs++ys) (us++ws)
 |_,_,_,_,.nil,s=>s
 |_,_,_,_,.cons r t,s=>.cons r (Vals.append t s)
theorem Vals.take:∀ {xs:List V} {us:List Value} (n:Nat),Vals xs us->Vals (xs.take n) (us.take n)
 |_,_,0,_=>.nil
 |_,_,_+1,.nil=>.nil
 |_,_,n+1,.cons r t=>.cons r (Vals.take n t)
theorem Vals.drop:∀ {xs:List V} {us:List Value} (n:Nat),Vals xs us->Vals (xs.drop n) (us.drop n)
 |_,_,0,r=>r
 |_,_,_+1,.nil=>.nil
 |_,_,n+1,.cons _ t=>Vals.drop n t
def RelO:Option V->Option Value->Prop
 |some v,some u=>RelV v u
 |none,none=>True
 |_,_=>False
def KV{κ:Type}:List (κ×V)->List (κ×Value)->Prop:=Paired λ(p:κ×V) (q:κ×Value)=>p.1=q.1/\RelV p.2 q.2
def kV:Cb->V
 | .inl i=>.int i
 | .inr x=>.str x
inductive HO where
  |lst (xs:List V)
  |tup (xs:List V)
  |dK (kvs:List (Cb×V))|dT (kvs:List (List Cb×V))
  |set (S:Int->Bool) (n:Nat)
  |ins (C dx:Addr) (fs:List (Str×V))
  |own (x:Addr)
  |xd (fs:List (Str×V))
  |met (f x:Addr)
  |rng (lo hi:Int)
  |frz (o:Obj) (u:HO)
  |tbl (ps:Array Value)
  |ext (φ:Heap->Prop)
abbrev Hp:=Addr->Option HO
def Jb(H:Hp)(a:Addr)(o:HO):Hp:=λb=>if b=a then some o else H b
variable{H:Hp}{a:Addr}{o:HO}
theorem Na:Jb H a o a=some o:=by unfold Jb;rw[if_pos rfl]
variable{b:Addr}
theorem Ha(h:b≠a):Jb H a o b=H b:=by unfold Jb;rw[if_neg h]
theorem BH{u:HO}:Jb (Jb H a o) a u=Jb H a u:=by
 funext b;unfold Jb;split<;>rfl
theorem Pa(h:H a=some o)(h':H b=none):a≠b:=by
 intro e;subst e;rw[h]at h';cases h'
section
variable (P:Program)(w:World)
def ObjOk(H:Hp)(h:Heap)(a:Addr):HO->Prop
 | .lst xs=>xs.length<=sizeLine/\∃ (its:List Value) (n:Nat),Vals xs its/\h.get? a=some {cls:=.type "list",data:=.seq its.toArray n}
 | .tup xs=>xs.length<=sizeLine/\∃ its:List Value,Vals xs its/\IsTup h a its.toArray
 | .dK kvs=>kvs.length<=sizeLine/\(a==sysModules)=false/\∃ vs,KV kvs vs/\h.DictOf (Cd P w) a vs
 | .dT kvs=>kvs.length<=sizeLine/\(a==sysModules)=false/\∃ xs:List (List Cb×Addr×Value),
   Paired (λ(p:List Cb×V) (q:List Cb×Addr×Value)=>p.1=q.1/\H q.2.1=some (.tup (p.1.map kV))/\RelV p.2 q.2.2) kvs xs/\
   ∃ o es ep,h.get? a=some o/\o.ExactDict/\o.data=.dict es ep/\es.toList=xs.map (entryOfKey (tupleKind (Cd P w)))/\(xs.map (·.1)).Nodup
 | .set S n=>h.SetOf (intKind P w) a S n
 | .ins C dx fs=>H dx=some (.own a)/\fs.length<=1000/\dx≠a/\h.get? a=some (instObj C dx)/\
   ∃ mA,h.Ns1 dx mA/\(∀ f,RelO (fs.lookup f) (mA f))/\PySem.Within mA (fs.map (·.1))
 | .own _=>∃ o,h.get? a=some o
 | .xd fs=>∃ mA,h.Ns1 a mA/\∀ f,RelO (fs.lookup f) (mA f)
 | .rng lo hi=>∃ t u v,h.get? a=some {cls:=.type "range",data:=.fields #[.int lo t,.int hi u,.int 1 v]}
 | .frz o u=>h.get? a=some o/\ObjOk H h a u
 | .tbl ps=>h.get? a=some {cls:=.none,data:=.fields ps}
 | .met f x=>h.get? a=some (methodObj (.ref f) (.ref x))
 | .ext φ=>φ h/\(∃ o,h.get? a=some o)/\∀ h1 h2:Heap,φ h1->(∀ o,h1.get? a=some o->h2.get? a=some o)->φ h2
def HOk(H:Hp)(h:Heap):Prop:=∀ a o,H a=some o->ObjOk P w H h a o
end
variable{P:Program}{w:World}{H':Hp}{h':Heap}{α:Type}
section
variable {h:Heap}
theorem ObjOk.lt(x:ObjOk P w H h a o):a<h.objs.size:=by
 cases o with
 |lst xs=>obtain⟨_,_,_,_,e⟩:=x;exact lt_size e
 |tup xs=>obtain⟨_,_,_,p⟩:=x;exact p.lt
 |dK kvs=>obtain⟨_,_,_,_,o,_,_,e,_⟩:=x;exact lt_size e
 |dT kvs=>obtain⟨_,_,_,_,o,_,_,e,_⟩:=x;exact lt_size e
 |set S n=>obtain⟨o,_,_,_,e,_⟩:=x;exact lt_size e
 |ins C dx fs=>obtain⟨_,_,_,e,_⟩:=x;exact lt_size e
 |own y=>obtain⟨_,e⟩:=x;exact lt_size e
 |xd fs=>obtain⟨_,⟨_,_,_,e,_⟩,_⟩:=x;exact lt_size e
 |rng lo hi=>obtain⟨_,_,_,e⟩:=x;exact lt_size e
 |frz ob u=>obtain⟨e,_⟩:=x;exact lt_size e
 |tbl ps=>exact lt_size (show h.get? a=some _ from x)
 |met f y=>exact lt_size (show h.get? a=some _ from x)
 |ext φ=>obtain⟨_,⟨_,e⟩,_⟩:=x;exact lt_size e
theorem Paired.mapP{β:Type}{F G:α->β->Prop}:∀ {l₁:List α} {l₂:List β},Paired F l₁ l₂->(∀ a b,F a b->G a b)->Paired G l₁ l₂
 |_,_,.nil,_=>.nil
 |_,_,.cons r t,f=>.cons (f _ _ r) (Paired.mapP t f)
theorem ObjOk.stay(x:ObjOk P w H h a o)(k:∀ b u,(b=a\/H b=some (.own a))->h.get? b=some u->h'.get? b=some u)(ho:∀ b,H b=some (.own a)->H' b=some (.own a))(ht:∀ b xs,H b=some (.tup xs)->H' b=some (.tup xs)):ObjOk P w H' h' a o:=by
 induction o with
 |lst xs=>obtain⟨z,its,n,r,e⟩:=x;exact⟨z,its,n,r,k _ _ (.inl rfl) e⟩
 |tup xs=>obtain⟨z,its,r,ob,e,c⟩:=x;exact⟨z,its,r,ob,k _ _ (.inl rfl) e,c⟩
 |dK kvs=>obtain⟨z,y,vs,r,ob,es,ep,e,c⟩:=x;exact⟨z,y,vs,r,ob,es,ep,k _ _ (.inl rfl) e,c⟩
 |dT kvs=>
  obtain⟨z,y,xs,r,ob,es,ep,e,c⟩:=x
  exact⟨z,y,xs,Paired.mapP r λp q z=>⟨z.1,ht _ _ z.2.1,z.2.2⟩,ob,es,ep,k _ _ (.inl rfl) e,c⟩
 |set S n=>obtain⟨ob,es,ep,t,e,c⟩:=x;exact⟨ob,es,ep,t,k _ _ (.inl rfl) e,c⟩
 |ins C dx fs=>
  obtain⟨d,z,ne,e,mA,⟨od,es,ep,e2,c⟩,r⟩:=x
  exact⟨ho _ d,z,ne,k _ _ (.inl rfl) e,mA,⟨od,es,ep,k _ _ (.inr d) e2,c⟩,r⟩
 |own y=>obtain⟨ob,e⟩:=x;exact⟨ob,k _ _ (.inl rfl) e⟩
 |xd fs=>obtain⟨mA,⟨od,es,ep,e,c⟩,r⟩:=x;exact⟨mA,⟨od,es,ep,k _ _ (.inl rfl) e,c⟩,r⟩
 |rng lo hi=>obtain⟨t,u,v,e⟩:=x;exact⟨t,u,v,k _ _ (.inl rfl) e⟩
 |frz ob u ih=>obtain⟨e,q⟩:=x;exact⟨k _ _ (.inl rfl) e,ih q⟩
 |tbl ps=>
  have e:h.get? a=some {cls:=.none,data:=.fields ps}:=x
  show h'.get? a=some {cls:=.none,data:=.fields ps}
  exact k a _ (.inl rfl) e
 |met f y=>
  have e:h.get? a=some (methodObj (.ref f) (.ref y)):=x
  show h'.get? a=some (methodObj (.ref f) (.ref y))
  exact k a _ (.inl rfl) e
 |ext φ=>obtain⟨p,⟨o,e⟩,st⟩:=x;exact⟨st _ _ p λo q=>k _ _ (.inl rfl) q,⟨o,k _ _ (.inl rfl) e⟩,st⟩
theorem HOk.lt(x:HOk P w H h)(e:H a=some o):a<h.objs.size:=(x a o e).lt
theorem HOk.fresh(x:HOk P w H h)(e:h.objs.size<=a):H a=none:=by
 cases q:H a with
 |none=>rfl
 |some u=>exact absurd (lt_of_lt_of_le (x.lt q) e) (lt_irrefl _)
theorem HOk.kept(x:HOk P w H h)(k:∀ b u,h.get? b=some u->h'.get? b=some u):HOk P w H h':=λa o e=>
 (x a o e).stay (λb u _ q=>k b u q) (λ_ q=>q) λ_ _ q=>q
theorem HOk.laid(x:HOk P w H h)(k:∀ b u,h.get? b=some u->h'.get? b=some u)(hp:h.objs.size<=a)(new:ObjOk P w (Jb H a o) h' a o):HOk P w (Jb H a o) h':=λb u e=>by
 have hn:=x.fresh hp
 by_cases hb:b=a
 .subst hb;rw[Na]at e;cases e;exact new
 .rw[Ha hb]at e
  exact(x b u e).stay (λc v _ q=>k c v q) (λc q=>by rw[Ha (Pa q hn)];exact q) λc xs q=>by rw[Ha (Pa q hn)];exact q
end
def Rd(H:Hp)(a:Addr)(u:HO):Prop:=H a=some u\/∃ o,H a=some (.frz o u)
theorem Rd.ok{h:Heap}{u:HO}(r:Rd H a u)(x:HOk P w H h):ObjOk P w H h a u:=by
 rcases r with r|⟨o,r⟩
 .exact x a u r
 .obtain⟨_,q⟩:=x a _ r
  exact q
def Z9:Option HO->Prop
 |some (.lst _)=>True
 |some (.dK _)=>True
 |some (.dT _)=>True
 |some (.set _ _)=>True
 |some (.ins _ _ _)=>True
 |some (.ext _)=>True
 |_=>False
variable{x e:Addr}
section
variable {h:Heap}{o':HO}
theorem HOk.write(ok:HOk P w H h)(mu:Z9 (H x))(he:e=x\/H e=some (.own x))(k:∀ b u,b≠e->h.get? b=some u->h'.get? b=some u)(heo:∃ u,h'.get? e=some u)(new:ObjOk P w (Jb H x o') h' x o'):HOk P w (Jb H x o') h':=λb u q=>by
 have nown:∀ c y,H c=some (.own y)->c≠x:=λc y r z=>by subst z;rw[r]at mu;exact mu
 have ntup:∀ c xs,H c=some (.tup xs)->c≠x:=λc xs r z=>by subst z;rw[r]at mu;exact mu
 by_cases hb:b=x
 .subst hb;rw[Na]at q;cases q;exact new
 .rw[Ha hb]at q
  by_cases hbe:b=e
  .have q':H b=some (.own x):=by
    rcases he with z|z
    .exact absurd (hbe.trans z) hb
    .rw[hbe];exact z
   rw[q]at q';cases q'
   obtain⟨v,hv⟩:=heo
   exact⟨v,by rw[hbe];exact hv⟩
  .refine(ok b u q).stay (λc v hc r=>k c v ?_ r) (λc r=>by rw[Ha (nown c b r)];exact r) λc xs r=>by rw[Ha (ntup c xs r)];exact r
   rcases hc with rfl|hc
   .exact hbe
   .rintro rfl
    rcases he with z|z
    .exact nown c b hc z
    .rw[hc]at z;cases z;exact hb rfl
end
structure Un(fs ex:List Addr)(H H':Hp)(h h':Heap):Prop where
 keep:∀ b o,h.get? b=some o->H b=none->b∉fs->b∉ex->h'.get? b=some o
 slot:∀ b o,h.get? b=some o->H b=none->b∈fs->b∉ex->∃ sl,h'.get? b=some {o with slots:=sl}
 free:∀ b o,h.get? b=some o->H b=none->b∉ex->H' b=none
 there:∀ b o,h.get? b=some o->b∉ex->∃ o',h'.get? b=some o'
 tups:∀ b xs,H b=some (.tup xs)->H' b=some (.tup xs)
 frzs:∀ b o u,H b=some (.frz o u)->H' b=some (.frz o u)
 tbls:∀ b ps,H b=some (.tbl ps)->∃ more,H' b=some (.tbl (ps++more))
section
variable {fs fs' ex ex':List Addr}{H1 H2:Hp}{h h1 h2:Heap}
theorem Un.any(u:Un fs ex H H1 h h1){ob:Obj}(q:h.get? b=some ob)(n:H b=none)(hx:b∉ex):∃ sl,h1.get? b=some {ob with slots:=sl}:=by
 by_cases hb:b∈fs
 .exact u.slot b ob q n hb hx
 .exact⟨ob.slots,u.keep b ob q n hb hx⟩
theorem Un.kept(k:∀ b u,h.get? b=some u->h'.get? b=some u):Un fs ex H H h h':=
 ⟨λb ob q _ _ _=>k b ob q,λb ob q _ _ _=>⟨ob.slots,k b ob q⟩,λ_ _ _ n _=>n,λb ob q _=>⟨ob,k b ob q⟩,λ_ _ q=>q,λ_ _ _ q=>q,λ_ ps q=>⟨#[],by rw[q];simp⟩⟩
theorem Un.refl:Un fs ex H H h h:=Un.kept λ_ _ q=>q
theorem Un.laid(k:∀ b u,h.get? b=some u->h'.get? b=some u)(hp:h.objs.size<=a)(hn:H a=none):Un fs ex H (Jb H a o) h h' where
 keep:=λb u q _ _ _=>k b u q
 slot:=λb u q _ _ _=>⟨u.slots,k b u q⟩
 free:=λb u q n _=>by rw[Ha (ne_of_lt (lt_of_lt_of_le (lt_size q) hp))];exact n
 there:=λb u q _=>⟨u,k b u q⟩
 tups:=λb xs q=>by rw[Ha (Pa q hn)];exact q
 frzs:=λb u xs q=>by rw[Ha (Pa q hn)];exact q
 tbls:=λb ps q=>⟨#[],by rw[Ha (Pa q hn),q];simp⟩
theorem Un.write(mu:Z9 (H x))(he:e=x\/H e=some (.own x))(k:∀ b u,b≠e->h.get? b=some u->h'.get? b=some u)(heo:∃ u,h'.get? e=some u):Un fs ex H (Jb H x o) h h':=by
 have hx:∀ b,H b=none->b≠x:=λb n z=>by subst z;rw[n]at mu;exact mu
 have hb:∀ b,H b=none->b≠e:=λb n z=>by
  subst z
  rcases he with r|r
  .exact hx b n r
  .rw[n]at r;cases r
 have hm:∀ b u,H b=some u->¬ Z9 (some u)->b≠x:=λb u q nm z=>by subst z;rw[q]at mu;exact nm mu
 refine⟨λb u q n _ _=>k b u (hb b n) q,λb u q n _ _=>⟨u.slots,k b u (hb b n) q⟩,λb u q n _=>by rw[Ha (hx b n)];exact n,λb u q _=>?_,
  λb xs q=>by rw[Ha (hm b _ q λz=>z)];exact q,λb u xs q=>by rw[Ha (hm b _ q λz=>z)];exact q,λb ps q=>⟨#[],by rw[Ha (hm b _ q λz=>z),q];simp⟩⟩
 by_cases hbe:b=e
 .subst hbe;exact heo
 .exact⟨u,k b u hbe q⟩
end
def trk(h:Heap)(H:Hp):List Addr:=(range h.objs.size).filter λa=>(H a).isSome
def Nw(h:Heap)(H:Hp):Heap:=hideAll h (trk h H)
theorem KI(h:Heap)(H:Hp):(Nw h H).objs.size=h.objs.size:=PySem.W.hideAll_size _ _
variable{o:Obj}
theorem MM{h:Heap}(e:h.get? b=some o)(n:H b=none):(Nw h H).get? b=some o:=
 hideAll_get _ e λhm=>by
  have q:(H b).isSome=true:=(mem_filter.mp hm).2
  rw[n]at q;simp at q
theorem JV{h:Heap}(e:(Nw h H).get? b=some o):h.get? b=some o/\H b=none:=by
 have e':h.get? b=some o:=of_hideAll (trk h H) e
 refine⟨e',?_⟩
 cases q:H b with
 |none=>rfl
 |some x=>
  have hm:b∈trk h H:=mem_filter.mpr ⟨mem_range.mpr (lt_size e'),by simp[q]⟩
  have z:(Nw h H).get? b=none:=hideAll_none (trk h H) hm
  rw[z]at e;cases e
def TR(g h:Heap)(L:Addr):List (Addr×Obj):=(range h.objs.size).filterMap λa=>if a=L\/(g.get? a).isSome=true then none else(h.get? a).map λo=>(a,o)
def rest(g h:Heap)(L d:Addr):List (Addr×Obj):=(TR g h L).filter λp=>decide (p.1≠d)
structure Mod(K:Frag)(mg:Str->Option Value)(base:Heap):Prop where
 kin:K.In base
 glob:base.Ns mainGlobals mg
 blt:∃ mb,base.Ns builtinsNs mb/\∀ x:Str,x≠"__name__"->mb x=bootBuiltins x
 nolimit:base.NoLimit
structure Cx where
 prog:Program
 w:World
 K:Frag
 mg:Str->Option Value
 base:Heap
 A:Around
 N:List Str
 s₀:Shared
 H₀:Hp
 env:Env
 outer:List Env
 stack:List Env
 ex:List Addr
 fn:Str->Bool
 calm:Bool
 pn:List (Addr×Obj)
 xe:Value->Shared->Prop
def He(l:List Env):List Addr:=l.filterMap (·.frame)
abbrev Cx.fs(X:Cx):List Addr:=He X.outer
def Kq(sc:Scope)(x:Str):Prop:=sc.names.lookup x=some .local\/sc.names.lookup x=some .cell\/sc.names.lookup x=some .free
def Cy(sc:Scope)(x:Str):Prop:=sc.names.lookup x=some .local\/sc.names.lookup x=some .cell
def S6(env:Env)(h:Heap)(m:Str->Option Value)(x:Str)(u:Value):Prop:=
 (env.kindOf x=some .local/\m x=some u)\/((env.kindOf x=some .cell\/env.kindOf x=some .free)/\∃ c,env.cells.lookup x=some c/\h.IsCell c (some u))
structure Cx.Ok(X:Cx):Prop where
 mod:Mod X.K X.mg X.base
 kind:X.env.scope.kind=.function
 glob:X.env.globals=mainGlobals
 blt:X.env.builtins=builtinsNs
 above:X.s₀.heap.objs.size<=X.env.locals
 inj:∀ x y c,X.env.cells.lookup x=some c->X.env.cells.lookup y=some c->x=y
 has:∀ x,(X.env.kindOf x=some .cell\/X.env.kindOf x=some .free)->∃ c,X.env.cells.lookup x=some c
 cab:∀ x c,X.fn x=true->X.env.cells.lookup x=some c->X.s₀.heap.objs.size<=c
 hd:X.calm=true->X.A.handled=none
 frames:X.A.frames=some X.stack
 stk:X.stack=X.outer\/(X.stack=X.env::X.outer/\X.env.frame=some X.env.locals)
 exf:∀ b∈X.ex,b≠X.env.locals/\∀ x c,X.env.cells.lookup x=some c->c≠b
 bs:∀ b o,X.base.get? b=some o->X.s₀.heap.get? b=some o/\X.H₀ b=none
 bsz:X.base.objs.size<=X.s₀.heap.objs.size
 noex:∀ b o,X.base.get? b=some o->b∉X.ex
 exfs:∀ b∈X.ex,b∉X.fs
 funs:X.s₀.heap.FunFrames X.base X.outer
 frf:∀ b∈X.fs,X.H₀ b=none
structure Inv(X:Cx)(pins:List (Addr×Obj))(σ:List (Option V))(H:Hp)(s:Shared):Prop where
 ok:X.Ok
 os:s.os=X.s₀.os
 bare:AllBare s.gens
 base:Un X.fs X.ex X.H₀ H X.s₀.heap s.heap
 loc:∃ m,s.heap.Ns X.env.locals m/\∀ (i:Nat) (x:Str) (v:V),X.N[i]? =some x->σ[i]? =some (some v)->Kq X.env.scope x->∃ u,RelV v u/\S6 X.env s.heap m x u
 cell:∀ x c,X.env.cells.lookup x=some c->∃ v,s.heap.IsCell c v
 free:H X.env.locals=none
 freeC:∀ x c,X.env.cells.lookup x=some c->H c=none
 pin:∀ p∈X.pn++pins,s.heap.get? p.1=some p.2/\H p.1=none/\p.1≠X.env.locals/\p.1∉X.fs/\∀ v,p.2.data≠ .cell v
 hok:HOk X.prog X.w H s.heap
 len:σ.length=X.N.length
variable{x:Str}{X:Cx}{pins:List (Addr×Obj)}{s s':Shared}{g':Array GenState}{t' i j:Nat}{d':Drawn}{ch:List Addr}{it:Addr}{M:Model}{A:Around}{E:Value->Shared->Prop}{Q:Unit->Shared->Prop}
section
variable {σ:List (Option V)}
theorem Cx.Ok.nofr(ok:X.Ok)(e:X.base.get? b=some o):b∉X.fs:=λhb=>by
 have:=(ok.funs.mem hb).1
 rw[e]at this;cases this
theorem Inv.bs(I:Inv X pins σ H s):∀ b o,X.base.get? b=some o->s.heap.get? b=some o/\H b=none:=λb o e=>
 ⟨I.base.keep b o (I.ok.bs b o e).1 (I.ok.bs b o e).2 (I.ok.nofr e) (I.ok.noex b o e),I.base.free b o (I.ok.bs b o e).1 (I.ok.bs b o e).2 (I.ok.noex b o e)⟩
theorem Inv.bk(I:Inv X pins σ H s):∀ b o,X.base.get? b=some o->s.heap.get? b=some o:=λb o e=>(I.bs b o e).1
theorem Inv.mod(I:Inv X pins σ H s):Mod X.K X.mg X.base:=I.ok.mod
theorem Inv.kIn(I:Inv X pins σ H s):X.K.In s.heap:=I.ok.mod.kin.keeps I.bk
theorem Inv.lt(I:Inv X pins σ H s):X.env.locals<s.heap.objs.size:=let ⟨_,hn,_⟩:=I.loc;hn.lt
theorem Inv.sz(I:Inv X pins σ H s):X.s₀.heap.objs.size<=s.heap.objs.size:=le_trans I.ok.above (le_of_lt I.lt)
theorem Inv.nofs(I:Inv X pins σ H s)(h:s.heap.objs.size<=a):a∉X.fs:=λhb=>by
 obtain⟨_,o,ho,_⟩:=I.ok.funs.mem hb
 exact absurd (lt_of_lt_of_le (lt_size ho) (le_trans I.sz h)) (lt_irrefl _)
theorem Inv.cne(I:Inv X pins σ H s):∀ x c,X.env.cells.lookup x=some c->c≠X.env.locals:=λx c e z=>by
 obtain⟨v,o,ho,hd⟩:=I.cell x c e
 obtain⟨m,⟨o',es,ep,ho',hd',_⟩,_⟩:=I.loc
 rw[z,ho']at ho;cases ho;rw[hd']at hd;cases hd
theorem Inv.funs(I:Inv X pins σ H s):s.heap.FunFrames X.base X.outer:=by
 have all:∀ (l:List Env),(∀ b∈He l,b∈X.fs)->X.s₀.heap.FunFrames X.base l->s.heap.FunFrames X.base l:=by
  intro l
  induction l with
  |nil=>intro _ _;trivial
  |cons env r ih=>
   intro hs hl
   obtain⟨hk,⟨L,o,hf,hn,ho,hd⟩,hr⟩:=hl
   have hL:L∈X.fs:=hs L (by unfold He;rw[filterMap_cons,hf];exact mem_cons_self)
   obtain⟨sl,e⟩:=I.base.slot L o ho (I.ok.frf L hL) hL λz=>I.ok.exfs L z hL
   exact⟨hk,⟨L,_,hf,hn,e,hd⟩,ih (λb hb=>hs b (by unfold He;rw[filterMap_cons,hf];exact mem_cons_of_mem _ hb)) hr⟩
 exact all X.outer (λ_ hb=>hb) I.ok.funs
theorem Inv.stack(I:Inv X pins σ H s):s.heap.FunFrames X.base X.stack:=by
 rcases I.ok.stk with e|⟨e,hf⟩
 .rw[e];exact I.funs
 .rw[e]
  obtain⟨m,hn,_⟩:=I.loc
  refine .cons (by rw[I.ok.kind];decide) hf hn ?_ I.funs
  exact Heap.get?_none_of_le (le_trans I.ok.bsz I.ok.above)
theorem Inv.stkSub(I:Inv X pins σ H s):∀ b∈He X.stack,b∈X.env.locals::X.fs:=λb hb=>by
 rcases I.ok.stk with e|⟨e,hf⟩
 .rw[e]at hb;exact mem_cons_of_mem _ hb
 .rw[e]at hb
  unfold He at hb
  rw[filterMap_cons,hf]at hb
  exact hb
theorem Inv.stkFree(I:Inv X pins σ H s):∀ b∈He X.stack,H b=none:=λb hb=>by
 rcases mem_cons.mp (I.stkSub b hb) with e|hb
 .rw[e];exact I.free
 .obtain⟨_,o,ho,_⟩:=I.ok.funs.mem hb
  exact I.base.free b o ho (I.ok.frf b hb) λz=>I.ok.exfs b z hb
theorem Inv.step(I:Inv X pins σ H s)(hch:∀ b∈ch,(b∈X.ex\/X.s₀.heap.objs.size<=b)/\b≠X.env.locals/\(∀ x c,X.env.cells.lookup x=some c->c≠b)/\∀ p∈X.pn++pins,p.1≠b)(keep:∀ b o,b≠X.env.locals->b∉X.fs->b∉ch->s.heap.get? b=some o->H b=none->h'.get? b=some o)(slot:∀ b o,b≠X.env.locals->b∈X.fs->b∉ch->s.heap.get? b=some o->H b=none->∃ sl,h'.get? b=some {o with slots:=sl})(free:∀ b o,b∉ch->s.heap.get? b=some o->H b=none->H' b=none)(there:∀ b o,b∉ch->s.heap.get? b=some o->∃ o',h'.get? b=some o')(tups:∀ b xs,H b=some (.tup xs)->H' b=some (.tup xs))(frzs:∀ b o u,H b=some (.frz o u)->H' b=some (.frz o u))(tbls:∀ b ps,H b=some (.tbl ps)->∃ more,H' b=some (.tbl (ps++more)))(ns:∀ m,s.heap.Ns X.env.locals m->h'.Ns X.env.locals m)(hok:HOk X.prog X.w H' h')(hg:AllBare g'):
  Inv X pins σ H' {s with heap:=h',gens:=g',drawn:=d',toks:=t'}:=by
 have neL:∀ b o,X.s₀.heap.get? b=some o->b≠X.env.locals:=λb o e=>ne_of_lt (lt_of_lt_of_le (lt_size e) I.ok.above)
 have neC:∀ b o,X.s₀.heap.get? b=some o->b∉X.ex->b∉ch:=λb o e hx hb=>by
  rcases(hch b hb).1 with z|z
  .exact hx z
  .exact absurd (lt_of_lt_of_le (lt_size e) z) (lt_irrefl _)
 have cellK:∀ x c,X.env.cells.lookup x=some c->∀ v,s.heap.IsCell c v->h'.IsCell c v:=λx c e v ⟨o,ho,hd⟩=>by
  have nch:c∉ch:=λz=>(hch c z).2.2.1 x c e rfl
  by_cases hc:c∈X.fs
  .obtain⟨sl,q⟩:=slot c o (I.cne x c e) hc nch ho (I.freeC x c e)
   exact⟨_,q,hd⟩
  .exact⟨o,keep c o (I.cne x c e) hc nch ho (I.freeC x c e),hd⟩
 refine⟨I.ok,I.os,hg,⟨λb o e n hb hx=>?_,λb o e n hb hx=>?_,λb o e n hx=>?_,λb o e hx=>?_,λb xs e=>tups b xs (I.base.tups b xs e),λb o xs e=>frzs b o xs (I.base.frzs b o xs e),λb ps e=>?_⟩,?_,λx c e=>?_,?_,λx c e=>?_,λp hp=>?_,hok,I.len⟩
 .exact keep b o (neL b o e) hb (neC b o e hx) (I.base.keep b o e n hb hx) (I.base.free b o e n hx)
 .obtain⟨sl,e1⟩:=I.base.slot b o e n hb hx
  obtain⟨sl',e2⟩:=slot b _ (neL b o e) hb (neC b o e hx) e1 (I.base.free b o e n hx)
  exact⟨sl',e2⟩
 .obtain⟨o',e1⟩:=I.base.there b o e hx
  exact free b o' (neC b o e hx) e1 (I.base.free b o e n hx)
 .obtain⟨o',e1⟩:=I.base.there b o e hx
  exact there b o' (neC b o e hx) e1
 .obtain⟨m1,e1⟩:=I.base.tbls b ps e
  obtain⟨m2,e2⟩:=tbls b _ e1
  exact⟨m1++m2,by rw[e2,Array.append_assoc]⟩
 .obtain⟨m,hn,hl⟩:=I.loc
  refine⟨m,ns m hn,λi x v e1 e2 e3=>?_⟩
  obtain⟨u,r,l⟩:=hl i x v e1 e2 e3
  refine⟨u,r,?_⟩
  rcases l with l|⟨k,c,e,z⟩
  .exact .inl l
  .exact .inr ⟨k,c,e,cellK x c e _ z⟩
 .obtain⟨v,z⟩:=I.cell x c e
  exact⟨v,cellK x c e v z⟩
 .obtain⟨m,⟨o,_,_,ho,_⟩,_⟩:=I.loc
  exact free _ o (λz=>(hch _ z).2.1 rfl) ho I.free
 .obtain⟨v,o,ho,hd⟩:=I.cell x c e
  exact free c o (λz=>(hch c z).2.2.1 x c e rfl) ho (I.freeC x c e)
 .obtain⟨e,n,ne,nf,d⟩:=I.pin p hp
  have nch:p.1∉ch:=λz=>(hch p.1 z).2.2.2 p hp rfl
  exact⟨keep p.1 p.2 ne nf nch e n,free p.1 p.2 nch e n,ne,nf,d⟩
theorem Inv.un(I:Inv X pins σ H s)(u:Un X.fs [] H H' s.heap h')(hok:HOk X.prog X.w H' h'):Inv X pins σ H' {s with heap:=h',toks:=t'}:=by
 obtain⟨m,⟨o,es,ep,ho,r⟩,_⟩:=id I.loc
 obtain⟨sl,hL⟩:=u.any ho I.free (by simp)
 exact I.step (g':=s.gens) (d':=s.drawn) (ch:= []) (λ_ z=>nomatch z) (λb o _ hb _ e n=>u.keep b o e n hb (by simp)) (λb o _ hb _ e n=>u.slot b o e n hb (by simp)) (λb o _ e n=>u.free b o e n (by simp)) (λb o _ e=>u.there b o e (by simp)) u.tups u.frzs u.tbls (λm' hm=>by
  obtain⟨o',es',ep',ho',r'⟩:=hm
  rw[ho]at ho';cases ho'
  exact⟨_,es',ep',hL,r'⟩) hok I.bare
theorem Inv.call(I:Inv X pins σ H s)(u:Un (He X.stack) ch H H' s.heap h')(hok:HOk X.prog X.w H' h')(hg:AllBare g')(hch:∀ b∈ch,(b∈X.ex\/X.s₀.heap.objs.size<=b)/\b≠X.env.locals/\(∀ x c,X.env.cells.lookup x=some c->c≠b)/\∀ p∈X.pn++pins,p.1≠b):
  Inv X pins σ H' {s with heap:=h',gens:=g',drawn:=d',toks:=t'}:=by
 obtain⟨m,⟨o,es,ep,ho,r⟩,_⟩:=id I.loc
 obtain⟨sl,hL⟩:=u.any ho I.free λz=>(hch _ z).2.1 rfl
 exact I.step (ch:=ch) hch (λb o hL hb hc e n=>u.keep b o e n (λz=>(mem_cons.mp (I.stkSub b z)).elim hL hb) hc) (λb o _ _ hc e n=>u.any e n hc) (λb o hc e n=>u.free b o e n hc) (λb o hc e=>u.there b o e hc) u.tups u.frzs u.tbls (λm' hm=>by
  obtain⟨o',es',ep',ho',r'⟩:=hm
  rw[ho]at ho';cases ho'
  exact⟨_,es',ep',hL,r'⟩) hok hg
theorem Inv.turned(I:Inv X pins σ H s)(k:∀ b o,b≠it->s.heap.get? b=some o->h'.get? b=some o)(hn:H it=none)(hL:it≠X.env.locals)(h1:it∈X.ex\/X.s₀.heap.objs.size<=it)(h2:∀ x c,X.env.cells.lookup x=some c->c≠it)(h3:∀ p∈X.pn++pins,p.1≠it):Inv X pins σ H {s with heap:=h',toks:=t'}:=by
 have nit:∀ b u,H b=some u->b≠it:=λb u e z=>by rw[z,hn]at e;cases e
 refine I.step (g':=s.gens) (d':=s.drawn) (ch:= [it]) (λb hb=>?_) (λb o _ _ hc e _=>k b o (λz=>hc (by simp[z])) e) (λb o _ _ hc e _=>⟨o.slots,k b o (λz=>hc (by simp[z])) e⟩) (λ_ _ _ _ n=>n)
  (λb o hc e=>⟨o,k b o (λz=>hc (by simp[z])) e⟩) (λ_ _ e=>e) (λ_ _ _ e=>e) (λb ps e=>⟨#[],by rw[e];simp⟩) (λm hm=>?_) (λb u e=>?_) I.bare
 .have e:b=it:=by simpa using hb
  subst e
  exact⟨h1,hL,h2,h3⟩
 .obtain⟨o,es,ep,ho,r⟩:=hm
  exact⟨o,es,ep,k _ o (Ne.symm hL) ho,r⟩
 .refine(I.hok b u e).stay (λc v hc q=>k c v ?_ q) (λ_ q=>q) λ_ _ q=>q
  rcases hc with z|z
  .rw[z];exact nit b u e
  .exact nit c _ z
theorem Inv.tok(I:Inv X pins σ H s)(t:Nat):Inv X pins σ H {s with toks:=t}:=I.un (h':=s.heap) (t':=t) Un.refl I.hok
theorem Inv.kept(I:Inv X pins σ H s)(k:∀ b u,s.heap.get? b=some u->h'.get? b=some u):Inv X pins σ H {s with heap:=h',toks:=t'}:=I.un (Un.kept k) (I.hok.kept k)
theorem Inv.laid{o:HO}(I:Inv X pins σ H s)(k:∀ b u,s.heap.get? b=some u->h'.get? b=some u)(hp:s.heap.objs.size<=a)(new:ObjOk X.prog X.w (Jb H a o) h' a o):
  Inv X pins σ (Jb H a o) {s with heap:=h',toks:=t'}:=I.un (Un.laid k hp (I.hok.fresh hp)) (I.hok.laid k hp new)
theorem Inv.write{x:Addr}{o:HO}(I:Inv X pins σ H s)(mu:Z9 (H x))(he:e=x\/H e=some (.own x))(k:∀ b u,b≠e->s.heap.get? b=some u->h'.get? b=some u)(heo:∃ u,h'.get? e=some u)(new:ObjOk X.prog X.w (Jb H x o) h' x o):Inv X pins σ (Jb H x o) {s with heap:=h',toks:=t'}:=I.un (Un.write mu he k heo) (I.hok.write mu he k heo new)
theorem Inv.pins_of{pins':List (Addr×Obj)}(I:Inv X pins σ H s)(h:∀ p∈pins',s.heap.get? p.1=some p.2/\H p.1=none/\p.1≠X.env.locals/\p.1∉X.fs/\∀ v,p.2.data≠ .cell v):Inv X pins' σ H s:=
 ⟨I.ok,I.os,I.bare,I.base,I.loc,I.cell,I.free,I.freeC,λp hp=>(mem_append.mp hp).elim (λz=>I.pin p (List.mem_append_left _ z)) (h p),I.hok,I.len⟩
theorem Gs{N:List Str}(hN:N.Nodup)(a:N[i]? =some x)(b:N[j]? =some x):i=j:=by
 obtain⟨h1,e1⟩:=List.getElem?_eq_some_iff.mp a
 obtain⟨h2,e2⟩:=List.getElem?_eq_some_iff.mp b
 exact(List.getElem_inj hN).mp (e1.trans e2.symm)
theorem WJ{v:V}(I:Inv X pins σ H s)(hN:X.N.Nodup)(hi:X.N[i]? =some x)(hx:Cy X.env.scope x)(r:RelV v u)(h:∀ s',Inv X pins (σ.set i (some v)) H s'->(∃ a,SameBut a s.heap s'.heap/\(a=X.env.locals\/X.env.cells.lookup x=some a))->Q () s')(hf:X.fn x=true\/X.env.scope.names.lookup x=some .local:=by first|exact .inl rfl|exact .inr rfl|assumption):wpAny M A (storeName X.env x u) Q E s:=by
 obtain⟨m,hn,hl⟩:=id I.loc
 have hcls:(X.env.scope.kind== .class||(X.env.scope.kind== .module&&X.env.locals != X.env.globals))=false:=by rw[I.ok.kind];rfl
 have hiσ:i<σ.length:=by rw[I.len];exact(List.getElem?_eq_some_iff.mp hi).1
 have cne:=I.cne
 have tracked:∀ {a:Addr} {h':Heap},(∃ o,s.heap.get? a=some o/\H a=none)->SameBut a s.heap h'->HOk X.prog X.w H h':=λ{a h'} ha hs b ob e=>by
  obtain⟨_,_,hfree⟩:=ha
  refine(I.hok b ob e).stay (λc w' hc q=>(hs.2 c ?_).trans q) (λ_ q=>q) λ_ _ q=>q
  rintro rfl
  rcases hc with rfl|hc
  .rw[hfree]at e;cases e
  .rw[hfree]at hc;cases hc
 rcases hx with hk|hk
 .refine wpAny_storeName_local hk hn (λh' hn' hs=>?_) hcls
  obtain⟨oL,_,_,hoL,_⟩:=id hn
  refine h _ ⟨I.ok,I.os,I.bare,⟨λb o e n hb hx=>?_,λb o e n hb hx=>?_,I.base.free,λb o e hx=>?_,I.base.tups,I.base.frzs,I.base.tbls⟩,⟨_,hn',λj y v' e1 e2 e3=>?_⟩,λy c e=>?_,I.free,I.freeC,λp hp=>?_,tracked ⟨oL,hoL,I.free⟩ hs,by simpa using I.len⟩ ⟨_,hs,.inl rfl⟩
  .exact(hs.2 b (ne_of_lt (lt_of_lt_of_le (lt_size e) I.ok.above))).trans (I.base.keep b o e n hb hx)
  .obtain⟨sl,e1⟩:=I.base.slot b o e n hb hx
   exact⟨sl,(hs.2 b (ne_of_lt (lt_of_lt_of_le (lt_size e) I.ok.above))).trans e1⟩
  .obtain⟨o',e1⟩:=I.base.there b o e hx
   exact⟨o',(hs.2 b (ne_of_lt (lt_of_lt_of_le (lt_size e) I.ok.above))).trans e1⟩
  .by_cases hj:j=i
   .subst hj
    rw[hi]at e1;cases e1
    rw[getElem?_set_self hiσ]at e2
    cases e2
    exact⟨u,r,.inl ⟨hk,by simp⟩⟩
   .rw[getElem?_set_ne (Ne.symm hj)]at e2
    obtain⟨u',r',q⟩:=hl j y v' e1 e2 e3
    refine⟨u',r',?_⟩
    rcases q with⟨k,e⟩|⟨k,c,e,z⟩
    .refine .inl ⟨k,?_⟩
     have:y≠x:=λe=>hj (Gs hN e1 (e▸hi))
     simp[this,e]
    .exact .inr ⟨k,c,e,z.sameBut hs (cne y c e)⟩
  .obtain⟨w',z⟩:=I.cell y c e
   exact⟨w',z.sameBut hs (cne y c e)⟩
  .obtain⟨e,n,ne,nf,d⟩:=I.pin p hp
   exact⟨(hs.2 p.1 ne).trans e,n,ne,nf,d⟩
 .have hfn:X.fn x=true:=by
   rcases hf with z|z
   .exact z
   .rw[z]at hk;cases hk
  obtain⟨c,hc⟩:=I.ok.has x (.inl hk)
  obtain⟨w',z⟩:=I.cell x c hc
  refine wpAny_storeName_cell I.ok.kind hk hc z (λh' hc' hs=>?_)
  obtain⟨oc,hoc,hocd⟩:=id z
  refine h {s with heap:=h'} ⟨I.ok,I.os,I.bare,⟨λb o e n hb hx=>?_,λb o e n hb hx=>?_,I.base.free,λb o e hx=>?_,I.base.tups,I.base.frzs,I.base.tbls⟩,⟨m,hn.sameBut hs (Ne.symm (cne x c hc)),λj y v' e1 e2 e3=>?_⟩,λy c' e=>?_,I.free,I.freeC,λp hp=>?_,tracked ⟨oc,hoc,I.freeC x c hc⟩ hs,by simpa using I.len⟩ ⟨c,hs,.inr hc⟩
  .exact(hs.2 b (ne_of_lt (lt_of_lt_of_le (lt_size e) (I.ok.cab x c hfn hc)))).trans (I.base.keep b o e n hb hx)
  .obtain⟨sl,e1⟩:=I.base.slot b o e n hb hx
   exact⟨sl,(hs.2 b (ne_of_lt (lt_of_lt_of_le (lt_size e) (I.ok.cab x c hfn hc)))).trans e1⟩
  .obtain⟨o',e1⟩:=I.base.there b o e hx
   exact⟨o',(hs.2 b (ne_of_lt (lt_of_lt_of_le (lt_size e) (I.ok.cab x c hfn hc)))).trans e1⟩
  .by_cases hj:j=i
   .subst hj
    rw[hi]at e1;cases e1
    rw[getElem?_set_self hiσ]at e2
    cases e2
    exact⟨u,r,.inr ⟨.inl hk,c,hc,hc'⟩⟩
   .rw[getElem?_set_ne (Ne.symm hj)]at e2
    obtain⟨u',r',q⟩:=hl j y v' e1 e2 e3
    refine⟨u',r',?_⟩
    rcases q with q|⟨k,c',e,z'⟩
    .exact .inl q
    .refine .inr ⟨k,c',e,z'.sameBut hs ?_⟩
     rintro rfl
     exact hj (Gs hN e1 (I.ok.inj _ _ _ e hc▸hi))
  .by_cases hcc:c'=c
   .subst hcc;exact⟨_,hc'⟩
   .obtain⟨w2,z2⟩:=I.cell y c' e
    exact⟨w2,z2.sameBut hs hcc⟩
  .obtain⟨e,n,ne,nf,d⟩:=I.pin p hp
   refine⟨(hs.2 p.1 ?_).trans e,n,ne,nf,d⟩
   intro q
   rw[q,hoc]at e
   have q':oc=p.2:=Option.some.inj e
   exact d w' (by rw[<-q'];exact hocd)
theorem Nl{v:V}(I:Inv X pins σ H s)(hN:X.N.Nodup)(hi:X.N[i]? =some x)(hx:Cy X.env.scope x)(r:RelV v u)(h:∀ s',Inv X pins (σ.set i (some v)) H s'->Q () s')(hf:X.fn x=true\/X.env.scope.names.lookup x=some .local:=by first|exact .inl rfl|exact .inr rfl|assumption):wpAny M A (storeName X.env x u) Q E s:=
 WJ I hN hi hx r (λs' I' _=>h s' I') hf
theorem Inv.call'(I:Inv X pins σ H s)(ho:s'.os=s.os)(u:Un (He X.stack) ch H H' s.heap s'.heap)(hok:HOk X.prog X.w H' s'.heap)(hg:AllBare s'.gens)(hch:∀ b∈ch,(b∈X.ex\/X.s₀.heap.objs.size<=b)/\b≠X.env.locals/\(∀ x c,X.env.cells.lookup x=some c->c≠b)/\∀ p∈X.pn++pins,p.1≠b):Inv X pins σ H' s':=by
 obtain⟨h',g',d',t',o'⟩:=s'
 have e:o'=s.os:=ho
 subst e
 exact I.call (g':=g') (t':=t') (d':=d') u hok hg hch
end
abbrev XK:=Value->Option Addr×Bool->Hp->Prop
abbrev St:=List (Option V)
abbrev VK:=V->Hp->Prop
abbrev TE:=St->Hp->VK->Prop
abbrev TT:=St->Hp->(Bool->Hp->Prop)->Prop
abbrev TA:=St->Hp->(List V->Hp->Prop)->Prop
structure Ends where
 nx:St->Hp->Prop
 rt:VK
 bk:St->Hp->Prop:=λ_ _=>False
 ct:St->Hp->Prop:=λ_ _=>False
abbrev TS:=Ends->St->Hp->Prop
def EP(X:Cx)(pins:List (Addr×Obj))(σ:St)(Q:VK)(u:Value)(s':Shared):Prop:=∃ v H',Inv X pins σ H' s'/\RelV v u/\Q v H'
def TP(X:Cx)(pins:List (Addr×Obj))(σ:St)(Q:Bool->Hp->Prop)(b:Bool)(s':Shared):Prop:=∃ H',Inv X pins σ H' s'/\Q b H'
def AP(X:Cx)(pins:List (Addr×Obj))(σ:St)(Q:List V->Hp->Prop)(us:List Value)(s':Shared):Prop:=∃ vs H',Inv X pins σ H' s'/\Vals vs us/\Q vs H'
def SP(X:Cx)(pins:List (Addr×Obj))(D:Ends)(f:Flow)(s':Shared):Prop:=
 match f with
 | .next=>∃ σ' H',Inv X pins σ' H' s'/\D.nx σ' H'
 | .brk=>∃ σ' H',Inv X pins σ' H' s'/\D.bk σ' H'
 | .cont=>∃ σ' H',Inv X pins σ' H' s'/\D.ct σ' H'
 | .ret u=>∃ v σ' H',Inv X pins σ' H' s'/\RelV v u/\D.rt v H'
def PE(X:Cx)(e:Expr)(t:TE):Prop:=
 ∀ (pins:List (Addr×Obj)) (s:Shared) (σ:St) (H:Hp) (Q:VK),Inv X pins σ H s->t σ H Q->wpAny (model X.prog X.w) X.A (eval e X.env) (EP X pins σ Q) X.xe s
def PT(X:Cx)(e:Expr)(t:TT):Prop:=
 ∀ (pins:List (Addr×Obj)) (s:Shared) (σ:St) (H:Hp) (Q:Bool->Hp->Prop),Inv X pins σ H s->t σ H Q->wpAny (model X.prog X.w) X.A (isTrue e X.env (eval e X.env)) (TP X pins σ Q) X.xe s
def PW(X:Cx)(e:Expr)(t:TT):Prop:=
 ∀ (whole:Sem Value) (pins:List (Addr×Obj)) (s:Shared) (σ:St) (H:Hp) (Q:Bool->Hp->Prop),Inv X pins σ H s->t σ H Q->wpAny (model X.prog X.w) X.A (isTrue e X.env whole) (TP X pins σ Q) X.xe s
variable{e:Expr}
theorem PW.pt{t:TT}(h:PW X e t):PT X e t:=h _
def PA(X:Cx)(es:List Expr)(t:TA):Prop:=
 ∀ (pos:Pos) (pins:List (Addr×Obj)) (s:Shared) (σ:St) (H:Hp) (Q:List V->Hp->Prop),Inv X pins σ H s->t σ H Q->wpAny (model X.prog X.w) X.A (spliced (backTo pos (starEach es X.env))) (AP X pins σ Q) X.xe s
def PS(X:Cx)(st:Stmt)(t:TS):Prop:=
 ∀ (pins:List (Addr×Obj)) (s:Shared) (σ:St) (H:Hp) (D:Ends),Inv X pins σ H s->t D σ H->wpAny (model X.prog X.w) X.A (exec st X.env) (SP X pins D) X.xe s
def PSs(X:Cx)(st:List Stmt)(t:TS):Prop:=
 ∀ (pins:List (Addr×Obj)) (s:Shared) (σ:St) (H:Hp) (D:Ends),Inv X pins σ H s->t D σ H->wpAny (model X.prog X.w) X.A (execs st X.env) (SP X pins D) X.xe s
theorem thn{t:Sem α}{Q Q':α->Shared->Prop}(h:wpAny M A t Q E s)(hQ:∀ a s,Q a s->Q' a s):wpAny M A t Q' E s:=wpAny_mono h hQ λ_ _ x=>x
variable{a b:Expr}{σ:St}{Q:Value->Shared->Prop}{ta tb:TE}{pos:Pos}{op:CmpOp}
section
def M9(i:Nat):TE:=λσ H Q=>∃ v,σ[i]? =some (some v)/\Q v H
def tC(v:V):TE:=λ_ H Q=>Q v H
theorem Zc{pos:Pos}(hN:X.N[i]? =some x)(hv:Kq X.env.scope x)(hd:(x==("__debug__":Str))=false:=by decide)(hcd:(x==("__classdict__":Str))=false:=by decide):PE X (.Name x pos) (M9 i):=by
 intro pins s σ H Q I h
 obtain⟨v,e,h⟩:=h
 obtain⟨m,hn,hl⟩:=I.loc
 obtain⟨u,r,l⟩:=hl i x v hN e hv
 have fin:EP X pins σ Q u s:=⟨v,H,I,r,h⟩
 rcases l with⟨hk,hm⟩|⟨hk,c,hc,hcell⟩
 .exact wpAny_Name (wpAny_loadName_local I.ok.kind hk hn hm fin) hd
 .rcases hk with hk|hk
  .exact wpAny_Name (wpAny_loadName_cell I.ok.kind hk hc hcell fin) hd
  .exact wpAny_Name (wpAny_loadName_free I.ok.kind hk hc hcell fin hcd) hd
theorem E4{i j pos}:PE X (.Constant (.int i) j pos) (tC (.int i)):=λ_ _ _ H _ I h=>wpAny_Constant_int ⟨.int i,H,I.tok _,⟨_,rfl⟩,h⟩
theorem J8{b j pos}:PE X (.Constant (.bool b) j pos) (tC (.bl b)):=λ_ _ _ H _ I h=>Constant_bool ⟨.bl b,H,I,rfl,h⟩
theorem G4{j pos}:PE X (.Constant .none j pos) (tC .non):=λ_ _ _ H _ I h=>Constant_none ⟨.non,H,I,rfl,h⟩
theorem GP{x j pos}:PE X (.Constant (.str x) j pos) (tC (.str x)):=λ_ _ _ H _ I h=>Calls.Constant_str ⟨.str x,H,I.tok _,⟨_,rfl⟩,h⟩
def Gl(X:Cx)(x:Str):Prop:=X.env.kindOf x=some .globalImplicit
theorem Xj{pos:Pos}(I:Inv X pins σ H s)(hg:Gl X x)(hm:X.mg x=some u)(h:Q u s)(hd:(x==("__debug__":Str))=false:=by decide):wpAny (model X.prog X.w) X.A (eval (.Name x pos) X.env) Q E s:=
 Calls.Name_function_global I.ok.kind hg (Calls.loadGlobal_global (by rw[I.ok.glob];exact I.mod.glob.keeps I.bk) hm h) hd
theorem Li{pos:Pos}(I:Inv X pins σ H s)(hg:Gl X x)(hm:X.mg x=none)(hv:bootBuiltins x=some u)(h:Q u s)(hn:x≠"__name__":=by decide)(hd:(x==("__debug__":Str))=false:=by decide):wpAny (model X.prog X.w) X.A (eval (.Name x pos) X.env) Q E s:=by
 obtain⟨mb,h1,h2⟩:=I.mod.blt
 exact Calls.Name_function_global I.ok.kind hg (Calls.loadGlobal_builtin (by rw[I.ok.glob];exact I.mod.glob.keeps I.bk) hm (by rw[I.ok.blt];exact h1.keeps I.bk) ((h2 x hn).trans hv) h) hd
theorem HW{v:V}{pos:Pos}(hg:Gl X x)(hm:X.mg x=some u)(r:RelV v u)(hd:(x==("__debug__":Str))=false:=by decide):PE X (.Name x pos) (tC v):=
 λ_ _ _ H _ I h=>Xj I hg hm ⟨v,H,I,r,h⟩ hd
theorem Lx{v:V}{pos:Pos}(hg:Gl X x)(hm:X.mg x=none)(hv:bootBuiltins x=some u)(r:RelV v u)(hn:x≠"__name__":=by decide)(hd:(x==("__debug__":Str))=false:=by decide):PE X (.Name x pos) (tC v):=
 λ_ _ _ H _ I h=>Li I hg hm hv ⟨v,H,I,r,h⟩ hn hd
def PC(X:Cx)(op:CmpOp)(a b:Expr)(t:TE):Prop:=
 ∀ (pins:List (Addr×Obj)) (s:Shared) (σ:St) (H:Hp) (Q:VK),Inv X pins σ H s->t σ H Q->
  wpAny (model X.prog X.w) X.A (eval a X.env) (λv s₁=>wpAny (model X.prog X.w) X.A (eval b X.env) (λu s₂=>wpAny (model X.prog X.w) X.A (compareOp op v u) (EP X pins σ Q) X.xe s₂) X.xe s₁) X.xe s
theorem KO(b:Expr)(h:op≠ .In)(h2:op≠ .NotIn):behindInMarks op b=false:=by
 have e1:(op==CmpOp.In)=false:=by cases op<;>first|rfl|exact absurd rfl h
 have e2:(op==CmpOp.NotIn)=false:=by cases op<;>first|rfl|exact absurd rfl h2
 cases b<;>simp[behindInMarks,e1,e2]
def F9(ta:TE):TE:=λσ H Q=>ta σ H λx H1=>Q (.bl (!decide (x=.non))) H1
theorem RelV.none_iff{x:V}{v:Value}(r:RelV x v):(v==Value.none)=decide (x=.non):=by
 cases x with
 |non=>cases r;rfl
 |bl _=>cases r;rfl
 |int _=>obtain⟨t,rfl⟩:=r;rfl
 |str _=>obtain⟨t,rfl⟩:=r;rfl
 |byt _=>obtain⟨t,rfl⟩:=r;rfl
 |flt _=>obtain⟨t,rfl⟩:=r;rfl
 |ref _=>cases r;rfl
 |ty _=>cases r;rfl
theorem AW{j pos'}(ha:PE X a ta):PC X .IsNot a (.Constant .none j pos') (F9 ta):=by
 intro pins s σ H Q I h
 refine thn (ha pins s σ H _ I h) λv s1 ⟨x,H1,I1,r1,q1⟩=>?_
 exact Constant_none (isnot_none_gen ⟨.bl _,H1,I1,by rw[r1.none_iff];rfl,q1⟩)
def tB(t:TE):TT:=λσ H Q=>t σ H λx H1=>∃ c,x=.bl c/\Q c H1
theorem T4{t:TE}(h:PC X op a b t)(h1:behindInMarks op b=false:=by first|exact KO _ (by decide) (by decide)|rfl):PT X (.Compare a [op] [b] pos) (tB t):=by
 intro pins s σ H Q I hw
 refine wpAny_isTrue_Compare1 (thn (h pins s σ H _ I hw) λv s1 h1=>thn h1 λu s2 h2=>thn h2 λc s3 ⟨x,H1,I1,r1,q1⟩=>?_) h1
 obtain⟨d,rfl,q⟩:=q1
 cases r1
 exact wpAny_truthy_bool ⟨H1,I1,q⟩
theorem V4{t:TE}(h:PE X e t)(he:∀ whole,isTrue e X.env whole=(do let v <-whole;standAt e.pos;holding [v] (truthy v)):=by intro _;rfl):PT X e (tB t):=by
 intro pins s σ H Q I hw
 refine isTrue_plain (thn (h pins s σ H _ I hw) λv s1 ⟨x,H1,I1,r1,q1⟩=>?_) (he _)
 obtain⟨d,rfl,q⟩:=q1
 cases r1
 exact wpAny_truthy_bool ⟨H1,I1,q⟩
variable {tA tB':TT}{rest:List Expr}
def Pb0(t u:TT):TT:=λσ H Q=>t σ H λc H1=>if c=true then u σ H1 Q else Q false H1
def tOr(t u:TT):TT:=λσ H Q=>t σ H λc H1=>if c=true then Q true H1 else u σ H1 Q
def Ac0(t:TT):TT:=λσ H Q=>t σ H λc H1=>Q (!c) H1
theorem BX(ha:PT X a tA):PW X (.BoolOp .And [a] pos) tA:=by
 intro wh pins s σ H Q I h
 refine isTrue_and (thn (ha pins s σ H Q I h) λc s1 e=>?_)
 cases c with
 |true=>exact isTrue_and_nil e
 |false=>exact e
theorem Z4(ha:PT X a tA):PW X (.BoolOp .Or [a] pos) tA:=by
 intro wh pins s σ H Q I h
 refine isTrue_or (thn (ha pins s σ H Q I h) λc s1 e=>?_)
 cases c with
 |false=>exact isTrue_or_nil e
 |true=>exact e
theorem Y4(ha:PT X a tA)(hb:PW X (.BoolOp .And (b::rest) pos) tB'):PW X (.BoolOp .And (a::b::rest) pos) (Pb0 tA tB'):=by
 intro wh pins s σ H Q I h
 refine isTrue_and (thn (ha pins s σ H _ I h) λc s1 ⟨H1,I1,q1⟩=>?_)
 cases c with
 |true=>exact hb wh pins s1 σ H1 Q I1 q1
 |false=>exact⟨H1,I1,q1⟩
theorem O8(ha:PT X a tA)(hb:PW X (.BoolOp .Or (b::rest) pos) tB'):PW X (.BoolOp .Or (a::b::rest) pos) (tOr tA tB'):=by
 intro wh pins s σ H Q I h
 refine isTrue_or (thn (ha pins s σ H _ I h) λc s1 ⟨H1,I1,q1⟩=>?_)
 cases c with
 |true=>exact⟨H1,I1,q1⟩
 |false=>exact hb wh pins s1 σ H1 Q I1 q1
theorem U4(ha:PT X a tA):PT X (.UnaryOp .Not a pos) (Ac0 tA):=by
 intro pins s σ H Q I h
 exact isTrue_not (ha pins s σ H (λc H1=>Q (!c) H1) I h)
def X8(ta tb:TE):TE:=λσ H Q=>ta σ H λx H1=>∃ c,x=.bl c/\if c=true then tb σ H1 Q else Q (.bl false) H1
theorem J4{op}{t:TE}(h:PE X a t):PE X (.BoolOp op [a] pos) t:=λpins s σ H Q I hw=>BoolOp_one (h pins s σ H Q I hw)
theorem A4(ha:PE X a ta)(hb:PE X (.BoolOp .And (b::rest) pos) tb):PE X (.BoolOp .And (a::b::rest) pos) (X8 ta tb):=by
 intro pins s σ H Q I h
 refine BoolOp_and (thn (ha pins s σ H _ I h) λv s1 ⟨x,H1,I1,r1,q1⟩=>?_)
 obtain⟨c,rfl,q1⟩:=q1
 cases r1
 refine wpAny_truthy_bool ?_
 cases c with
 |true=>exact hb pins s1 σ H1 Q I1 q1
 |false=>exact⟨.bl false,H1,I1,rfl,q1⟩
end
def SqL(K:Frag)(H:Hp)(a:Addr)(xs:List V):Prop:=
 Rd H a (.lst xs)\/
  ∃ (o:Obj) (its:Array Value) (n:Nat),K.lookup a=some o/\o.cls=.type "list"/\o.dict=none/\o.data=.seq its n/\its.size<=sizeLine/\Vals xs its.toList
def SqT(K:Frag)(H:Hp)(a:Addr)(xs:List V):Prop:=
 Rd H a (.tup xs)\/
  ∃ (o:Obj) (its:Array Value) (n:Nat),K.lookup a=some o/\o.cls=.type "tuple"/\o.data=.seq its n/\its.size<=sizeLine/\Vals xs its.toList
def Xa0:Value->Option V
 | .none=>some .non
 | .bool b=>some (.bl b)
 | .int i _=>some (.int i)
 | .str x _=>some (.str x)
 | .bytes b _=>some (.byt b)
 | .float b _=>some (.flt b)
 | .ref a=>some (.ref a)
 | .type n=>some (.ty n)
 |_=>none
theorem RelV.abs{x:V}(r:RelV x u):Xa0 u=some x:=by
 cases x with
 |non=>cases r;rfl
 |bl _=>cases r;rfl
 |int _=>obtain⟨t,rfl⟩:=r;rfl
 |str _=>obtain⟨t,rfl⟩:=r;rfl
 |byt _=>obtain⟨t,rfl⟩:=r;rfl
 |flt _=>obtain⟨t,rfl⟩:=r;rfl
 |ref _=>cases r;rfl
 |ty _=>cases r;rfl
variable{y:V}
theorem RelV.inj{x:V}(r:RelV x u)(q:RelV y u):x=y:=Option.some.inj (r.abs.symm.trans q.abs)
theorem Vals.inj:∀ {xs ys:List V} {us:List Value},Vals xs us->Vals ys us->xs=ys
 |_,_,_,.nil,.nil=>rfl
 |_,_,_,.cons r t,.cons r' t'=>by rw[r.inj r',Vals.inj t t']
variable{K:Frag}
section
variable {a:Addr}{ys:List V}
theorem SqL.of(h:H a=some (.lst xs)):SqL K H a xs:=.inl (.inl h)
theorem SqT.of(h:H a=some (.tup xs)):SqT K H a xs:=.inl (.inl h)
theorem Inv.list(I:Inv X pins σ H s)(h:SqL X.K H a xs):∃ its:List Value,Vals xs its/\PlainL s.heap a its.toArray/\xs.length<=sizeLine:=by
 rcases h with h|⟨o,its,n,hk,hc,hd,hs,hz,r⟩
 .obtain⟨z,its,n,r,e⟩:=h.ok I.hok
  exact⟨its,r,⟨_,n,e,rfl,rfl,rfl⟩,z⟩
 .refine⟨its.toList,r,⟨o,n,I.kIn a o hk,hc,hd,by simpa using hs⟩,?_⟩
  have e:=r.length
  simp only[length_toList]at e
  omega
theorem Inv.tuple(I:Inv X pins σ H s)(h:SqT X.K H a xs):∃ its:List Value,Vals xs its/\IsTup s.heap a its.toArray/\xs.length<=sizeLine:=by
 rcases h with h|⟨o,its,n,hk,hc,hs,hz,r⟩
 .obtain⟨z,its,r,p⟩:=h.ok I.hok
  exact⟨its,r,p,z⟩
 .refine⟨its.toList,r,⟨o,I.kIn a o hk,hc,n,by simpa using hs⟩,?_⟩
  have e:=r.length
  simp only[length_toList]at e
  omega
theorem Inv.list_inj(I:Inv X pins σ H s)(h:SqL X.K H a xs)(h':SqL X.K H a ys):xs=ys:=by
 obtain⟨its,r,⟨o,n,e,_,_,d⟩,_⟩:=I.list h
 obtain⟨its',r',⟨o',n',e',_,_,d'⟩,_⟩:=I.list h'
 rw[e]at e';cases e'
 rw[d]at d'
 injection d' with d1 _
 have:its=its':=by simpa using congrArg Array.toList d1
 subst this
 exact r.inj r'
theorem Inv.tuple_inj(I:Inv X pins σ H s)(h:SqT X.K H a xs)(h':SqT X.K H a ys):xs=ys:=by
 obtain⟨its,r,⟨o,e,_,n,d⟩,_⟩:=I.tuple h
 obtain⟨its',r',⟨o',e',_,n',d'⟩,_⟩:=I.tuple h'
 rw[e]at e';cases e'
 rw[d]at d'
 injection d' with d1 _
 have:its=its':=by simpa using congrArg Array.toList d1
 subst this
 exact r.inj r'
end
abbrev Cx.wish(X:Cx)(E:Value->Shared->Prop):Cx:= {X with xe:=E}
abbrev Cx.nox(X:Cx):Cx:=X.wish λ_ _=>False
theorem Cx.Ok.wish(ok:X.Ok)(E:Value->Shared->Prop):(X.wish E).Ok:=
 ⟨ok.mod,ok.kind,ok.glob,ok.blt,ok.above,ok.inj,ok.has,ok.cab,ok.hd,ok.frames,ok.stk,ok.exf,ok.bs,ok.bsz,ok.noex,ok.exfs,ok.funs,ok.frf⟩
theorem Cx.Ok.unwish(ok:(X.wish E).Ok):X.Ok:=
 ⟨ok.mod,ok.kind,ok.glob,ok.blt,ok.above,ok.inj,ok.has,ok.cab,ok.hd,ok.frames,ok.stk,ok.exf,ok.bs,ok.bsz,ok.noex,ok.exfs,ok.funs,ok.frf⟩
theorem Inv.wish(I:Inv X pins σ H s)(E:Value->Shared->Prop):Inv (X.wish E) pins σ H s:=⟨I.ok.wish E,I.os,I.bare,I.base,I.loc,I.cell,I.free,I.freeC,I.pin,I.hok,I.len⟩
theorem Inv.unwish(I:Inv (X.wish E) pins σ H s):Inv X pins σ H s:=⟨I.ok.unwish,I.os,I.bare,I.base,I.loc,I.cell,I.free,I.freeC,I.pin,I.hok,I.len⟩
theorem SP.unwish{D:Ends}{f:Flow}(h:SP (X.wish E) pins D f s'):SP X pins D f s':=by
 cases f with
 |next=>obtain⟨σ',H',I,q⟩:=h;exact⟨σ',H',I.unwish,q⟩
 |brk=>obtain⟨σ',H',I,q⟩:=h;exact⟨σ',H',I.unwish,q⟩
 |cont=>obtain⟨σ',H',I,q⟩:=h;exact⟨σ',H',I.unwish,q⟩
 |ret u=>obtain⟨v,σ',H',I,r,q⟩:=h;exact⟨v,σ',H',I.unwish,r,q⟩
theorem PE.nox{t:TE}(h:PE X.nox e t):PE X e t:=λpins s σ H Q I hw=>
 wpAny_mono (h pins s σ H Q (I.wish _) hw) (λ_ _ ⟨v,H',I',r,q⟩=>⟨v,H',I'.unwish,r,q⟩) λ_ _ z=>False.elim z
theorem PT.nox{t:TT}(h:PT X.nox e t):PT X e t:=λpins s σ H Q I hw=>
 wpAny_mono (h pins s σ H Q (I.wish _) hw) (λ_ _ ⟨H',I',q⟩=>⟨H',I'.unwish,q⟩) λ_ _ z=>False.elim z
theorem PSs.nox{st:List Stmt}{t:TS}(h:PSs X.nox st t):PSs X st t:=λpins s σ H D I hw=>
 wpAny_mono (h pins s σ H D (I.wish _) hw) (λ_ _ q=>q.unwish) λ_ _ z=>False.elim z
variable{te:TE}{c:Expr}{tc:TT}
section
variable {st:Stmt}{rest:List Stmt}{t u:TS}
def E9:TS:=λD σ H=>D.nx σ H
def Cc0(t u:TS):TS:=λD σ H=>t {D with nx:=u D} σ H
theorem KG:PSs X [] E9:=λ_ _ σ H _ I h=>wpAny_execs_nil ⟨σ,H,I,h⟩
theorem Fj(h1:PS X st t)(h2:PSs X rest u):PSs X (st::rest) (Cc0 t u):=by
 intro pins s σ H D I h
 refine wpAny_execs_cons (thn (h1 pins s σ H {D with nx:=u D} I h) λf s1 q=>?_)
 cases f with
 |next=>
  obtain⟨σ',H',I',q⟩:=q
  exact h2 pins s1 σ' H' D I' q
 |ret v=>exact q
 |brk=>exact q
 |cont=>exact q
theorem Cm(h1:PS X st t):PSs X [st] t:=by
 intro pins s σ H D I h
 refine wpAny_execs_cons (thn (h1 pins s σ H D I h) λf s1 q=>?_)
 cases f with
 |next=>exact wpAny_execs_nil q
 |ret v=>exact q
 |brk=>exact q
 |cont=>exact q
theorem Inv.quiet(I:Inv X pins σ H s):interactive X.env=false:=by simp[interactive,I.ok.kind]
def A9(te:TE):TS:=λD σ H=>te σ H λ_ H1=>D.nx σ H1
theorem Do(he:PE X e te)(hs:swapsWith e none pos.line X.env=pure false:=by rfl):PS X (.Expr e pos) (A9 te):=by
 intro pins s σ H D I h
 exact wpAny_Expr_any (thn (he pins s σ H _ I h) λv s1 ⟨x,H1,I1,r1,q1⟩=>⟨σ,H1,I1,q1⟩) I.quiet hs
def Bc0(te:TE):TS:=λD σ H=>te σ H D.rt
theorem Us(he:PE X e te):PS X (.Return (some e) pos) (Bc0 te):=by
 intro pins s σ H D I h
 exact wpAny_Return_some (thn (he pins s σ H _ I h) λv s1 ⟨x,H1,I1,r1,q1⟩=>⟨x,σ,H1,I1,r1,q1⟩)
def Xb0(c:TT)(t u:TS):TS:=λD σ H=>c σ H λb H1=>if b=true then t D σ H1 else u D σ H1
theorem N8{a b:List Stmt}(hc:PT X c tc)(ha:PSs X a t)(hb:PSs X b u):PS X (.If c a b pos) (Xb0 tc t u):=by
 intro pins s σ H D I h
 refine wpAny_If (thn (hc pins s σ H _ I h) λd s1 ⟨H1,I1,q1⟩=>?_)
 cases d with
 |true=>exact ha pins s1 σ H1 D I1 q1
 |false=>exact hb pins s1 σ H1 D I1 q1
end
abbrev TG:=V->St->Hp->(St->Hp->Prop)->Prop
abbrev SR:=List V->St->Hp->(St->Hp->Prop)->Prop
def PG(X:Cx)(target:Expr)(t:TG):Prop:=
 ∀ (pins:List (Addr×Obj)) (s:Shared) (σ:St) (H:Hp) (v:V) (u:Value) (Q:St->Hp->Prop),Inv X pins σ H s->RelV v u->t v σ H Q->
  wpAny (model X.prog X.w) X.A (assign target X.env u) (λ_ s'=>∃ σ' H',Inv X pins σ' H' s'/\Q σ' H') X.xe s
def PGs(X:Cx)(ts:List Expr)(t:SR):Prop:=
 ∀ (pins:List (Addr×Obj)) (s:Shared) (σ:St) (H:Hp) (vs:List V) (us:List Value) (Q:St->Hp->Prop),Inv X pins σ H s->Vals vs us->t vs σ H Q->
  wpAny (model X.prog X.w) X.A (assignInOrder ((assignEach ts X.env).map (·.2)) us) (λ_ s'=>∃ σ' H',Inv X pins σ' H' s'/\Q σ' H') X.xe s
abbrev KZ:=V->V->V->Hp->(Hp->Prop)->Prop
def V6(X:Cx)(t:KZ):Prop:=
 ∀ (pins:List (Addr×Obj)) (s:Shared) (σ:St) (H:Hp) (o i v:V) (ov iv u:Value) (Q:Hp->Prop),Inv X pins σ H s->RelV o ov->RelV i iv->RelV v u->t o i v H Q->
  wpAny (model X.prog X.w) X.A (setItem ov iv u) (λ_ s'=>∃ H',Inv X pins σ H' s'/\Q H') X.xe s
variable{es:List Expr}{k n:Nat}{tg:Expr}{g:TG}{pos':Pos}
def Bv(i:Nat):TG:=λv σ H Q=>Q (σ.set i (some v)) H
theorem MW(hN:X.N.Nodup)(hi:X.N[i]? =some x)(hx:Cy X.env.scope x)(hf:X.fn x=true\/X.env.scope.names.lookup x=some .local:=by first|exact .inl rfl|exact .inr rfl|assumption):PG X (.Name x pos) (Bv i):=by
 intro pins s σ H v u Q I r h
 exact wpAny_assign_Name (Nl I hN hi hx r (λs' I'=>⟨_,H,I',h⟩) hf)
def Db0:SR:=λvs σ H Q=>vs= []/\Q σ H
def M7(t:TG)(u:SR):SR:=λvs σ H Q=>∃ v r,vs=v::r/\t v σ H λσ' H'=>u r σ' H' Q
theorem NW:PGs X [] Db0:=by
 intro pins s σ H vs us Q I r h
 obtain⟨e,h⟩:=h
 subst e
 cases r
 exact assignInOrder_nil ⟨σ,H,I,h⟩
theorem JP{t:TG}{u:SR}(h1:PG X e t)(h2:PGs X es u)(hs:(assignEach (e::es) X.env).map (·.2)=assign e X.env::(assignEach es X.env).map (·.2):=by rfl):PGs X (e::es) (M7 t u):=by
 intro pins s σ H vs us Q I r h
 obtain⟨v,vr,e1,h⟩:=h
 subst e1
 cases r with
 |cons r rr=>
  rw[hs]
  refine assignInOrder_cons (thn (h1 pins s σ H _ _ _ I r h) λ_ s1 ⟨σ1,H1,I1,q1⟩=>?_)
  exact h2 pins s1 σ1 H1 _ _ Q I1 rr q1
def Fb0(K:Frag)(n:Nat)(t:SR):TG:=λv σ H Q=>∃ a xs,v=.ref a/\SqT K H a xs/\xs.length=n/\t xs σ H Q
theorem N4{t:SR}(hc:X.calm=true)(h:PGs X es t)(hn:(assignEach es X.env).length=n:=by rfl)(hst:(assignEach es X.env).findIdx? (·.1)=none:=by rfl):PG X (.Tuple es k pos) (Fb0 X.K n t):=by
 intro pins s σ H v u Q I r hw
 obtain⟨a,xs,e1,hq,hl,hw⟩:=hw
 subst e1
 cases r
 obtain⟨its,rv,ht,hz⟩:=I.tuple hq
 refine assign_Tuple_tuple (I.ok.hd hc) ht (by simp[hn,<-hl,rv.length]) hst λh' hx=>?_
 have I1:Inv X pins σ H {s with heap:=h'}:=I.kept (t':=s.toks) λb o e=>hx b o (ne_of_lt (lt_size e)) e
 exact h pins _ σ H xs _ Q I1 (by simpa using rv) hw
def Eb0(to ti:TE)(t:KZ):TG:=λv σ H Q=>to σ H λo H1=>ti σ H1 λi H2=>t o i v H2 λH3=>Q σ H3
theorem M4{o i:Expr}{to ti:TE}{t:KZ}(ho:PE X o to)(hi:PE X i ti)(hs:V6 X t)(ha:∀ v,assign (.Subscript o i pos) X.env v=(do
   let ov <-holding [v] (eval o X.env)
   let iv <-holding [v,ov] (eval i X.env)
   standAt pos
   holding [v,ov,iv] (setItem ov iv v)
   release [v,ov,iv] []):=by intro _;rfl):PG X (.Subscript o i pos) (Eb0 to ti t):=by
 intro pins s σ H v u Q I r h
 rw[ha]
 refine wpAny_bind (wpAny_holding (thn (ho pins s σ H _ I h) λov s1 ⟨x,H1,I1,r1,q1⟩=>?_))
 refine wpAny_bind (wpAny_holding (thn (hi pins s1 σ H1 _ I1 q1) λiv s2 ⟨y,H2,I2,r2,q2⟩=>?_))
 refine wpAny_bind (wpAny_standAt (wpAny_bind (wpAny_holding (thn (hs pins s2 σ H2 x y v ov iv u _ I2 r1 r2 r q2) λ_ s3 ⟨H3,I3,q3⟩=>?_))))
 exact wpAny_release ⟨σ,H3,I3,q3⟩
def P5(te:TE)(g:TG):TS:=λD σ H=>te σ H λx H1=>g x σ H1 D.nx
theorem Ts(he:PE X e te)(hg:PG X tg g)(hs:swapsWithSole [tg] e pos.line X.env=pure false:=by rfl)(hw:swappedStores [tg] e X.env=pure none:=by rfl)(h1:(assignEach [tg] X.env).map (·.2)= [assign tg X.env]:=by rfl):PS X (.Assign [tg] e pos) (P5 te g):=by
 intro pins s σ H D I h
 refine wpAny_Assign_stores (thn (he pins s σ H _ I h) λv s1 ⟨x,H1,I1,r1,q1⟩=>?_) hs hw
 rw[h1]
 exact thn (hg pins s1 σ H1 x v _ I1 r1 q1) λ_ s2 q=>q
theorem Vs(hN:X.N.Nodup)(hi:X.N[i]? =some x)(hx:Cy X.env.scope x)(he:PE X e te)(hs:swapsWith e (some (.Name x pos')) pos.line X.env=pure false:=by rfl)(hf:X.fn x=true\/X.env.scope.names.lookup x=some .local:=by first|exact .inl rfl|exact .inr rfl|assumption):
  PS X (.Assign [.Name x pos'] e pos) (P5 te (Bv i)):=by
 intro pins s σ H D I h
 refine wpAny_Assign_Name (thn (he pins s σ H _ I h) λv s1 ⟨y,H1,I1,r1,q1⟩=>?_) hs
 exact Nl I1 hN hi hx r1 (λs2 I2=>⟨_,H1,I2,q1⟩) hf
variable{body:List Stmt}
def S5(c:TT)(tb:TS):TS:=λD σ H=>∃ W:Nat->St->Hp->Prop,(∃ m,W m σ H)/\∀ m σ H,W m σ H->
 c σ H λb H1=>if b=true then ∃ N:St->Hp->Prop,(∀ σ' H',N σ' H'->∃ m',m'<m/\W m' σ' H')/\tb {D with nx:=N,ct:=N,bk:=D.nx} σ H1 else D.nx σ H1
theorem MP{tb:TS}(hp:PassesOwn (model X.prog X.w) X.A X.env X.xe)(hc:PT X c tc)(hb:PSs X body tb):PS X (.While c body [] pos) (S5 tc tb):=by
 intro pins s σ H D I h
 obtain⟨W,⟨m0,w0⟩,turn⟩:=h
 refine wpAny_While (codeAny_whileLoop (λn s'=>∃ σ' H',Inv X pins σ' H' s'/\W n σ' H') ?_ m0 ⟨σ,H,I,w0⟩)
 rintro n s1 ⟨σ1,H1,I1,w1⟩
 refine wpAny_passesOwn hp (thn (hc pins s1 σ1 H1 _ I1 (turn n σ1 H1 w1)) λb s2 ⟨H2,I2,q2⟩=>?_)
 cases b with
 |true=>
  obtain⟨N,hN,q2⟩:=q2
  rw[if_pos rfl]
  refine wpAny_passesOwn hp (thn (hb pins s2 σ1 H2 _ I2 q2) λf s3 q3=>?_)
  cases f with
  |next=>
   obtain⟨σ3,H3,I3,n3⟩:=q3
   obtain⟨m',hm,w3⟩:=hN σ3 H3 n3
   exact⟨m',hm,σ3,H3,I3,w3⟩
  |cont=>
   obtain⟨σ3,H3,I3,n3⟩:=q3
   obtain⟨m',hm,w3⟩:=hN σ3 H3 n3
   exact⟨m',hm,σ3,H3,I3,w3⟩
  |brk=>exact q3
  |ret v=>exact q3
 |false=>
  rw[if_neg Bool.false_ne_true]
  exact wpAny_execs_nil ⟨σ1,H2,I2,q2⟩
structure It where
 go:Nat->Hp->Prop
 yld:Nat->Hp->V->Hp->Prop
 stop:Nat->Hp->Prop
def Wm(X:Cx)(pins:List (Addr×Obj))(H:Hp)(b:Addr):Prop:=
 H b=none/\b≠X.env.locals/\b∉X.fs/\(b∈X.ex\/X.s₀.heap.objs.size<=b)/\(∀ x c,X.env.cells.lookup x=some c->c≠b)/\∀ p∈X.pn++pins,p.1≠b
theorem Inv.fpOk{b:Addr}(I:Inv X pins σ H s)(hb:s.heap.objs.size<=b)(hn:H' b=none):Wm X pins H' b:=by
 refine⟨hn,ne_of_gt (lt_of_lt_of_le I.lt hb),I.nofs hb,.inr (le_trans I.sz hb),λx c e z=>?_,λp hp z=>?_⟩
 .obtain⟨v,q⟩:=I.cell x c e
  exact absurd (lt_of_lt_of_le q.lt (by rw[z];exact hb)) (lt_irrefl _)
 .exact absurd (lt_of_lt_of_le (lt_size (I.pin p hp).1) (by rw[z];exact hb)) (lt_irrefl _)
structure Turn(P:Program)(w:World)(K:Frag)(tg:Expr)(J:It)(fp:List Addr)(it:Addr)(tn:Nat->Heap->Prop):Prop where
 mem:it∈fp
 obj:∀ i h,tn i h->∀ b∈fp,∃ o,h.get? b=some o/\∀ v,o.data≠ .cell v
 keep:∀ i h h',tn i h->(∀ b∈fp,∀ o,h.get? b=some o->h'.get? b=some o)->tn i h'
 item:∀ (X:Cx),X.prog=P->X.w=w->X.K=K->X.calm=true->∀ (i:Nat) (pins:List (Addr×Obj)) (s:Shared) (σ:St) (H:Hp) (E:Value->Shared->Prop),Inv X pins σ H s->(∀ b∈fp,Wm X pins H b)->tn i s.heap->J.go i H->
  wpAny (model P w) X.A (pyNext (.ref it)) (λr s1=>∃ u,r=some u/\
   wpAny (model P w) X.A (letOwnedTupleGo tg (.ref it) u) (λ_ s2=>∃ x H',Inv X pins σ H' s2/\RelV x u/\J.yld i H x H'/\tn (i+1) s2.heap/\∀ b∈fp,H' b=none) E s1) E s
 done:∀ (X:Cx),X.prog=P->X.w=w->X.K=K->X.calm=true->∀ (i:Nat) (pins:List (Addr×Obj)) (s:Shared) (σ:St) (H:Hp) (E:Value->Shared->Prop),Inv X pins σ H s->(∀ b∈fp,Wm X pins H b)->tn i s.heap->J.stop i H->
  wpAny (model P w) X.A (pyNext (.ref it)) (λr s1=>r=none/\Inv X pins σ H s1) E s
 self:∀ (A:Around) (i:Nat) (s:Shared) (Q:Value->Shared->Prop) (E:Value->Shared->Prop),tn i s.heap->Q (.ref it) s->wpAny (model P w) A (pyIter (.ref it)) Q E s
abbrev TI:=St->Hp->(It->Hp->Prop)->Prop
def PIE(X:Cx)(pins:List (Addr×Obj))(σ:St)(tg:Expr)(R:It->Hp->Prop)(itv:Value)(s2:Shared):Prop:=
 ∃ (it:Addr) (fp:List Addr) (tn:Nat->Heap->Prop) (J:It) (H':Hp),itv=.ref it/\Inv X pins σ H' s2/\Turn X.prog X.w X.K tg J fp it tn/\tn 0 s2.heap/\(∀ b∈fp,Wm X pins H' b)/\R J H'
def PI(X:Cx)(tg iter:Expr)(wi:TI):Prop:=
 ∀ (pins:List (Addr×Obj)) (s:Shared) (σ:St) (H:Hp) (R:It->Hp->Prop),Inv X pins σ H s->wi σ H R->
  wpAny (model X.prog X.w) X.A (eval iter X.env) (λv s1=>wpAny (model X.prog X.w) X.A (pyIter v) (PIE X pins σ tg R) X.xe s1) X.xe s
theorem JM{E : Value -> Shared -> Prop}{n : String}{vs : Array Value}{Q : Unit -> Shared -> Prop}(ho : s.heap.get? it = some o)(hc : o.cls = .type n)(hd : o.data = .fields vs)(hn : ["enumerate", "zip", "dict_itemiterator", "dict_reverseitemiterator", "odict_iterator", "itertools.zip_longest", "itertools.pairwise"].contains n = false)(hQ : Q () s) : wpAny M A (letOwnedTupleGo tg (.ref it) u) Q E s := by
  unfold letOwnedTupleGo
  cases tg <;> first
    | exact wpAny_pure hQ
    | (cases u <;> first
        | exact wpAny_pure hQ
        | (refine wpAny_bind (wpAny_load ho ?_)
           rw[hc, hd]
           show wpAny M A (if(["enumerate", "zip", "dict_itemiterator", "dict_reverseitemiterator", "odict_iterator", "itertools.zip_longest", "itertools.pairwise"].contains n && vs[0]? == some (rawInt _)) = true then _ else _) Q E s
           rw[if_neg (by intro h; rw[hn, Bool.false_and]at h; cases h)]
           exact wpAny_pure hQ))
def Itl(K:Frag)(a:Addr):It:=
 ⟨λi H=>∃ xs x,SqL K H a xs/\xs[i]? =some x,λi H x H'=>H'=H/\∀ xs,SqL K H a xs->xs[i]? =some x,λi H=>∃ xs,SqL K H a xs/\xs.length<=i⟩
def Itt(K:Frag)(a:Addr):It:=
 ⟨λi H=>∃ xs x,SqT K H a xs/\xs[i]? =some x,λi H x H'=>H'=H/\∀ xs,SqT K H a xs->xs[i]? =some x,λi H=>∃ xs,SqT K H a xs/\xs.length<=i⟩
def Itr(lo:Int)(n:Nat):It:=⟨λi _=>i<n,λi H x H'=>H'=H/\x=.int (lo+i),λi _=>n<=i⟩
theorem YJ(a it:Addr):Turn P w K tg (Itl K a) [it] it (λi h=>h.IsListIter it a i) where
 mem:=by simp
 obj:=λi h st b hb=>by
  have e:b=it:=by simpa using hb
  subst e
  obtain⟨o,e,c,d⟩:=st
  exact⟨o,e,λv z=>by rw[d]at z;cases z⟩
 keep:=λi h h' st k=>st.at λo e=>k it (by simp) o e
 item:=by
  intro X hP hw hK hc i pins s σ H E I hf st hg
  subst hP hw hK
  obtain⟨xs,x,hq,hx⟩:=hg
  obtain⟨its,rv,p,hz⟩:=I.list hq
  obtain⟨u,hu,ru⟩:=rv.get hx
  obtain⟨f0,f1,f2,f3,f4,f5⟩:=hf it (by simp)
  refine wpAny_pyNext_list_item st p.isList (x:=u) (by simpa using hu) λh' st' sb=>?_
  have I1:Inv X pins σ H {s with heap:=h'}:=I.turned (t':=s.toks) (λb o hb e=>(sb.2 b hb).trans e) f0 f1 f3 f4 f5
  obtain⟨o,e,c,d⟩:=id st'
  exact⟨u,rfl,JM (s:= {s with heap:=h'}) e c d (by decide) ⟨x,H,I1,ru,⟨rfl,λys hy=>by rw[I.list_inj hy hq];exact hx⟩,st',λb hb=>(hf b hb).1⟩⟩
 done:=by
  intro X hP hw hK hc i pins s σ H E I hf st hg
  subst hP hw hK
  obtain⟨xs,hq,hx⟩:=hg
  obtain⟨its,rv,p,hz⟩:=I.list hq
  obtain⟨f0,f1,f2,f3,f4,f5⟩:=hf it (by simp)
  have hl:=rv.length
  exact wpAny_pyNext_list_end (I.ok.hd hc) st p.isList (by simp;omega) λh' eb=>⟨rfl,I.turned (t':=s.toks) (λb o hb e=>eb b o hb e) f0 f1 f3 f4 f5⟩
 self:=λ_ _ _ _ _ st h=>wpAny_pyIter_listiter st h
theorem FE(a it:Addr):Turn P w K tg (Itt K a) [it] it (λi h=>h.IsTupleIter it a i) where
 mem:=by simp
 obj:=λi h st b hb=>by
  have e:b=it:=by simpa using hb
  subst e
  obtain⟨o,e,c,d⟩:=st
  exact⟨o,e,λv z=>by rw[d]at z;cases z⟩
 keep:=λi h h' st k=>st.at λo e=>k it (by simp) o e
 item:=by
  intro X hP hw hK hc i pins s σ H E I hf st hg
  subst hP hw hK
  obtain⟨xs,x,hq,hx⟩:=hg
  obtain⟨its,rv,p,hz⟩:=I.tuple hq
  obtain⟨u,hu,ru⟩:=rv.get hx
  obtain⟨f0,f1,f2,f3,f4,f5⟩:=hf it (by simp)
  refine wpAny_pyNext_tuple_item st (show s.heap.IsTuple a its.toArray from p) (x:=u) (by simpa using hu) λh' st' sb=>?_
  have I1:Inv X pins σ H {s with heap:=h'}:=I.turned (t':=s.toks) (λb o hb e=>(sb.2 b hb).trans e) f0 f1 f3 f4 f5
  obtain⟨o,e,c,d⟩:=id st'
  exact⟨u,rfl,JM (s:= {s with heap:=h'}) e c d (by decide) ⟨x,H,I1,ru,⟨rfl,λys hy=>by rw[I.tuple_inj hy hq];exact hx⟩,st',λb hb=>(hf b hb).1⟩⟩
 done:=by
  intro X hP hw hK hc i pins s σ H E I hf st hg
  subst hP hw hK
  obtain⟨xs,hq,hx⟩:=hg
  obtain⟨its,rv,p,hz⟩:=I.tuple hq
  obtain⟨f0,f1,f2,f3,f4,f5⟩:=hf it (by simp)
  have hl:=rv.length
  exact wpAny_pyNext_tuple_end (I.ok.hd hc) st (show s.heap.IsTuple a its.toArray from p) (by simp;omega) λh' eb=>⟨rfl,I.turned (t':=s.toks) (λb o hb e=>eb b o hb e) f0 f1 f3 f4 f5⟩
 self:=λ_ _ _ _ _ st h=>wpAny_pyIter_tupleiter st h
theorem EE(it:Addr)(lo:Int)(n:Nat):Turn P w K tg (Itr lo n) [it] it (λi h=>IsRangeIter h it (lo+(i:Nat)*1) ((n:Int)-(i:Nat)) 1) where
 mem:=by simp
 obj:=λi h st b hb=>by
  have e:b=it:=by simpa using hb
  subst e
  exact⟨_,st,λv z=>by
   have z':Data.fields _=Data.cell v:=z
   cases z'⟩
 keep:=λi h h' st k=>k it (by simp) _ st
 item:=by
  intro X hP hw hK hc i pins s σ H E I hf st hg
  subst hP hw hK
  obtain⟨f0,f1,f2,f3,f4,f5⟩:=hf it (by simp)
  have W:=Walks.range (prog:=X.prog) (w:=X.w) (I.ok.hd hc) it lo 1 n
  refine W.item i s _ _ hg st λv h' tk hv st' kk=>?_
  obtain⟨t,rfl⟩:=hv
  have I1:Inv X pins σ H {s with heap:=h',toks:=tk}:=I.turned (λb o hb e=>kk b o (by simpa using hb) e) f0 f1 f3 f4 f5
  refine⟨_,rfl,JM (s:= {s with heap:=h',toks:=tk}) (n:="range_iterator") st' rfl rfl (by decide) ⟨.int (lo+i),H,I1,⟨t,?_⟩,⟨rfl,rfl⟩,st',λb hb=>(hf b hb).1⟩⟩
  rw[Int.mul_one]
 done:=by
  intro X hP hw hK hc i pins s σ H E I hf st hg
  subst hP hw hK
  obtain⟨f0,f1,f2,f3,f4,f5⟩:=hf it (by simp)
  exact wpAny_pyNext_range_end (I.ok.hd hc) st (by have:n<=i:=hg;omega) λh' eb=>⟨rfl,I.turned (t':=s.toks) (λb o hb e=>eb b o hb e) f0 f1 f3 f4 f5⟩
 self:=λ_ _ _ _ _ st h=>wpAny_pyIter_rangeiter st h
variable{fp:List Addr}
theorem KA{R:It->Hp->Prop}{lo hi:Int}{t u v:Tok}{tk:Nat}(I:Inv X pins σ H s)(h1: -(2^62)<=lo)(h2:lo<2^62)(h3: -(2^62)<=hi)(h4:hi<2^62)(q:R (Itr lo (hi-lo).toNat) H):wpAny (model X.prog X.w) X.A (pyIter (.ref s.heap.objs.size)) (PIE X pins σ tg R) E {s with heap:=s.heap.push {cls:=.type "range",data:=.fields #[.int lo t,.int hi u,.int 1 v]},toks:=tk}:=by
 refine wpAny_pyIter_range (IsRange.new ..) (small_one h1 h2 h3 h4) ?_
 have I1:Inv X pins σ H {s with heap:=s.heap.push {cls:=.type "range",data:=.fields #[.int lo t,.int hi u,.int 1 v]},toks:=tk}:=I.kept λb o e=>get?_push_of_some _ e
 refine⟨(s.heap.push {cls:=.type "range",data:=.fields #[.int lo t,.int hi u,.int 1 v]}).objs.size,[(s.heap.push {cls:=.type "range",data:=.fields #[.int lo t,.int hi u,.int 1 v]}).objs.size],_,_,H,rfl,
  I1.kept (t':=tk) λb o e=>get?_push_of_some _ e,EE _ lo (hi-lo).toNat,?_,λb hb=>?_,q⟩
 .have e1:lo+((0:Nat):Int)*1=lo:=by simp
  have e2:(((hi-lo).toNat:Nat):Int)-((0:Nat):Int)=Builtin.Range.rangeSize lo hi 1:=by rw[rangeSize_one];split<;>omega
  show IsRangeIter _ _ (lo+((0:Nat):Int)*1) ((((hi-lo).toNat:Nat):Int)-((0:Nat):Int)) 1
  rw[e1,e2]
  exact get?_push_size _ rfl
 .have e:b=(s.heap.push {cls:=.type "range",data:=.fields #[.int lo t,.int hi u,.int 1 v]}).objs.size:=by simpa using hb
  subst e
  exact I1.fpOk (le_refl _) (I1.hok.fresh (le_refl _))
def R7(ta:TA):TI:=λσ H R=>ta σ H λvs H1=>∃ j:Int,vs= [.int j]/\ -(2^62)<=j/\j<2^62/\R (Itr 0 j.toNat) H1
def S7(ta:TA):TI:=λσ H R=>ta σ H λvs H1=>∃ i j:Int,vs= [.int i,.int j]/\(-(2^62)<=i/\i<2^62/\ -(2^62)<=j/\j<2^62)/\R (Itr i (j-i).toNat) H1
theorem JJ{ta:TA}{p:Pos}(hg:Gl X "range")(hm:X.mg "range"=none)(ha:PA X [a] ta)(hs:starEach [a] X.env= [(false,eval a X.env)]:=by rfl):PI X tg (.Call (.Name "range" p) [a] [] pos) (R7 ta):=by
 intro pins s σ H R I h
 refine Call_ (Li I hg hm boot_range (PyProof.Rows.callWith_type1 (thn (ha pos pins s σ H _ I h) λus s1 ⟨vs,H1,I1,r1,q1⟩=>?_) hs rfl))
 obtain⟨j,e,q1,q2,q⟩:=q1
 subst e
 cases r1 with
 |cons r rr=>
  cases rr
  obtain⟨t,rfl⟩:=r
  exact call_range_1 (KA I1 (by omega) (by omega) q1 q2 (by simpa using q))
theorem KJ{ta:TA}{p:Pos}(hg:Gl X "range")(hm:X.mg "range"=none)(ha:PA X [a,b] ta)(hs:starEach [a,b] X.env= [(false,eval a X.env),(false,eval b X.env)]:=by rfl)(hs2:starEach [b] X.env= [(false,eval b X.env)]:=by rfl):
  PI X tg (.Call (.Name "range" p) [a,b] [] pos) (S7 ta):=by
 intro pins s σ H R I h
 refine Call_ (Li I hg hm boot_range (PyProof.Rows.callWith_type1 (thn (ha pos pins s σ H _ I h) λus s1 ⟨vs,H1,I1,r1,q1⟩=>?_) (by rw[hs,hs2]) (by rw[hs2];rfl)))
 obtain⟨i,j,e,⟨q1,q2,q3,q4⟩,q⟩:=q1
 subst e
 cases r1 with
 |cons r rr=>
  cases rr with
  |cons r' rr=>
   cases rr
   obtain⟨t,rfl⟩:=r
   obtain⟨t',rfl⟩:=r'
   exact call_range_2 (KA I1 q1 q2 q3 q4 q)
def Wb0(wi:TI)(g:TG)(tb:TS):TS:=λD σ H=>wi σ H λJ H1=>∃ W:Nat->Nat->St->Hp->Prop,(∃ m,W 0 m σ H1)/\∀ i m σ H,W i m σ H->
 (J.stop i H/\D.nx σ H)\/(J.go i H/\∃ N:St->Hp->Prop,(∀ σ' H',N σ' H'->∃ m',m'<m/\W (i+1) m' σ' H')/\∀ x H',J.yld i H x H'->g x σ H' λσ2 H2=>tb {D with nx:=N,ct:=N,bk:=D.nx} σ2 H2)
def Ss(fp:List Addr)(h:Heap):List (Addr×Obj):=fp.filterMap λb=>(h.get? b).map λo=>(b,o)
theorem Bk{h:Heap}{b:Addr}(hb:b∈fp)(e:h.get? b=some o):(b,o)∈Ss fp h:=List.mem_filterMap.mpr ⟨b,hb,by rw[e];rfl⟩
theorem EJ{h:Heap}{p:Addr×Obj}(hp:p∈Ss fp h):p.1∈fp/\h.get? p.1=some p.2:=by
 obtain⟨b,hb,e⟩:=List.mem_filterMap.mp hp
 cases q:h.get? b with
 |none=>rw[q]at e;cases e
 |some o=>
  rw[q]at e
  have e':(b,o)=p:=Option.some.inj e
  subst e'
  exact⟨hb,q⟩
theorem Inv.pinned(I:Inv X pins σ H s)(hf:∀ b∈fp,Wm X pins H b)(ho:∀ b∈fp,∃ o,s.heap.get? b=some o/\∀ v,o.data≠ .cell v):Inv X (pins++Ss fp s.heap) σ H s:=
 I.pins_of λp hp=>(mem_append.mp hp).elim (λz=>I.pin p (mem_append_right _ z)) λz=>by
  obtain⟨hb,e⟩:=EJ z
  obtain⟨f0,f1,f2,_⟩:=hf p.1 hb
  obtain⟨o,e',d⟩:=ho p.1 hb
  rw[e]at e';cases e'
  exact⟨e,f0,f1,f2,d⟩
theorem Inv.unpinned{pl:List (Addr×Obj)}(I:Inv X (pins++pl) σ H s):Inv X pins σ H s:=I.pins_of λp hp=>I.pin p (mem_append_right _ (List.mem_append_left _ hp))
theorem S4{iter:Expr}{wi:TI}{tb:TS}(hp:PassesOwn (model X.prog X.w) X.A X.env X.xe)(hc:X.calm=true)(hi:PI X tg iter wi)(hg:PG X tg g)(hb:PSs X body tb)(hs:∀ x,foldedSetIterable iter X.env x=pure x:=by intro _;rfl):PS X (.For tg iter body [] pos) (Wb0 wi g tb):=by
 intro pins s σ H D I h
 refine wpAny_For (thn (hi pins s σ H _ I h) λv s1 h1=>thn h1 λitv s2 h2=>?_) hs
 obtain⟨it,fp,tn,J,H2,e,I2,T,st2,f2,W,⟨m0,w0⟩,turn⟩:=h2
 subst e
 have stat:∀ {H':Hp},(∀ b∈fp,H' b=none)->∀ b∈fp,Wm X pins H' b:=λhn b hb=>⟨hn b hb,(f2 b hb).2⟩
 refine codeAny_forLoop_any (λn s'=>∃ i σ' H',Inv X pins σ' H' s'/\tn i s'.heap/\(∀ b∈fp,H' b=none)/\W i n σ' H') ?_ m0 ⟨0,σ,H2,I2,st2,λb hb=>(f2 b hb).1,w0⟩
 rintro n s3 ⟨i,σ3,H3,I3,st3,fr3,w3⟩
 rcases turn i n σ3 H3 w3 with⟨stop,qn⟩|⟨go,N,hN,step⟩
 .refine wpAny_passesOwn hp (thn (T.done X rfl rfl rfl hc i pins s3 σ3 H3 X.xe I3 (stat fr3) st3 stop) λr s4 ⟨hr,I4⟩=>?_)
  subst hr
  exact wpAny_execs_nil ⟨σ3,H3,I4,qn⟩
 .refine wpAny_passesOwn hp (thn (T.item X rfl rfl rfl hc i pins s3 σ3 H3 X.xe I3 (stat fr3) st3 go) λr s4 ⟨u,hr,h4⟩=>?_)
  subst hr
  refine wpAny_passesOwn hp (thn h4 λ_ s5 ⟨x,H5,I5,r5,y5,st5,fr5⟩=>?_)
  have I5':=I5.pinned (stat fr5) (T.obj _ _ st5)
  refine wpAny_passesOwn hp (thn (hg _ s5 σ3 H5 x u _ I5' r5 (step x H5 y5)) λ_ s6 ⟨σ6,H6,I6,q6⟩=>?_)
  refine wpAny_passesOwn hp (thn (hb _ s6 σ6 H6 _ I6 q6) λf s7 q7=>?_)
  have again:∀ {σ7:St} {H7:Hp},Inv X (pins++Ss fp s5.heap) σ7 H7 s7->N σ7 H7->∃ m,m<n/\∃ i σ' H',Inv X pins σ' H' s7/\tn i s7.heap/\(∀ b∈fp,H' b=none)/\W i m σ' H':=λ{σ7 H7} I7 n7=>by
   obtain⟨m',hm,w7⟩:=hN σ7 H7 n7
   refine⟨m',hm,i+1,σ7,H7,I7.unpinned,T.keep _ _ _ st5 λb hb o e=>(I7.pin (b,o) (mem_append_right _ (mem_append_right _ (Bk hb e)))).1,λb hb=>?_,w7⟩
   obtain⟨o,e,d⟩:=T.obj _ _ st5 b hb
   exact(I7.pin (b,o) (mem_append_right _ (mem_append_right _ (Bk hb e)))).2.1
  cases f with
  |next=>obtain⟨σ7,H7,I7,n7⟩:=q7;exact again I7 n7
  |cont=>obtain⟨σ7,H7,I7,n7⟩:=q7;exact again I7 n7
  |brk=>obtain⟨σ7,H7,I7,q7⟩:=q7;exact⟨σ7,H7,I7.unpinned,q7⟩
  |ret v=>obtain⟨x7,σ7,H7,I7,r7,q7⟩:=q7;exact⟨x7,σ7,H7,I7.unpinned,r7,q7⟩
abbrev R2:=V->V->Hp->VK->Prop
def OpR(X:Cx)(f:Value->Value->Sem Value)(r:R2):Prop:=
 ∀ (pins:List (Addr×Obj)) (s:Shared) (σ:St) (H:Hp) (x y:V) (v u:Value) (Q:VK),Inv X pins σ H s->RelV x v->RelV y u->r x y H Q->
  wpAny (model X.prog X.w) X.A (f v u) (EP X pins σ Q) X.xe s
def UnR(X:Cx)(f:Value->Sem Value)(r:V->Hp->VK->Prop):Prop:=
 ∀ (pins:List (Addr×Obj)) (s:Shared) (σ:St) (H:Hp) (x:V) (v:Value) (Q:VK),Inv X pins σ H s->RelV x v->r x H Q->
  wpAny (model X.prog X.w) X.A (f v) (EP X pins σ Q) X.xe s
def Rg(X:Cx)(f:Value)(r:List V->Hp->VK->Prop):Prop:=
 ∀ (pins:List (Addr×Obj)) (s:Shared) (σ:St) (H:Hp) (xs:List V) (us:List Value) (Q:VK),Inv X pins σ H s->Vals xs us->r xs H Q->
  wpAny (model X.prog X.w) X.A (call f us) (EP X pins σ Q) X.xe s
def G9(r:R2)(ta tb:TE):TE:=λσ H Q=>ta σ H λx H1=>tb σ H1 λy H2=>r x y H2 Q
def tUn(r:V->Hp->VK->Prop)(ta:TE):TE:=λσ H Q=>ta σ H λx H1=>r x H1 Q
def rI(C:Int->Int->Prop)(g:Int->Int->V):R2:=λx y H Q=>∃ i j,x=.int i/\y=.int j/\C i j/\Q (g i j) H
def B5(g:Int->Int->V):R2:=λx y H Q=>∃ i j,x=.int i/\y=.int j/\Q (g i j) H
def rU(g:Int->V):V->Hp->VK->Prop:=λx H Q=>∃ i,x=.int i/\Q (g i) H
variable{f:Value->Value->Sem Value}{tc:TE}{g:Int->Int->Int}{r:R2}
theorem WR(ha:PE X a ta)(hb:PE X b tb){R:V->V->Hp->Prop}(I:Inv X pins σ H s)(h:ta σ H λx H1=>tb σ H1 λy H2=>R x y H2)(hf:∀ v u s2 x y H2,Inv X pins σ H2 s2->RelV x v->RelV y u->R x y H2->wpAny (model X.prog X.w) X.A (f v u) Q X.xe s2):
  wpAny (model X.prog X.w) X.A (eval a X.env) (λv s₁=>wpAny (model X.prog X.w) X.A (eval b X.env) (λu s₂=>wpAny (model X.prog X.w) X.A (f v u) Q X.xe s₂) X.xe s₁) X.xe s:=by
 refine thn (ha pins s σ H _ I h) λv s1 ⟨x,H1,I1,r1,q1⟩=>?_
 refine thn (hb pins s1 σ H1 _ I1 q1) λu s2 ⟨y,H2,I2,r2,q2⟩=>?_
 exact hf v u s2 x y H2 I2 r1 r2 q2
theorem WY{op:Operator}(ho:OpR X (binaryOp op) r)(ha:PE X a ta)(hb:PE X b tb):PE X (.BinOp a op b pos) (G9 r ta tb):=by
 intro pins s σ H Q I h
 exact wpAny_BinOp (WR ha hb I h λv u s2 x y H2 I2 rx ry q=>ho pins s2 σ H2 x y v u Q I2 rx ry q)
theorem L8{op:UnaryOp}{r:V->Hp->VK->Prop}(ho:UnR X (unaryOp op) r)(ha:PE X a ta):PE X (.UnaryOp op a pos) (tUn r ta):=by
 intro pins s σ H Q I h
 exact UnaryOp_ (thn (ha pins s σ H _ I h) λv s1 ⟨x,H1,I1,r1,q1⟩=>ho pins s1 σ H1 x v Q I1 r1 q1)
theorem opI{C:Int->Int->Prop}(rule:∀ (i j:Int) (t u:Tok) (s:Shared) (Q:Value->Shared->Prop) (E:Value->Shared->Prop),C i j->Q (.int (g i j) s.toks) {s with toks:=s.toks+1}->wpAny (model X.prog X.w) X.A (f (.int i t) (.int j u)) Q E s):
  OpR X f (rI C λi j=>.int (g i j)):=by
 intro pins s σ H x y v u Q I rx ry h
 obtain⟨i,j,rfl,rfl,hc,q⟩:=h
 obtain⟨t,rfl⟩:=rx
 obtain⟨t',rfl⟩:=ry
 exact rule i j t t' s _ _ hc ⟨.int (g i j),H,I.tok _,⟨_,rfl⟩,q⟩
theorem B8(rule:∀ (i j:Int) (t u:Tok) (s:Shared) (Q:Value->Shared->Prop) (E:Value->Shared->Prop),Q (.int (g i j) s.toks) {s with toks:=s.toks+1}->wpAny (model X.prog X.w) X.A (f (.int i t) (.int j u)) Q E s):
  OpR X f (B5 λi j=>.int (g i j)):=by
 intro pins s σ H x y v u Q I rx ry h
 obtain⟨i,j,rfl,rfl,q⟩:=h
 obtain⟨t,rfl⟩:=rx
 obtain⟨t',rfl⟩:=ry
 exact rule i j t t' s _ _ ⟨.int (g i j),H,I.tok _,⟨_,rfl⟩,q⟩
theorem O3{g:Int->Int->Bool}(rule:∀ (i j:Int) (t u:Tok) (s:Shared) (Q:Value->Shared->Prop) (E:Value->Shared->Prop),Q (.bool (g i j)) s->wpAny (model X.prog X.w) X.A (f (.int i t) (.int j u)) Q E s):
  OpR X f (B5 λi j=>.bl (g i j)):=by
 intro pins s σ H x y v u Q I rx ry h
 obtain⟨i,j,rfl,rfl,q⟩:=h
 obtain⟨t,rfl⟩:=rx
 obtain⟨t',rfl⟩:=ry
 exact rule i j t t' s _ _ ⟨.bl (g i j),H,I,rfl,q⟩
def Oa0(i j:Int):Prop:=0<j/\j<1073741824
def Pa0(i j:Int):Prop:=0<=j/\j<=1000000/\i.natAbs<2^64
def CMul(i j:Int):Prop:=(-(2^64)<i/\i<2^64)\/(-(2^64)<j/\j<2^64)
theorem CMul.ok{i j:Int}(h:CMul i j):IntMulOk i j:=by
 rcases h with⟨h1,h2⟩|⟨h1,h2⟩
 .exact .of_left (intBits_le_64 h1 h2)
 .exact .of_right (intBits_le_64 h1 h2)
theorem P3:OpR X (binaryOp .Add) (B5 λi j=>.int (i+j)):=B8 λ_ _ _ _ _ _ _ q=>add_int q
theorem Y3:OpR X (binaryOp .Sub) (B5 λi j=>.int (i-j)):=B8 λ_ _ _ _ _ _ _ q=>sub_int q
theorem U3:OpR X (binaryOp .Mult) (rI CMul λi j=>.int (i*j)):=opI λ_ _ _ _ _ _ _ hc q=>mul_int q hc.ok
theorem QV:OpR X (binaryOp .FloorDiv) (rI Oa0 λi j=>.int (i / j)):=opI λi j _ _ _ _ _ hc q=>by
 have h1:(0:Int)<j:=hc.1
 have h2:j<1073741824:=hc.2
 exact floordiv_int (by omega) (by rw[Int.fdiv_eq_ediv_of_nonneg i (by omega)];exact q) (.inl (PyProof.noPylong_small (by omega)))
theorem T3:OpR X (binaryOp .Mod) (rI (λ_ j=>0<j) λi j=>.int (i%j)):=opI λi j _ _ _ _ _ hc q=>by
 have h1:(0:Int)<j:=hc
 exact mod_int' (by omega) (by rw[Int.fmod_eq_emod_of_nonneg i (by omega)];exact q)
theorem X3:OpR X (binaryOp .Pow) (rI Pa0 λi j=>.int (i^j.toNat)):=opI λ_ _ _ _ _ _ _ hc q=>pow_int_small hc.1 hc.2.1 hc.2.2 q
theorem unI{f:Value->Sem Value}{g:Int->Int}(rule:∀ (i:Int) (t:Tok) (s:Shared) (Q:Value->Shared->Prop) (E:Value->Shared->Prop),Q (.int (g i) s.toks) {s with toks:=s.toks+1}->wpAny (model X.prog X.w) X.A (f (.int i t)) Q E s):
  UnR X f (rU λi=>.int (g i)):=by
 intro pins s σ H x v Q I rx h
 obtain⟨i,rfl,q⟩:=h
 obtain⟨t,rfl⟩:=rx
 exact rule i t s _ _ ⟨.int (g i),H,I.tok _,⟨_,rfl⟩,q⟩
theorem V5:UnR X (unaryOp .USub) (rU λi=>.int (-i)):=unI λ_ _ _ _ _ q=>neg_int q
theorem M1{Q:VK}{k k':Bool}(I:Inv X pins σ H s)(q:Q (.bl k) H)(e:k=k'):EP X pins σ Q (.bool k') s:=by
 subst e
 exact⟨.bl k,H,I,rfl,q⟩
theorem E8:OpR X (compareOp .Lt) (B5 λi j=>.bl (decide (i<j))):=O3 λ_ _ _ _ _ _ _ q=>lt_int q
theorem D8:OpR X (compareOp .Gt) (B5 λi j=>.bl (decide (j<i))):=O3 λ_ _ _ _ _ _ _ q=>gt_int q
theorem C8:OpR X (compareOp .GtE) (B5 λi j=>.bl (decide (j<=i))):=O3 λ_ _ _ _ _ _ _ q=>ge_int q
theorem IJ:OpR X (compareOp .In) (λx y H Q=>∃ i j,x=.str i/\y=.str j/\Q (.bl (!(Builtin.Str.occurrences j i 0 j.length 1).isEmpty)) H):=by
 intro pins s σ H x y v u Q I rx ry h
 obtain⟨i,j,rfl,rfl,q⟩:=h
 obtain⟨t,rfl⟩:=rx
 obtain⟨t',rfl⟩:=ry
 exact in_str (M1 I q rfl)
theorem OpR.or{r':R2}(h:OpR X f r)(h':OpR X f r'):OpR X f (λx y H Q=>r x y H Q\/r' x y H Q):=by
 intro pins s σ H x y v u Q I rx ry q
 rcases q with q|q
 .exact h pins s σ H x y v u Q I rx ry q
 .exact h' pins s σ H x y v u Q I rx ry q
theorem LO(b:Expr)(h:op≠ .In:=by decide)(h2:op≠ .NotIn:=by decide):behindInMarks op b=false:=by
 have e1:(op==CmpOp.In)=false:=by cases op<;>first|rfl|exact absurd rfl h
 have e2:(op==CmpOp.NotIn)=false:=by cases op<;>first|rfl|exact absurd rfl h2
 cases b<;>simp[behindInMarks,e1,e2]
theorem BW(ho:OpR X (compareOp op) r)(ha:PE X a ta)(hb:PE X b tb)(hm:behindInMarks op b=false):PE X (.Compare a [op] [b] pos) (G9 r ta tb):=by
 intro pins s σ H Q I h
 exact wpAny_Compare1 (WR ha hb I h λv u s2 x y H2 I2 rx ry q=>ho pins s2 σ H2 x y v u Q I2 rx ry q) hm
def L9(t:TE):TT:=λσ H Q=>t σ H λx H'=>∃ k,x=.bl k/\Q k H'
theorem Eo(ho:OpR X (compareOp op) r)(ha:PE X a ta)(hb:PE X b tb)(hm:behindInMarks op b=false):PT X (.Compare a [op] [b] pos) (L9 (G9 r ta tb)):=by
 intro pins s σ H Q I h
 refine wpAny_isTrue_Compare1 (thn (ha pins s σ H _ I h) λv s1 ⟨x,H1,I1,r1,q1⟩=>thn (hb pins s1 σ H1 _ I1 q1) λu s2 ⟨y,H2,I2,r2,q2⟩=>
  thn (ho pins s2 σ H2 x y v u _ I2 r1 r2 q2) λc s3 ⟨z,H3,I3,r3,k,e,q3⟩=>?_) hm
 subst e
 cases r3
 exact wpAny_truthy_bool ⟨H3,I3,q3⟩
theorem Ww:(sizeLine:Nat)<2^63:=by rw[sizeLine_eq];decide
theorem ED:OpR X (binaryOp .Add) (λx y H Q=>∃ i j,x=.str i/\y=.str j/\i.length+j.length<=sizeLine/\Q (.str (i++j)) H):=by
 intro pins s σ H x y v u Q I rx ry h
 obtain⟨i,j,rfl,rfl,hz,q⟩:=h
 obtain⟨t,rfl⟩:=rx
 obtain⟨t',rfl⟩:=ry
 exact add_str (λt' tk=>⟨.str (i++j),H,I.tok _,⟨_,rfl⟩,q⟩) hz
theorem DB{x:V}(r:Vals [x] us):∃ u,us= [u]/\RelV x u:=by
 cases r with
 |cons r1 r2=>cases r2;exact⟨_,rfl,r1⟩
theorem DZ{x:V}(r:Vals [x,y] us):∃ u w',us= [u,w']/\RelV x u/\RelV y w':=by
 cases r with
 |cons r1 r2=>
  cases r2 with
  |cons r3 r4=>cases r4;exact⟨_,_,rfl,r1,r3⟩
theorem PH(hc:X.calm=true):Rg X (.builtin "max") (λxs H Q=>∃ i j,xs= [.int i,.int j]/\Q (.int (if j>i then j else i)) H):=by
 intro pins s σ H xs us Q I r h
 obtain⟨i,j,rfl,q⟩:=h
 obtain⟨u,w',rfl,⟨t,rfl⟩,⟨t',rfl⟩⟩:=DZ r
 refine max_two_ints (I.ok.hd hc) λh' tk k=>⟨_,H,I.kept k,?_,q⟩
 by_cases hj:j>i
 .rw[if_pos hj,if_pos hj];exact⟨_,rfl⟩
 .rw[if_neg hj,if_neg hj];exact⟨_,rfl⟩
theorem QH(hc:X.calm=true):Rg X (.builtin "min") (λxs H Q=>∃ i j,xs= [.int i,.int j]/\Q (.int (if j<i then j else i)) H):=by
 intro pins s σ H xs us Q I r h
 obtain⟨i,j,rfl,q⟩:=h
 obtain⟨u,w',rfl,⟨t,rfl⟩,⟨t',rfl⟩⟩:=DZ r
 refine min_two_ints (I.ok.hd hc) λh' tk k=>⟨_,H,I.kept k,?_,q⟩
 by_cases hj:j<i
 .rw[if_pos hj,if_pos hj];exact⟨_,rfl⟩
 .rw[if_neg hj,if_neg hj];exact⟨_,rfl⟩
def Ua0(K:Frag)(x:V)(H:Hp)(n:Nat):Prop:=
 match x with
 | .str y=>y.length<=sizeLine/\n=y.length
 | .byt y=>y.size<=sizeLine/\n=y.size
 | .ref p=>(∃ xs,SqL K H p xs/\n=xs.length)\/∃ xs,SqT K H p xs/\n=xs.length
 |_=>False
theorem UK:Rg X (.builtin "len") (λxs H Q=>∃ x n,xs= [x]/\Ua0 X.K x H n/\Q (.int n) H):=by
 intro pins s σ H xs us Q I r h
 obtain⟨x,n,rfl,e,q⟩:=h
 obtain⟨u,rfl,rx⟩:=DB r
 have hl:=Ww
 have hs:sizeLine=16777216:=sizeLine_eq
 cases x with
 |str y=>
  obtain⟨t,rfl⟩:=rx
  obtain⟨hy,e'⟩:y.length<=sizeLine/\n=y.length:=e
  subst e'
  exact len_str (by omega) ⟨.int _,H,I.tok _,⟨_,rfl⟩,q⟩
 |byt y=>
  obtain⟨t,rfl⟩:=rx
  obtain⟨hy,e'⟩:y.size<=sizeLine/\n=y.size:=e
  subst e'
  exact PySem.W.len_bytes (by omega) ⟨.int _,H,I.tok _,⟨_,rfl⟩,q⟩
 |ref p=>
  cases rx
  have e':(∃ xs,SqL X.K H p xs/\n=xs.length)\/∃ xs,SqT X.K H p xs/\n=xs.length:=e
  rcases e' with⟨xs,hx,e'⟩|⟨xs,hx,e'⟩
  .subst e'
   obtain⟨its,r',pl,hz⟩:=I.list hx
   have hlen:=r'.length
   exact Calls.call_len_list pl.isList (by simp only[size_toArray];omega) ⟨.int xs.length,H,I.tok _,⟨_,by simp only[size_toArray];rw[hlen]⟩,q⟩
  .subst e'
   obtain⟨its,r',pl,hz⟩:=I.tuple hx
   have hlen:=r'.length
   exact len_tuple pl (by simp only[size_toArray];omega) ⟨.int xs.length,H,I.tok _,⟨_,by simp only[size_toArray];rw[hlen]⟩,q⟩
 |_=>exact(show False from e).elim
structure ObjM(h:Heap)(x dx C:Addr)(mA:Str->Option Value):Prop where
 obj:h.get? x=some (instObj C dx)
 ns:h.Ns1 dx mA
 ne:dx≠x
variable{dx:Addr}{mA:Str->Option Value}
theorem Kv{h:Heap}(n:h.Ns1 dx mA):∃ od,h.get? dx=some od/\∀ name,lookIn name od=some (mA name):=by
 obtain⟨o,es,ep,ho,hd,hk,_,hm⟩:=n
 refine⟨o,ho,λname=>?_⟩
 have e:=hm name
 unfold nsFind findBy at e
 rw[<-Array.find?_toList]at e
 unfold lookIn
 rw[hd]
 dsimp only
 split
 .rename_i y q
  rw[q]at e
  exact congrArg some e
 .rename_i q
  rw[q]at e
  have a:es.toList.any (·.refKey)=false:=by
   rw[List.any_eq_false]
   intro y hy
   obtain⟨z,t,hkey⟩:=hk y (Array.mem_toList_iff.mp hy)
   simp[DictEntry.refKey,hkey]
  have a':¬ es.toList.any (·.refKey)=true:=by rw[a];exact Bool.false_ne_true
  rw[if_neg a']
  exact congrArg some e
theorem ObjM.look{h:Heap}{x C:Addr}(I:ObjM h x dx C mA):∃ od,PySem.W.InstAt h x (instObj C dx) C (some od)/\∀ name,lookIn name od=some (mA name):=
 let ⟨od,ho,hl⟩:=Kv I.ns
 ⟨od,⟨I.obj,rfl,rfl,ho⟩,hl⟩
variable{prog:Program}{name:Str}{kw:List (Str×Value)}
section
variable {x C f:Addr}{v:Value}
theorem DU{expr:Bool}(X:K.In s.heap)(I:ObjM s.heap x dx C mA)(hg:plainGet K C name=true)(hh:hasDictIn K C=true)(ha:findIn K (.ref C) name=some none)(hv:mA name=some v)(hv':PySem.W.handedIn v=true)(h:Q v {s with toks:=s.toks+1}):
  wpAny (model prog w) A (getAttr (.ref x) name expr) Q E s:=by
 obtain⟨od,J,hl⟩:=I.look
 exact PySem.W.get_value X J (PySem.W.plainGet_of hg).1 (PySem.W.findObj_own hh ha rfl (by rw[hl,hv])) hv' h
theorem JX{ns:List Str}{Q:Unit->Shared->Prop}(X:K.In s.heap)(I:ObjM s.heap x dx C mA)(hs:findIn K (.ref C) "__setattr__"=some (some (.builtin "object.__setattr__")))(hp:plainOver K C=true)(ht:takerIn K C name=some none)(hh:hasDictIn K C=true)(hw:PySem.Within mA ns)(hsz:ns.length<=sizeLine)(h:∀ h',ObjM h' x dx C (λy=>if y=name then some v else mA y)->SameBut dx s.heap h'->Q () {s with heap:=h',toks:=s.toks+2}):
  wpAny (model prog w) A (setAttr (.ref x) name v) Q E s:=by
 obtain⟨od,J,hl⟩:=I.look
 refine PySem.W.set_plain X J hs (PySem.W.osa_open (s:= {s with toks:=s.toks+1}) (r:=none) X J hp ht λb=>?_)
 obtain⟨cd,hc,hd'⟩:=PySem.W.any_some hh
 have hx:s.heap.get? x=some ⟨.ref C,some dx,.plain,#[]⟩:=I.obj
 refine wpAny_bind (wpAny_pure (wpAny_bind (wpAny_bind (wpAny_loadPart hx (wpAny_bind (PySem.W.Looks.here (s:= {s with toks:=s.toks+1}) (PySem.W.looks_clsIn X hc) ?_))))))
 rw[hd']
 refine wpAny_pure (a:=some dx) (wpAny_bind (wpAny_pure (wpAny_bind ?_)))
 refine wpAny_nsSet1 (s:= {s with toks:=s.toks+1}) I.ns λh' hn2 hs2=>?_
 obtain⟨oD,esD,epD,hoD,hdD,hcD⟩:=hn2.count (PySem.Within.cons name v hw)
 refine wpAny_bind (wpAny_lookBehind hoD (by rw[hdD];exact pastItsLine_dict (le_trans hcD (by rw[List.length_cons];omega))) ?_)
 exact wpAny_pure (h _ ⟨(hs2.2 _ (Ne.symm I.ne)).trans I.obj,hn2,I.ne⟩ hs2)
theorem XN{R:Result->Shared->Prop}{vs:List Value}(X:K.In s.heap)(hm:makesIn K C=true)(hi:findIn K (.ref C) "__init__"=some (some (.ref f)))(hf:typeIn K (.ref f)=some (.type "function"))(h:codeAny (model prog w) (A.under (.builtin "type.__call__" ⟨.ref C::vs,kw⟩)) (.call (.ref f) ⟨.ref (s.heap.objs.size+1)::vs,kw⟩) (PySem.W.InitBack (s.heap.objs.size+1) R)
   {s with heap:=(s.heap.push emptyDict).push (instObj C s.heap.objs.size)}):
  codeAny (model prog w) A (.call (.ref C) ⟨vs,kw⟩) R s:=by
 obtain⟨hh,g,d,t,os⟩:=s
 exact PySem.W.make_core (PySem.W.makes_of X hm) (PySem.W.looks_findIn X hi) (λself=>PySem.W.bind_fn X self hf) (.inl rfl) h
end
def Nk(f:Str)(v:V):List (Str×V)->List (Str×V)
 | []=> [(f,v)]
 |(g,x)::r=>if g=f then(g,v)::r else(g,x)::Nk f v r
theorem Dq(f g:Str)(v:V):∀ fs:List (Str×V),(Nk f v fs).lookup g=if g=f then some v else fs.lookup g
 | []=>by
  show List.lookup g [(f,v)]=_
  by_cases h:g=f
  .have hb:(g==f)=true:=beq_iff_eq.mpr h
   simp only[List.lookup,hb,if_pos h]
  .have hb:(g==f)=false:=beq_eq_false_iff_ne.mpr h
   simp only[List.lookup,hb,if_neg h]
 |(k,x)::r=>by
  have ih:=Dq f g v r
  rw[show Nk f v ((k,x)::r)=(if k=f then(k,v)::r else(k,x)::Nk f v r) from rfl]
  by_cases hk:k=f
  .rw[if_pos hk]
   by_cases h:g=k
   .have hb:(g==k)=true:=beq_iff_eq.mpr h
    simp only[List.lookup,hb,if_pos (h.trans hk)]
   .have hb:(g==k)=false:=beq_eq_false_iff_ne.mpr h
    simp only[List.lookup,hb,if_neg (λe:g=f=>h (e.trans hk.symm))]
  .rw[if_neg hk]
   by_cases h:g=k
   .have hb:(g==k)=true:=beq_iff_eq.mpr h
    simp only[List.lookup,hb,if_neg (λe:g=f=>hk (h.symm.trans e))]
   .have hb:(g==k)=false:=beq_eq_false_iff_ne.mpr h
    simp only[List.lookup,hb]
    exact ih
theorem Bp(f:Str)(v:V):∀ fs:List (Str×V),f∈(Nk f v fs).map (·.1)/\∀ g,g∈fs.map (·.1)->g∈(Nk f v fs).map (·.1)
 | []=>⟨by simp[Nk],λg h=>by simp at h⟩
 |(k,x)::r=>by
  obtain⟨i1,i2⟩:=Bp f v r
  rw[show Nk f v ((k,x)::r)=(if k=f then(k,v)::r else(k,x)::Nk f v r) from rfl]
  by_cases hk:k=f
  .rw[if_pos hk]
   subst hk
   exact⟨by simp,λg h=>by simpa using h⟩
  .rw[if_neg hk]
   refine⟨?_,λg h=>?_⟩
   .rw[map_cons]
    exact mem_cons_of_mem _ i1
   .rw[map_cons]at h ⊢
    rcases mem_cons.mp h with e|e
    .exact mem_cons.mpr (.inl e)
    .exact mem_cons_of_mem _ (i2 g e)
theorem Cq(f:Str)(v:V):∀ fs:List (Str×V),(Nk f v fs).length<=fs.length+1
 | []=>by simp[Nk]
 |(k,x)::r=>by
  have ih:=Cq f v r
  rw[show Nk f v ((k,x)::r)=(if k=f then(k,v)::r else(k,x)::Nk f v r) from rfl]
  by_cases hk:k=f
  .rw[if_pos hk,List.length_cons,List.length_cons];omega
  .rw[if_neg hk,List.length_cons,List.length_cons];omega
theorem RelO.some_of{v:V}{o:Option Value}(r:RelO (some v) o):∃ u,o=some u/\RelV v u:=by
 cases o with
 |none=>exact(show False from r).elim
 |some u=>exact⟨u,rfl,r⟩
theorem Cv{v:V}(r:RelV v u):PySem.W.handedIn u=true:=by
 cases v with
 |non=>cases (show u=Value.none from r);rfl
 |bl b=>cases (show u=Value.bool b from r);rfl
 |int i=>obtain⟨t,e⟩:=(show ∃ t,u=Value.int i t from r);cases e;rfl
 |str x=>obtain⟨t,e⟩:=(show ∃ t,u=Value.str x t from r);cases e;rfl
 |byt b=>obtain⟨t,e⟩:=(show ∃ t,u=Value.bytes b t from r);cases e;rfl
 |flt b=>obtain⟨t,e⟩:=(show ∃ t,u=Value.float b t from r);cases e;rfl
 |ref a=>cases (show u=Value.ref a from r);rfl
 |ty n=>cases (show u=Value.type n from r);rfl
variable{a:Addr}
section
variable {h:Heap}{C:Addr}{fs fs':List (Str×V)}
theorem OF(hok:HOk P w H h)(e:H a=some (.ins C dx fs)):∃ mA,ObjM h a dx C mA/\(∀ f,RelO (fs.lookup f) (mA f))/\PySem.Within mA (fs.map (·.1))/\fs.length<=1000/\H dx=some (.own a):=by
 obtain⟨d,z,ne,ob,mA,n,r,q⟩:=(show ObjOk P w H h a (.ins C dx fs) from hok a _ e)
 exact⟨mA,⟨ob,n,ne⟩,r,q,z,d⟩
end
structure Cls(K:Frag)(C:Addr):Prop where
 pg:plainGet K C Str.empty=true
 hd:hasDictIn K C=true
 po:plainOver K C=true
 sa:findIn K (.ref C) "__setattr__"=some (some (.builtin "object.__setattr__"))
theorem Cls.get{C:Addr}(c:Cls K C)(f:Str):plainGet K C f=true:=c.pg
def NoAttr(K:Frag)(C:Addr)(f:Str):Prop:=findIn K (.ref C) f=some none
variable{f:Str}
theorem NoAttr.taker{C:Addr}(n:NoAttr K C f):takerIn K C f=some none:=by
 unfold takerIn
 rw[show findIn K (.ref C) f=some none from n]
 rfl
structure Con(K:Frag)(C:Addr)(f:Str)(v:V)(u:Value):Prop where
 at_:findIn K (.ref C) f=some (some u)
 rel:RelV v u
 get:specialIn K u "__get__"=some none
 cp:PySem.W.copiedNames.contains f=false
structure Meth(K:Frag)(C:Addr)(m:Str)(f:Addr):Prop where
 at_:findIn K (.ref C) m=some (some (.ref f))
 fn:isFn K (.ref f)=true
 kp:keepIn K (.ref f)=true
variable{b:Bool}
section
variable {C:Addr}{fs:List (Str×V)}{v:V}
theorem GC(I:Inv X pins σ H s)(e:H a=some (.ins C dx fs))(c:Cls X.K C)(n:NoAttr X.K C f)(l:fs.lookup f=some v)(h:∀ u s',Inv X pins σ H s'->RelV v u->Q u s'):wpAny (model X.prog X.w) A (getAttr (.ref a) f b) Q E s:=by
 obtain⟨mA,O,r,_,_,_⟩:=OF I.hok e
 obtain⟨u,hu,ru⟩:=RelO.some_of (v:=v) (o:=mA f) (by rw[<-l];exact r f)
 exact DU I.kIn O (c.get f) c.hd n hu (Cv ru) (h u _ (I.tok _) ru)
theorem VD{Q:Unit->Shared->Prop}(I:Inv X pins σ H s)(e:H a=some (.ins C dx fs))(c:Cls X.K C)(n:NoAttr X.K C f)(hl:fs.length<1000)(ry:RelV y u)(h:∀ s',Inv X pins σ (Jb H a (.ins C dx (Nk f y fs))) s'->Q () s'):wpAny (model X.prog X.w) A (setAttr (.ref a) f u) Q E s:=by
 obtain⟨mA,O,r,wi,_,ho⟩:=OF I.hok e
 have hz:(fs.map (·.1)).length<=sizeLine:=by rw[length_map,sizeLine_eq];omega
 refine JX I.kIn O c.sa c.po n.taker c.hd wi hz λh' O' sb=>h _ ?_
 have hd:∃ o,h'.get? dx=some o:=let ⟨o,_,_,e',_⟩:=O'.ns;⟨o,e'⟩
 refine I.write (x:=a) (e:=dx) (by rw[e];exact True.intro) (.inr ho) (λb q hb z=>(sb.2 b hb).trans z) hd ?_
 refine⟨by rw[Ha O.ne];exact ho,?_,O.ne,O'.obj,_,O'.ns,λg=>?_,λg hg=>?_⟩
 .have:=Cq f y fs;omega
 .show RelO ((Nk f y fs).lookup g) (if g=f then some u else mA g)
  rw[Dq]
  by_cases q:g=f
  .rw[if_pos q,if_pos q];exact ry
  .rw[if_neg q,if_neg q];exact r g
 .by_cases q:g=f
  .rw[q];exact(Bp f y fs).1
  .refine(Bp f y fs).2 g (wi g λz=>hg ?_)
   show(if g=f then some u else mA g)=none
   rw[if_neg q];exact z
theorem Inv.made(I:Inv X pins σ H s):Inv X pins σ (Jb (Jb H s.heap.objs.size (.own (s.heap.objs.size+1))) (s.heap.objs.size+1) (.ins C s.heap.objs.size []))
  {s with heap:=(s.heap.push emptyDict).push (instObj C s.heap.objs.size)}:=by
 have e1:(s.heap.push emptyDict).get? s.heap.objs.size=some emptyDict:=get?_push_size s.heap rfl
 have e2:((s.heap.push emptyDict).push (instObj C s.heap.objs.size)).get? (s.heap.objs.size+1)=some (instObj C s.heap.objs.size):=by
  have:=get?_push_size (s.heap.push emptyDict) (o:=instObj C s.heap.objs.size) rfl
  rwa [size_push]at this
 have e3:(s.heap.push emptyDict).Ns s.heap.objs.size (λ_=>none):=⟨emptyDict,#[],_,e1,rfl,(λe he=>absurd he (by simp)),λ_=>rfl⟩
 have I1:=I.laid (a:=s.heap.objs.size) (o:=.own (s.heap.objs.size+1)) (h':=s.heap.push emptyDict) (t':=s.toks) (λb u q=>get?_push_of_some _ q) (le_refl _) ⟨_,e1⟩
 refine I1.laid (a:=s.heap.objs.size+1) (o:=.ins C s.heap.objs.size []) (t':=s.toks) (λb u q=>get?_push_of_some _ q) (Nat.le_of_eq (size_push _ _)) ?_
 have ne:s.heap.objs.size≠s.heap.objs.size+1:=ne_of_lt (lt_succ_self _)
 refine⟨by rw[Ha ne,Na],zero_le _,ne,e2,λ_=>none,(Heap.Ns1.of_empty e3).at λo q=>get?_push_of_some _ q,λ_=>True.intro,λy hy=>absurd rfl hy⟩
theorem OE{env:Env}{f:Str}{s:Shared}(hb:attributeBase e f env (eval e env)=eval e env)(h:wpAny (model prog w) A (eval e env) (λo s₁=>wpAny (model prog w) A (getAttr o f true) Q E s₁) E s):wpAny (model prog w) A (eval (.Attribute e f pos) env) Q E s:=
 Attribute_any_ h (by rw[arm_eval_Attribute,hb])
end
def Vb0(K:Frag)(ta:TE)(f:Str):TE:=λσ H Q=>ta σ H λx H1=>∃ a C dx fs v,x=.ref a/\H1 a=some (.ins C dx fs)/\Cls K C/\NoAttr K C f/\fs.lookup f=some v/\Q v H1
def Mb0(K:Frag)(ta tv:TE)(f:Str):TS:=λD σ H=>tv σ H λy H1=>ta σ H1 λx H2=>∃ a C dx fs,x=.ref a/\H2 a=some (.ins C dx fs)/\Cls K C/\NoAttr K C f/\fs.length<1000/\
 D.nx σ (Jb H2 a (.ins C dx (Nk f y fs)))
variable{o:Expr}
section
variable {value:Expr}{tpos:Pos}{tv:TE}
theorem D4(he:PE X e ta)(hb:attributeBase e f X.env (eval e X.env)=eval e X.env):PE X (.Attribute e f pos) (Vb0 X.K ta f):=by
 intro pins s σ H Q I h
 refine OE hb (thn (he pins s σ H _ I h) λu s1 ⟨x,H1,I1,rx,a,C,dx,fs,v,ex,ea,c,n,l,q⟩=>?_)
 subst ex
 obtain rfl:u=Value.ref a:=rx
 exact GC I1 ea c n l λu' s2 I2 ru=>⟨v,H1,I2,ru,q⟩
theorem R4(ha:PE X o ta)(hv:PE X value tv)(hs:swapsWith value (some (.Attribute o f pos')) pos.line X.env=pure false):PS X (.Assign [.Attribute o f pos'] value pos) (Mb0 X.K ta tv f):=by
 intro pins s σ H D I h
 refine plainObj_wpAny_Assign_Attribute (thn (hv pins s σ H _ I h) λu s1 ⟨y,H1,I1,ry,q⟩=>thn (ha pins s1 σ H1 _ I1 q) λov s2 ⟨x,H2,I2,rx,a,C,dx,fs,ex,ea,c,n,l,q2⟩=>?_) hs
 subst ex
 obtain rfl:ov=Value.ref a:=rx
 exact VD I2 ea c n l ry λs3 I3=>⟨σ,_,I3,q2⟩
end
section
variable {c:Value}
inductive TyOf(K:Frag)(H:Hp):V->Value->Prop where
 |non:TyOf K H .non (.type "NoneType")
 |bl (x:Bool):TyOf K H (.bl x) (.type "bool")
 |int (i:Int):TyOf K H (.int i) (.type "int")
 |str (x:Str):TyOf K H (.str x) (.type "str")
 |flt (x:UInt64):TyOf K H (.flt x) (.type "float")
 |lst {a:Addr} {xs:List V} (e:H a=some (.lst xs)):TyOf K H (.ref a) (.type "list")
 |frz {a:Addr} {o:Obj} {xs:List V} (e:H a=some (.frz o (.lst xs))):TyOf K H (.ref a) (.type "list")
 |tup {a:Addr} {xs:List V} (e:H a=some (.tup xs)):TyOf K H (.ref a) (.type "tuple")
 |dK {a:Addr} {kvs:List (Cb×V)} (e:H a=some (.dK kvs)):TyOf K H (.ref a) (.type "dict")
 |dT {a:Addr} {kvs:List (List Cb×V)} (e:H a=some (.dT kvs)):TyOf K H (.ref a) (.type "dict")
 |ins {a C dx:Addr} {fs:List (Str×V)} (e:H a=some (.ins C dx fs)) (cl:Cls K C) (ha:findIn K (.ref C) "__class__"=some (some (.builtin "object.__class__")))
   (hn:specialIn K (.builtin "object.__class__") "__get__"=some (some (.builtin "getset_descriptor.__get__"))) (htk:PySem.W.takesIn K (.builtin "object.__class__")=some true)
   (hm:mroIn K C (.type "object")=some true):TyOf K H (.ref a) (.ref C)
end
structure Room(k:Nat)(A:Around):Prop where
 hd:A.handled=none
 dp:A.depth+3*k+5<recursionLimit
 un:A.units+16*k+200<cLine
 gd:A.guards=some []
theorem Room.mono(r:Room k A)(h:j<=k):Room j A:=⟨r.hd,by have:=r.dp;omega,by have:=r.un;omega,r.gd⟩
theorem Room.deeper(r:Room (k+1) A)(env:Env):Room k (A.deeper env):=
 ⟨r.hd,by have:=r.dp;show A.depth+1+3*k+5<_;omega,by have:=r.un;show A.units+3+16*k+200<_;omega,r.gd⟩
theorem Bs{C:Addr}:(A.under (.builtin "type.__call__" ⟨.ref C::us,kw⟩)).depth=A.depth+1:=by
 first|rfl|simp[Around.under,Code.weight,Code.isCreation,Code.isGuard,Code.isCaller,Code.frames,Code.isFrame,guardIds]
theorem Cs{C:Addr}:(A.under (.builtin "type.__call__" ⟨.ref C::us,kw⟩)).units=A.units+1:=by
 first|rfl|simp[Around.under,Code.cUnits,Code.frames,Code.isFrame]
theorem Room.make(r:Room (k+1) A)(C:Addr)(us:List Value)(kw:List (Str×Value)):Room k (A.under (.builtin "type.__call__" ⟨.ref C::us,kw⟩)):=
 ⟨r.hd,by have:=r.dp;rw[Bs];omega,by have:=r.un;rw[Cs];omega,by first|exact r.gd|(simpa [Around.under,Code.guards,pushGuards] using r.gd)⟩
theorem Room.depth(r:Room k A):A.depth<recursionLimit:=by have:=r.dp;omega
theorem Room.units(r:Room k A):A.units+64<cLine:=by have:=r.un;omega
def Zb0:TA:=λ_ H Q=>Q [] H
def Z8(ta:TE)(tr:TA):TA:=λσ H Q=>ta σ H λx H1=>tr σ H1 λxs H2=>Q (x::xs) H2
section
variable {t:TA}
theorem Vf:PA X [] Zb0:=λ_ _ _ _ H Q I h=>Calls.spliced_nil ⟨[],H,I,.nil,h⟩
theorem Ic(ha:PE X e te)(hr:PA X es t)(hs:starEach (e::es) X.env=(false,eval e X.env)::starEach es X.env:=by rfl):PA X (e::es) (Z8 te t):=by
 intro pos pins s σ H Q I h
 rw[hs]
 show wpAny _ _ (spliced ((false,eval e X.env)::backTo pos (starEach es X.env))) _ _ s
 refine Calls.spliced_cons (thn (ha pins s σ H _ I h) λu s1 ⟨x,H1,I1,r1,q1⟩=>?_)
 exact thn (hr pos pins s1 σ H1 _ I1 q1) λus s2 ⟨xs,H2,I2,r2,q2⟩=>⟨x::xs,H2,I2,.cons r1 r2,q2⟩
def Dc0(t:TA):TE:=λσ H Q=>t σ H λxs H1=>xs.length<=sizeLine/\∀ p,H1 p=none->Q (.ref p) (Jb H1 p (.tup xs))
def Yb0(t:TA):TE:=λσ H Q=>t σ H λxs H1=>xs.length<=sizeLine/\∀ p,H1 p=none->Q (.ref p) (Jb H1 p (.lst xs))
theorem IP{x1}(h:PA X es t):PE X (.Tuple es x1 pos) (Dc0 t):=by
 intro pins s σ H Q I hq
 refine wpAny_Tuple_spliced (thn (h pos pins s σ H _ I hq) λus s1 ⟨xs,H1,I1,r,z,q⟩=>⟨by rw[<-r.length];exact z,?_⟩)
 have hf:H1 s1.heap.objs.size=none:=I1.hok.fresh (le_refl _)
 refine⟨.ref s1.heap.objs.size,Jb H1 s1.heap.objs.size (.tup xs),I1.laid (t':=s1.toks) (λb u e=>get?_push_of_some _ e) (le_refl _) ?_,rfl,q _ hf⟩
 exact⟨z,us,r,⟨_,get?_push_size _ rfl,rfl,_,rfl⟩⟩
theorem F4(h:PA X es t):PE X (.List es pos) (Yb0 t):=by
 intro pins s σ H Q I hq
 refine wpAny_List_spliced (thn (h pos pins s σ H _ I hq) λus s1 ⟨xs,H1,I1,r,z,q⟩=>⟨by rw[<-r.length];exact z,?_⟩)
 have hf:H1 s1.heap.objs.size=none:=I1.hok.fresh (le_refl _)
 refine⟨.ref s1.heap.objs.size,Jb H1 s1.heap.objs.size (.lst xs),I1.laid (t':=s1.toks) (λb u e=>get?_push_of_some _ e) (le_refl _) ?_,rfl,q _ hf⟩
 exact⟨z,us,0,r,get?_push_size _ rfl⟩
end
abbrev Sp:=List V->Hp->VK->XK->Prop
abbrev Zv:=List Env->Hp->Shared->XK->Value->Shared->Prop
structure Env0(P:Program)(w:World)(K:Frag)(mg:Str->Option Value)(base:Heap)(A:Around)(outer:List Env)(s:Shared)(H:Hp):Prop where
 frames:A.frames=some outer
 mod:Mod K mg base
 bs:∀ b o,base.get? b=some o->s.heap.get? b=some o/\H b=none
 bsz:base.objs.size<=s.heap.objs.size
 funs:s.heap.FunFrames base outer
 frf:∀ b∈He outer,H b=none
 hok:HOk P w H s.heap
 bare:AllBare s.gens
def CE(outer:List Env)(P:Program)(w:World)(H:Hp)(s:Shared)(Q:VK)(u:Value)(s':Shared):Prop:=
 ∃ v H',s'.os=s.os/\AllBare s'.gens/\Un (He outer) [] H H' s.heap s'.heap/\HOk P w H' s'.heap/\RelV v u/\Q v H'
def CR(CX:Zv)(outer:List Env)(P:Program)(w:World)(H:Hp)(s:Shared)(Q:VK)(E:XK)(r:Result)(s':Shared):Prop:=
 match r with
 | .ok (.ret u)=>CE outer P w H s Q u s'
 | .ok _=>False
 | .error e=>CX outer H s E e s'
structure FnOk(P:Program)(w:World)(K:Frag)(mg:Str->Option Value)(base:Heap)(CX:Zv)(k:Nat)(f:Addr)(fd:FuncData)(ps:List Str)(sp:Sp):Prop where
 len:∀ vs H Q E,sp vs H Q E->vs.length=ps.length
 run:∀ (A:Around) (outer:List Env) (s:Shared) (H:Hp) (args:Args) (us:List Value) (vs:List V) (Q:VK) (E:XK),Room k A->Env0 P w K mg base A outer s H->BindsTo s fd args (ps.zip us)->Vals vs us->sp vs H Q E->
  codeAny (model P w) A (.call (.ref f) args) (CR CX outer P w H s Q E) s
variable{f:Addr}{mg:Str->Option Value}{base:Heap}{CX:Zv}{fd:FuncData}{ps:List Str}{sp:Sp}
theorem FnOk.mono(F:FnOk P w K mg base CX j f fd ps sp)(h:j<=k):
  FnOk P w K mg base CX k f fd ps sp:=⟨F.len,λA outer s H args us vs Q E hr=>F.run A outer s H args us vs Q E (hr.mono h)⟩
theorem FnOk.imp{sp':Sp}(F:FnOk P w K mg base CX k f fd ps sp)(h:∀ vs H Q E,sp' vs H Q E->sp vs H Q E):FnOk P w K mg base CX k f fd ps sp':=
 ⟨λvs H Q E q=>F.len vs H Q E (h _ _ _ _ q),λA outer s H args us vs Q E hr he hb hv hs=>F.run A outer s H args us vs Q E hr he hb hv (h _ _ _ _ hs)⟩
variable{outer:List Env}
theorem Env0.make(e:Env0 P w K mg base A outer s H)(C:Addr)(us:List Value)(kw:List (Str×Value)):
  Env0 P w K mg base (A.under (.builtin "type.__call__" ⟨.ref C::us,kw⟩)) outer s H:=⟨by first|exact e.frames|(simpa [Around.under,Code.envs,Code.isFrame,pushEnvs] using e.frames),e.mod,e.bs,e.bsz,e.funs,e.frf,e.hok,e.bare⟩
variable{Q:VK}
theorem Inv.env0(I:Inv X pins σ H s):Env0 X.prog X.w X.K X.mg X.base X.A X.stack s H:=
 ⟨I.ok.frames,I.ok.mod,I.bs,le_trans I.ok.bsz I.sz,I.stack,I.stkFree,I.hok,I.bare⟩
theorem Inv.after(I:Inv X pins σ H s)(h:CE X.stack X.prog X.w H s Q u s'):EP X pins σ Q u s':=by
 obtain⟨v,H',os,bare,un,hok,r,q⟩:=h
 obtain⟨hh,g,d,t,os'⟩:=s'
 obtain rfl:os'=s.os:=os
 exact⟨v,H',I.call (h':=hh) (g':=g) (d':=d) (t':=t) (ch:= []) un hok bare (λb z=>absurd z (by simp)),r,q⟩
def Y8(sp:Sp)(dvs:List V)(E:XK)(t:TA):TE:=λσ H Q=>t σ H λvs H1=>sp (vs++dvs) H1 Q E
def D9(C:Addr)(sp:Sp)(dvs:List V)(E:XK)(t:TA):TE:=λσ H Q=>t σ H λvs H1=>∀ x dx,H1 x=none->H1 dx=none->dx≠x->
 sp (.ref x::(vs++dvs)) (Jb (Jb H1 dx (.own x)) x (.ins C dx [])) (λv H2=>v=.non/\Q (.ref x) H2) E
def Binds(K:Frag)(fd:FuncData)(ps:List Str)(ds:List Value):Prop:=
 ∀ (s:Shared) (us:List Value),K.In s.heap->(us++ds).length=ps.length->BindsTo s fd ⟨us,[]⟩ (ps.zip (us++ds))
theorem Binds.all(h:∀ us:List Value,us.length=ps.length->bindArgs fd ⟨us,[]⟩=pure (ps.zip us)):Binds K fd ps []:=λs us _ hl=>by
 rw[append_nil]at hl ⊢
 exact .of_eq (h us hl)
def Xm(CX:Zv)(X:Cx)(E:XK):Prop:=∀ (pins:List (Addr×Obj)) (σ:St) (H:Hp) (s:Shared) (e:Value) (s':Shared),Inv X pins σ H s->CX X.stack H s E e s'->X.xe e s'
variable{E:XK}{vs:List V}{m:Str}{apos:Pos}
section
variable {C:Addr}{dvs:List V}{ds:List Value}{p:Pos}{t:TA}
theorem G5(F:FnOk X.prog X.w X.K X.mg X.base CX k f fd ps sp)(hr:Room k X.A)(hb:Binds X.K fd ps ds)(hd:Vals dvs ds)(hx:Xm CX X E)(I:Inv X pins σ H s)(r:Vals vs us)(h:sp (vs++dvs) H Q E):wpAny (model X.prog X.w) X.A (call (.ref f) us) (EP X pins σ Q) X.xe s:=by
 have r2:Vals (vs++dvs) (us++ds):=r.append hd
 have hl:(us++ds).length=ps.length:=by rw[<-r2.length];exact F.len _ _ _ _ h
 refine wpAny_call (codeAny_mono (F.run X.A X.stack s H ⟨us,[]⟩ (us++ds) (vs++dvs) Q E hr I.env0 (hb s us I.kIn hl) r2 h) λr s' hq=>?_)
 cases r with
 |error e=>exact hx pins σ H s e s' I hq
 |ok fl=>
  cases fl with
  |ret u=>exact I.after hq
  |next=>exact False.elim hq
  |brk=>exact False.elim hq
  |cont=>exact False.elim hq
theorem Co(F:FnOk X.prog X.w X.K X.mg X.base CX k f fd ps sp)(hr:Room k X.A)(hg:Gl X x)(hm:X.mg x=some (.ref f))(hk:keepIn X.K (.ref f)=true)(hb:Binds X.K fd ps ds)(hd:Vals dvs ds)(hx:Xm CX X E)(ha:PA X (e::es) t)(hdb:(x==("__debug__":Str))=false:=by decide)(he:starEach (e::es) X.env=(false,eval e X.env)::starEach es X.env:=by rfl)(hpl:(backTo pos (starEach es X.env)).any (·.1)=false:=by rfl):
  PE X (.Call (.Name x p) (e::es) [] pos) (Y8 sp dvs E t):=by
 intro pins s σ H Q I h
 refine wpAny_Call_Name_kw (Xj I hg hm ?_ hdb)
 refine callWith_K (h₀:=X.base) I.ok.mod.kin hk (thn (ha pos pins s σ H _ I h) λus s1 ⟨vs,H1,I1,r,q⟩=>⟨I1.kIn,?_⟩) he hpl
 exact G5 F hr hb hd hx I1 r q
structure Mk(K:Frag)(C f:Addr):Prop where
 makes:makesIn K C=true
 init:findIn K (.ref C) "__init__"=some (some (.ref f))
 fn:isFn K (.ref f)=true
 kp:keepIn K (.ref C)=true
theorem VP(M:Mk X.K C f)(F:FnOk X.prog X.w X.K X.mg X.base CX k f fd ps sp)(hr:Room (k+1) X.A)(hb:Binds X.K fd ps ds)(hd:Vals dvs ds)(hx:Xm CX X E)(I:Inv X pins σ H s)(r:Vals vs us)(h:∀ x dx,H x=none->H dx=none->dx≠x->sp (.ref x::(vs++dvs)) (Jb (Jb H dx (.own x)) x (.ins C dx [])) (λv H2=>v=.non/\Q (.ref x) H2) E):
  wpAny (model X.prog X.w) X.A (call (.ref C) us) (EP X pins σ Q) X.xe s:=by
 have hq:=h (s.heap.objs.size+1) s.heap.objs.size (I.hok.fresh (le_succ _)) (I.hok.fresh (le_refl _)) (ne_of_lt (lt_succ_self _))
 have I2:=Inv.made (C:=C) I
 have r2:Vals (V.ref (s.heap.objs.size+1)::(vs++dvs)) (Value.ref (s.heap.objs.size+1)::(us++ds)):=.cons rfl (r.append hd)
 have hl:(Value.ref (s.heap.objs.size+1)::us++ds).length=ps.length:=by
  have e:=r2.length
  rw[F.len _ _ _ _ hq]at e
  exact e.symm
 refine wpAny_call (XN (f:=f) I.kIn M.makes M.init (beq_iff_eq.mp M.fn) (codeAny_mono (F.run _ X.stack _ _ ⟨Value.ref (s.heap.objs.size+1)::us,[]⟩ (Value.ref (s.heap.objs.size+1)::(us++ds)) _ _ E (hr.make C us [])
  (I2.env0.make C us []) (hb _ (Value.ref (s.heap.objs.size+1)::us) I2.kIn hl) r2 hq) λr s' hq'=>?_))
 cases r with
 |error e=>exact hx pins σ _ _ e s' I2 hq'
 |ok fl=>
  cases fl with
  |ret u=>
   obtain⟨v,H',I3,rv,ev,q3⟩:=I2.after hq'
   subst ev
   exact⟨rv,⟨V.ref (s.heap.objs.size+1),H',I3,rfl,q3⟩⟩
  |next=>exact False.elim hq'
  |brk=>exact False.elim hq'
  |cont=>exact False.elim hq'
theorem IW(M:Mk X.K C f)(F:FnOk X.prog X.w X.K X.mg X.base CX k f fd ps sp)(hr:Room (k+1) X.A)(hg:Gl X x)(hm:X.mg x=some (.ref C))(hb:Binds X.K fd ps ds)(hd:Vals dvs ds)(hx:Xm CX X E)(ha:PA X (e::es) t)(hdb:(x==("__debug__":Str))=false:=by decide)(he:starEach (e::es) X.env=(false,eval e X.env)::starEach es X.env:=by rfl)(hpl:(backTo pos (starEach es X.env)).any (·.1)=false:=by rfl):
  PE X (.Call (.Name x p) (e::es) [] pos) (D9 C sp dvs E t):=by
 intro pins s σ H Q I h
 refine wpAny_Call_Name_kw (Xj I hg hm ?_ hdb)
 refine callWith_K (h₀:=X.base) I.ok.mod.kin M.kp (thn (ha pos pins s σ H _ I h) λus s1 ⟨vs,H1,I1,r,q⟩=>⟨I1.kIn,?_⟩) he hpl
 exact VP M F hr hb hd hx I1 r q
end
section
variable {C:Addr}{ks:List Str}{p kpos:Pos}{kws:List Keyword}{t tk:TA}{nm:Option Str}
structure KBinds(K:Frag)(fd:FuncData)(ps ks:List Str)(g:List Value->List Value->List Value)(gV:List V->List V->List V):Prop where
 to:∀ (s:Shared) (us ws:List Value),K.In s.heap->(g us ws).length=ps.length->BindsTo s fd ⟨us,ks.zip ws⟩ (ps.zip (g us ws))
 rel:∀ {vs:List V} {us:List Value} {zs:List V} {ws:List Value},Vals vs us->Vals zs ws->Vals (gV vs zs) (g us ws)
variable {g:List Value->List Value->List Value}{gV:List V->List V->List V}
end
structure FnScope(N P:List Str)(sc:Scope):Prop where
 kind:sc.kind=.function
 co:sc.isCoroutine=false
 gen:sc.isGenerator=false
 nd:N.Nodup
 pre:N.take P.length=P
 par:∀ x∈P,sc.names.lookup x=some .local\/sc.names.lookup x=some .cell
 nofree:∀ y∈sc.names,y.2≠ .free
theorem Qu{kindOf:Str->Option NameKind}{x:Str}:∀ {binds:List (Str×Value)} {m:Str->Option Value},(∀ v,(x,v)∉binds)->bindL kindOf binds m x=m x
 | [],_,_=>rfl
 |(n,v)::r,m,h=>by
  unfold bindL
  rw[Qu λw hw=>h w (mem_cons_of_mem _ hw)]
  split
  .have:x≠n:=by rintro rfl;exact h v mem_cons_self
   simp[this]
  .rfl
theorem Ou{kindOf:Str->Option NameKind}{x:Str}:∀ {binds:List (Str×Value)} {m:Str->Option Value},(∀ v,(x,v)∉binds)->bindC kindOf binds m x=m x
 | [],_,_=>rfl
 |(n,v)::r,m,h=>by
  unfold bindC
  rw[Ou λw hw=>h w (mem_cons_of_mem _ hw)]
  split
  .rfl
  .have:x≠n:=by rintro rfl;exact h v mem_cons_self
   simp[this]
theorem Pu{kindOf:Str->Option NameKind}{x:Str}{v:Value}:∀ {P:List Str} {vs:List Value} {i:Nat} {m:Str->Option Value},P.Nodup->P[i]? =some x->vs[i]? =some v->kindOf x=some .local->
  bindL kindOf (P.zip vs) m x=some v
 | [],_,_,_,_,h,_,_=>by simp at h
 |_::_,[],_,_,_,_,h,_=>by simp at h
 |p::P,w::vs,0,m,nd,h1,h2,hk=>by
  simp at h1 h2;subst h1;subst h2
  show bindL kindOf ((p,w)::P.zip vs) m p=_
  unfold bindL
  rw[Qu λv hv=>(nodup_cons.mp nd).1 (List.of_mem_zip hv).1,if_pos hk]
  simp
 |p::P,w::vs,i+1,m,nd,h1,h2,hk=>by
  show bindL kindOf ((p,w)::P.zip vs) m x=_
  unfold bindL
  exact Pu (i:=i) (nodup_cons.mp nd).2 (by simpa using h1) (by simpa using h2) hk
theorem Nu{kindOf:Str->Option NameKind}{x:Str}{v:Value}:∀ {P:List Str} {vs:List Value} {i:Nat} {m:Str->Option Value},P.Nodup->P[i]? =some x->vs[i]? =some v->kindOf x≠some .local->
  bindC kindOf (P.zip vs) m x=some v
 | [],_,_,_,_,h,_,_=>by simp at h
 |_::_,[],_,_,_,_,h,_=>by simp at h
 |p::P,w::vs,0,m,nd,h1,h2,hk=>by
  simp at h1 h2;subst h1;subst h2
  show bindC kindOf ((p,w)::P.zip vs) m p=_
  unfold bindC
  rw[Ou λv hv=>(nodup_cons.mp nd).1 (List.of_mem_zip hv).1,if_neg hk]
  simp
 |p::P,w::vs,i+1,m,nd,h1,h2,hk=>by
  show bindC kindOf ((p,w)::P.zip vs) m x=_
  unfold bindC
  exact Nu (i:=i) (nodup_cons.mp nd).2 (by simpa using h1) (by simpa using h2) hk
def start(N:List Str)(vs:List V):St:=vs.map some++replicate (N.length-vs.length) none
def Kk(CX:Zv)(P:Program)(w:World)(K:Frag)(mg:Str->Option Value)(base:Heap)(N:List Str)(qual:Str)(scope:Scope)(f:Addr)(cd:Value)(A:Around)(outer:List Env)(s:Shared)(H:Hp)(E:XK):Cx where
 prog:=P
 w:=w
 K:=K
 mg:=mg
 base:=base
 A:=A.deeper (envOfC qual scope s.heap.objs.size f cd)
 N:=N
 s₀:=s
 H₀:=H
 env:=envOfC qual scope s.heap.objs.size f cd
 outer:=outer
 stack:=envOfC qual scope s.heap.objs.size f cd::outer
 ex:= []
 calm:=true
 fn:=λ_=>true
 pn:= []
 xe:=λe s'=>wpAny (model P w) (A.deeper (envOfC qual scope s.heap.objs.size f cd)) (leaving (envOfC qual scope s.heap.objs.size f cd) e) (λ_ s''=>CX outer H s E e s'') (λe' s''=>CX outer H s E e' s'') s'
theorem Oy{sc:Scope}(h:sc.names.lookup x=some .cell):∃ c,(cellsFrom n sc.names []).lookup x=some c:=by
 have q:=cellsFrom_some sc.names n [] (.inl h)
 exact isSome_iff_exists.mp q
variable{qual:Str}{scope:Scope}
theorem Dv{N:List Str}{cd:Value}{s1:Shared}(S:FnScope N ps scope)(hd:A.handled=none)(e0:Env0 P w K mg base A outer s H)(hl:vs.length=ps.length)(r:Vals vs us)(x:InCallC s s.heap.objs.size (bindL (envOfC qual scope s.heap.objs.size f cd).kindOf (ps.zip us) λ_=>none) (cellsFrom (s.heap.objs.size+1) scope.names []) (bindC (envOfC qual scope s.heap.objs.size f cd).kindOf (ps.zip us) λ_=>none) s1):
  Inv (Kk CX P w K mg base N qual scope f cd A outer s H E) [] (start N vs) H s1:=by
 have hpl:ps.length<=N.length:=by have:=congrArg List.length S.pre;rw[length_take]at this;omega
 obtain⟨h1,tk,rfl,hk⟩:=x.done
 have noA:∀ b:Addr,b∉(Kk CX P w K mg base N qual scope f cd A outer s H E).ex:=λb z=>absurd (show b∈([]:List Addr) from z) (by simp)
 refine⟨⟨e0.mod,S.kind,rfl,rfl,le_refl _,λy z c h1 h2=>?_,λy hy=>?_,λy c _ h=>?_,λ_=>hd,Around.frames_deeper e0.frames,.inr ⟨rfl,rfl⟩,λb z=>absurd z (noA b),e0.bs,e0.bsz,λb _ _=>noA b,λb z=>absurd z (noA b),e0.funs,e0.frf⟩,
  rfl,e0.bare,Un.kept hk,⟨_,x.toInCall.ns,λi y v h1 h2 h3=>?_⟩,λy c h=>⟨_,x.cell y c h⟩,e0.hok.fresh (le_refl _),λy c h=>?_,λp hp=>absurd (show p∈([]:List (Addr×Obj)) from hp) (by simp),e0.hok.kept hk,?_⟩
 .exact name_of_addr x.apart (PySem.mem_of_lookup h1) (PySem.mem_of_lookup h2)
 .have hy:scope.names.lookup y=some .cell\/scope.names.lookup y=some .free:=hy
  rcases hy with hy|hy
  .exact Oy hy
  .exact absurd rfl (S.nofree _ (PySem.mem_of_lookup hy))
 .exact le_of_lt (x.above y c (PySem.mem_of_lookup h))
 .have hi:i<vs.length:=by
   unfold start at h2
   by_cases hi:i<vs.length
   .exact hi
   .rw[getElem?_append_right (by simpa using hi)]at h2
    rw[List.getElem?_replicate]at h2
    split at h2<;>cases h2
  have ha:vs[i]? =some v:=by
   unfold start at h2
   rw[getElem?_append_left (by simpa using hi),getElem?_map]at h2
   cases e:vs[i]? with
   |none=>rw[e]at h2;cases h2
   |some a=>rw[e]at h2;cases h2;rfl
  obtain⟨u,hu,rv⟩:=r.get ha
  have hp:ps[i]? =some y:=by
   rw[<-S.pre,List.getElem?_take_of_lt (by omega)];exact h1
  have ndP:ps.Nodup:=by rw[<-S.pre];exact S.nd.sublist (List.take_sublist _ _)
  refine⟨u,rv,?_⟩
  rcases S.par y (mem_of_getElem? hp) with k|k
  .exact .inl ⟨k,Pu ndP hp hu k⟩
  .obtain⟨c,e⟩:=Oy (n:=s.heap.objs.size+1) k
   refine .inr ⟨.inl k,c,e,?_⟩
   have q:=x.cell y c e
   rw[Nu ndP hp hu (by show scope.names.lookup y≠_;rw[k];decide)]at q
   exact q
 .exact e0.hok.fresh (le_of_lt (x.above y c (PySem.mem_of_lookup h)))
 .unfold start
  show _=N.length
  rw[length_append,length_map,length_replicate]
  omega
theorem CM{params:Arguments}{dV kV doc pm cdv ct oc:Value}{an od:Option Addr}{osl:Array (Option Value)}{N:List Str}(lk:K.lookup f=some ⟨oc,od,.func (fnOf name qual params body scope dV kV doc pm an cdv ct),osl⟩)(hcd:codeIn K cdv qual=true)(S:FnScope N ps scope)(len:∀ vs H Q E,sp vs H Q E->vs.length=ps.length)(hbody:∀ (A:Around) (outer:List Env) (s:Shared) (H:Hp) (vs:List V) (Q:VK) (E:XK),Room k (A.deeper (envOfC qual scope s.heap.objs.size f cdv))->sp vs H Q E->
   ∃ t,PSs (Kk CX P w K mg base N qual scope f cdv A outer s H E) body t/\t {nx:=λ_ H'=>Q .non H',rt:=Q} (start N vs) H):
  FnOk P w K mg base CX (k+1) f (fnOf name qual params body scope dV kV doc pm an cdv ct) ps sp:=by
 refine⟨len,λA outer s H args us vs Q E hr e0 hb r hsp=>?_⟩
 have hl:=len _ _ _ _ hsp
 have KX:K.In s.heap:=e0.mod.kin.keeps λb o e=>(e0.bs b o e).1
 have lim:s.heap.NoLimit:=e0.mod.nolimit.keeps λb o e=>(e0.bs b o e).1
 have hkind:∀ y∈ps.zip us,scope.names.lookup y.1=some .local\/(scope.names.lookup y.1=some .cell/\((cellsFrom (s.heap.objs.size+1) scope.names []).lookup y.1).isSome=true):=λ⟨n,v⟩ hy=>by
  rcases S.par n (List.of_mem_zip hy).1 with q|q
  .exact .inl q
  .exact .inr ⟨q,cellsFrom_some _ _ _ (.inl q)⟩
 refine codeAny_call_function hr.depth (KX _ _ lk) rfl S.co S.gen rfl (PySem.W.codeRec_of KX hcd) (hb _ _ _ _ ?_)
 refine wpAny_newFunctionEnv_cells S.kind hkind λenv he s1 x=>?_
 subst he
 refine⟨lim.keeps x.toInCall.keep,codeAny_func ?_⟩
 obtain⟨t,ht,hq⟩:=hbody A outer s H vs Q E (hr.deeper _) hsp
 have I:Inv (Kk CX P w K mg base N qual scope f cdv A outer s H E) [] (start N vs) H s1:=Dv S hr.hd e0 hl r x
 refine wpAny_mono (ht [] s1 (start N vs) H _ I hq) (λfl s' hs=>?_) λe s' hs=>hs
 have fin:∀ {σ':St} {H':Hp} {v:V} {u:Value},Inv (Kk CX P w K mg base N qual scope f cdv A outer s H E) [] σ' H' s'->RelV v u->Q v H'->CE outer P w H s Q u s':=
  λ{σ' H' v u} J rv q=>⟨v,H',J.os,J.bare,J.base,J.hok,rv,q⟩
 cases fl with
 |ret u=>
  obtain⟨v,σ',H',J,rv,q⟩:=hs
  exact fin J rv q
 |next=>
  obtain⟨σ',H',J,q⟩:=hs
  exact fin (v:=V.non) (u:=Value.none) J rfl q
 |brk=>
  obtain⟨_,_,_,q⟩:=hs
  exact False.elim q
 |cont=>
  obtain⟨_,_,_,q⟩:=hs
  exact False.elim q
section
variable {p:Pos}{t:TA}{id T:String}{r:List V->Hp->VK->Prop}
def tCB(r:List V->Hp->VK->Prop)(t:TA):TE:=λσ H Q=>t σ H λvs H1=>r vs H1 Q
theorem Dj(hc:Rg X (.builtin id) r)(hg:Gl X x)(hm:X.mg x=none)(hv:bootBuiltins x=some (.builtin id))(ha:PA X (e::es) t)(hn:x≠"__name__":=by decide)(hdb:(x==("__debug__":Str))=false:=by decide)(he:starEach (e::es) X.env=(false,eval e X.env)::starEach es X.env:=by rfl)(hpl:(backTo pos (starEach es X.env)).any (·.1)=false:=by rfl):PE X (.Call (.Name x p) (e::es) [] pos) (tCB r t):=by
 intro pins s σ H Q I h
 refine wpAny_Call_Name_kw (Li I hg hm hv ?_ hn hdb)
 exact PyProof.Rows.callWith_builtin1 (thn (ha pos pins s σ H _ I h) λus s1 ⟨vs,H1,I1,r1,q1⟩=>hc pins s1 σ H1 vs us Q I1 r1 q1) he hpl
theorem Rv(hc:Rg X (.type T) r)(hg:Gl X x)(hm:X.mg x=none)(hv:bootBuiltins x=some (.type T))(ha:PA X (e::es) t)(hn:x≠"__name__":=by decide)(hdb:(x==("__debug__":Str))=false:=by decide)(he:starEach (e::es) X.env=(false,eval e X.env)::starEach es X.env:=by rfl)(hpl:(backTo pos (starEach es X.env)).any (·.1)=false:=by rfl):PE X (.Call (.Name x p) (e::es) [] pos) (tCB r t):=by
 intro pins s σ H Q I h
 refine wpAny_Call_Name_kw (Li I hg hm hv ?_ hn hdb)
 exact PyProof.Rows.callWith_type1 (thn (ha pos pins s σ H _ I h) λus s1 ⟨vs,H1,I1,r1,q1⟩=>hc pins s1 σ H1 vs us Q I1 r1 q1) he hpl
end
end L2
namespace HT
open PySem PyProof.Rows
section
open PySem.SeqAt
open PySem.AutoSeq1 (wpAny_loadPart')
open PySem.MeetsSeq PySem.MeetsSeq2 PySem.MeetsSeq3
end
section
variable {prog:Program}{w:World}{A:Around}{E:Value->Shared->Prop}{s:Shared}
theorem cat_tup{t b:Addr}{vs ws:List Value}{Q:Value->Shared->Prop}(ht:IsTup s.heap t vs.toArray)(hb:IsTup s.heap b ws.toArray)(hv:vs≠ [])(h1:ws= []->Q (.ref t) s)(h2:ws≠ []->Q (.ref s.heap.objs.size) {s with heap:=s.heap.push {cls:=.type "tuple",data:=.seq (vs++ws).toArray}})(hsz:vs.length+ws.length<=sizeLine):wpAny (model prog w) A (binaryOp .Add (.ref t) (.ref b)) Q E s:=by
 obtain⟨⟨cls,dd,data,sl⟩,ho,hc,n,hd⟩:=id ht
 obtain⟨⟨cls2,dd2,data2,sl2⟩,ho2,hc2,n2,hd2⟩:=id hb
 simp only at hc hd hc2 hd2
 subst hc hd hc2 hd2
 have e:vs.toArray++ws.toArray=(vs++ws).toArray:=by simp
 by_cases hw:ws= []
 .exact concat_meets ⟨_,ho,rfl⟩ ⟨_,ho2,rfl⟩ noFill_tuple_add seq_tuple_add PySem.F.slot_tuple_add PySem.F.entry_tuple_add (PySem.F.args_tuple_add_2 _ _)
   (tuple_addW1 t b vs.toArray ws.toArray n n2 dd dd2 sl sl2 (by simpa using hv) (by simp[hw])) ⟨ho,ho2,h1 hw⟩
 .refine concat_meets ⟨_,ho,rfl⟩ ⟨_,ho2,rfl⟩ noFill_tuple_add seq_tuple_add PySem.F.slot_tuple_add PySem.F.entry_tuple_add (PySem.F.args_tuple_add_2 _ _)
   (tuple_addW2 t b vs.toArray ws.toArray n n2 dd dd2 sl sl2 (by simpa using hv) (by simpa using hw) (by rw[size_toArray,size_toArray];exact hsz)) ⟨ho,ho2,?_⟩
  rw[e]
  exact h2 hw
def sIx(n d:Nat):Option Int->Nat
 |none=>d
 |some v=>if v<0 then(v+(n:Int)).toNat else min v.toNat n
theorem sIx_nat(n d k:Nat):sIx n d (some (k:Int))=min k n:=by
 show(if(k:Int)<0 then((k:Int)+(n:Int)).toNat else min (k:Int).toNat n)=min k n
 rw[if_neg (by omega),Int.toNat_natCast]
end
end HT
namespace L2
open PySem PySem.Spec PyProof.Rows
abbrev TO:=St->Hp->(Option Int->Hp->Prop)->Prop
def PO(X:Cx)(e:Option Expr)(t:TO):Prop:=
 ∀ (pins:List (Addr×Obj)) (s:Shared) (σ:St) (H:Hp) (Q:Option Int->Hp->Prop),Inv X pins σ H s->t σ H Q->
  wpAny (model X.prog X.w) X.A (evalPart e X.env) (λu s'=>∃ o H',Inv X pins σ H' s'/\IsPart u o/\Q o H') X.xe s
def TX:TO:=λ_ H Q=>Q none H
def J9(t:TE):TO:=λσ H Q=>t σ H λx H1=>∃ i,x=.int i/\Q (some i) H1
variable{X:Cx}{e:Expr}{pos:Pos}{xs:List V}{us:List Value}
section
variable {te:TE}{lo hi:Option Expr}{tl th:TO}{p2:Pos}
theorem VW:PO X none TX:=by
 intro pins s σ H Q I h
 rw[evalPart_none]
 exact wpAny_pure ⟨none,H,I,.none,h⟩
theorem WW(h:PE X e te):PO X (some e) (J9 te):=by
 intro pins s σ H Q I hw
 rw[evalPart_some]
 refine thn (h pins s σ H _ I hw) λu s1 ⟨x,H1,I1,r1,q1⟩=>?_
 obtain⟨i,rfl,q⟩:=q1
 obtain⟨t,rfl⟩:=r1
 exact⟨some i,H1,I1,.int i t,q⟩
def SlR(X:Cx)(r:V->Option Int->Option Int->Hp->VK->Prop):Prop:=
 ∀ (pins:List (Addr×Obj)) (s:Shared) (σ:St) (H:Hp) (x:V) (v vl vu:Value) (lo hi:Option Int) (sl:Addr) (Q:VK),Inv X pins σ H s->RelV x v->s.heap.IsSliceOf sl vl vu .none->IsPart vl lo->IsPart vu hi->r x lo hi H Q->
  ∃ T id,typeLookup (.type T) "__getitem__"=pure (some (.builtin id))/\s.TypeIs v T/\wpAny (model X.prog X.w) X.A (getItem v (.ref sl)) (EP X pins σ Q) X.xe s
def tSl(r:V->Option Int->Option Int->Hp->VK->Prop)(te:TE)(tl th:TO):TE:=λσ H Q=>te σ H λx H1=>tl σ H1 λl H2=>th σ H2 λu H3=>r x l u H3 Q
theorem FP{r:V->Option Int->Option Int->Hp->VK->Prop}(hr:SlR X r)(he:PE X e te)(hl:PO X lo tl)(hu:PO X hi th):PE X (.Subscript e (.Slice lo hi none p2) pos) (tSl r te tl th):=by
 intro pins s σ H Q I h
 refine Subscript_ (thn (he pins s σ H _ I h) λv s1 ⟨x,H1,I1,r1,q1⟩=>?_)
 refine wpAny_Slice (thn (hl pins s1 σ H1 _ I1 q1) λvl s2 ⟨l,H2,I2,pl,q2⟩=>thn (hu pins s2 σ H2 _ I2 q2) λvu s3 ⟨u,H3,I3,pu,q3⟩=>?_)
 rw[evalPart_none]
 refine wpAny_pure ?_
 have I4:Inv X pins σ H3 {s3 with heap:=s3.heap.push {cls:=.type "slice",data:=.fields #[vl,vu,.none]}}:=I3.kept (t':=s3.toks) λb ob q=>get?_push_of_some _ q
 obtain⟨T,id,hT,ht,hg⟩:=hr pins {s3 with heap:=s3.heap.push {cls:=.type "slice",data:=.fields #[vl,vu,.none]}} σ H3 x v vl vu l u s3.heap.objs.size Q I4 r1 (Heap.IsSliceOf.new ..) pl pu q3
 show wpAny (model X.prog X.w) X.A (subscriptTail e (.Slice lo hi none p2) v (.ref s3.heap.objs.size)) (EP X pins σ Q) X.xe {s3 with heap:=s3.heap.push {cls:=.type "slice",data:=.fields #[vl,vu,.none]}}
 exact tail_any (ops:= [.ref s3.heap.objs.size,v]) ht hT hg (by with_unfolding_all rfl)
def UH(xs:List V)(lo hi:Option Int):List V:=(xs.drop (HT.sIx xs.length 0 lo)).take (HT.sIx xs.length xs.length hi-HT.sIx xs.length 0 lo)
theorem Ry(xs:List V)(lo hi:Option Int):(UH xs lo hi).length<=xs.length:=by
 unfold UH
 rw[length_take,List.length_drop]
 omega
def P8(K:Frag):R2:=λx y H Q=>∃ a b xs ys,x=.ref a/\y=.ref b/\SqT K H a xs/\SqT K H b ys/\xs≠ []/\xs.length+ys.length<=sizeLine/\
 (ys= []->Q (.ref a) H)/\(ys≠ []->∀ p,H p=none->Q (.ref p) (Jb H p (.tup (xs++ys))))
theorem Vals.nil_iff(r:Vals xs us):us= []↔xs= []:=by
 cases r with
 |nil=>simp
 |cons _ _=>simp
theorem OV:OpR X (binaryOp .Add) (P8 X.K):=by
 intro pins s σ H x y v u Q I rx ry h
 obtain⟨a,b,xs,ys,rfl,rfl,ha,hb,hx,hz,q1,q2⟩:=h
 cases rx
 cases ry
 obtain⟨its,r1,p1,_⟩:=I.tuple ha
 obtain⟨its2,r2,p2,_⟩:=I.tuple hb
 refine HT.cat_tup p1 p2 (λz=>hx (r1.nil_iff.mp z)) (λz=>⟨.ref a,H,I,rfl,q1 (r2.nil_iff.mp z)⟩) (λz=>?_) (by rw[<-r1.length,<-r2.length];exact hz)
 refine⟨.ref s.heap.objs.size,_,I.laid (t':=s.toks) (o:=.tup (xs++ys)) (λb ob q=>get?_push_of_some _ q) (le_refl _) ?_,rfl,q2 (λw=>z (r2.nil_iff.mpr w)) _ (I.hok.fresh (le_refl _))⟩
 exact⟨by rw[length_append];exact hz,_,r1.append r2,IsTup.new _ _⟩
end
def SY(n:Nat)(i:Int):Option Nat:=if 0<=i then(if i<n then some i.toNat else none) else if -(n:Int)<=i then some (i+n).toNat else none
variable{α:Type}
def Ar(xs:List α)(i:Int):Option α:=(SY xs.length i).bind λj=>xs[j]?
variable{n:Nat}{i:Int}
theorem KU{j:Nat}(h:SY n i=some j):seqIndex? i n=some j/\j<n/\ -(n:Int)<=i/\i<n:=by
 unfold SY at h
 by_cases h0:0<=i
 .rw[if_pos h0]at h
  by_cases h1:i<n
  .rw[if_pos h1]at h
   have e:i.toNat=j:=Option.some.inj h
   exact⟨by rw[seqIndex_of h0 h1,e],by omega,by omega,h1⟩
  .rw[if_neg h1]at h;cases h
 .rw[if_neg h0]at h
  by_cases h1: -(n:Int)<=i
  .rw[if_pos h1]at h
   have e:(i+n).toNat=j:=Option.some.inj h
   exact⟨by rw[seqIndex_neg (by omega) h1,e],by omega,h1,by omega⟩
  .rw[if_neg h1]at h;cases h
theorem Bw{xs:List α}{v:α}(h:Ar xs i=some v):∃ j,seqIndex? i xs.length=some j/\xs[j]? =some v/\j<xs.length/\ -(xs.length:Int)<=i/\i<xs.length:=by
 unfold Ar at h
 cases e:SY xs.length i with
 |none=>rw[e]at h;cases h
 |some j=>
  rw[e]at h
  obtain⟨h1,h2,h3,h4⟩:=KU e
  exact⟨j,h1,h,h2,h3,h4⟩
theorem atI_last(xs:List α)(v:α):Ar (xs++ [v]) (-1)=some v:=by
 have hl:(xs++ [v]).length=xs.length+1:=by simp
 have e:SY (xs++ [v]).length (-1)=some xs.length:=by
  unfold SY
  rw[hl,if_neg (by decide),if_pos (by omega)]
  congr 1
  omega
 unfold Ar
 rw[e]
 show(xs++ [v])[xs.length]? =some v
 simp
def Ln(b:Expr):Prop:=∀ o i,subscripted b false o i=operate [o,i] (getItem o i)
def IxR(X:Cx)(r:R2):Prop:=
 ∀ (value slice:Expr) (pins:List (Addr×Obj)) (s:Shared) (σ:St) (H:Hp) (x y:V) (v u:Value) (Q:VK),Inv X pins σ H s->RelV x v->RelV y u->r x y H Q->
  subscripted slice false v u=operate [v,u] (getItem v u)->wpAny (model X.prog X.w) X.A (subscriptTail value slice v u) (EP X pins σ Q) X.xe s
def T6(X:Cx)(id:String)(r:V->List V->Hp->VK->Prop):Prop:=
 ∀ (pins:List (Addr×Obj)) (s:Shared) (σ:St) (H:Hp) (x:V) (xs:List V) (v:Value) (us:List Value) (Q:VK),Inv X pins σ H s->RelV x v->Vals xs us->r x xs H Q->
  wpAny (model X.prog X.w) X.A (call (.builtin id) (v::us)) (EP X pins σ Q) X.xe s
variable{A:Around}{s:Shared}{y x:V}{u:Value}{pins:List (Addr×Obj)}{σ:St}{H:Hp}
section
variable {a b:Expr}{ta tb:TE}
theorem IxR.or{r r':R2}(h:IxR X r)(h':IxR X r'):IxR X (λx y H Q=>r x y H Q\/r' x y H Q):=by
 intro value slice pins s σ H x y v u Q I rx ry q hs
 rcases q with q|q
 .exact h value slice pins s σ H x y v u Q I rx ry q hs
 .exact h' value slice pins s σ H x y v u Q I rx ry q hs
theorem K8{r:R2}(hr:IxR X r)(ha:PE X a ta)(hb:PE X b tb)(hs:Ln b):PE X (.Subscript a b pos) (G9 r ta tb):=by
 intro pins s σ H Q I h
 exact Subscript_ (WR ha hb I h λv u s2 x y H2 I2 rx ry q=>hr a b pins s2 σ H2 x y v u Q I2 rx ry q (hs _ _))
def R8(K:Frag):R2:=λx y H Q=>∃ p xs i v,x=.ref p/\y=.int i/\SqL K H p xs/\Ar xs i=some v/\Q v H
def T8(K:Frag):R2:=λx y H Q=>∃ p xs i v,x=.ref p/\y=.int i/\SqT K H p xs/\Ar xs i=some v/\Q v H
def S8:R2:=λx y H Q=>∃ z i c,x=.str z/\y=.int i/\z.length<=sizeLine/\Ar z.cps.toList i=some c/\Q (.str ⟨#[c]⟩) H
theorem LU:IxR X (R8 X.K):=by
 intro value slice pins s σ H x y v u Q I rx ry h hs
 obtain⟨p,xs,i,z,rfl,rfl,hq,he,q⟩:=h
 cases rx
 obtain⟨t,rfl⟩:=ry
 obtain⟨its,r,pl,hz⟩:=I.list hq
 obtain⟨j,h1,h2,h3,h4,h5⟩:=Bw he
 obtain⟨w,ew,rw'⟩:=r.get h2
 have hl:=r.length
 have hn:=Ww
 have fin:EP X pins σ Q w s:=⟨z,H,I,rw',q⟩
 by_cases h0:0<=i
 .have hj:i.toNat=j:=by
   rw[seqIndex_of h0 h5]at h1
   exact Option.some.inj h1
  exact item_listR pl.isList h0 (by omega) (by rw[hj];simpa using ew) fin hs
 .have hj:(i+(its.toArray.size:Int)).toNat=j:=by
   rw[seqIndex_neg (by omega) h4]at h1
   rw[size_toArray,<-hl]
   exact Option.some.inj h1
  exact subscriptTail_builtinR (x:=w) pl.isList.typeIs slot_list_getitem.lookup
   (wpAny_getItem_list_neg (Q:=λr s'=>r=w/\EP X pins σ Q r s') pl.isList (by omega) (by rw[size_toArray]<;>omega) (by omega) (by rw[hj];simpa using ew) ⟨rfl,fin⟩) hs
theorem K2:IxR X (T8 X.K):=by
 intro value slice pins s σ H x y v u Q I rx ry h hs
 obtain⟨p,xs,i,z,rfl,rfl,hq,he,q⟩:=h
 cases rx
 obtain⟨t,rfl⟩:=ry
 obtain⟨its,r,pl,hz⟩:=I.tuple hq
 obtain⟨j,h1,h2,h3,h4,h5⟩:=Bw he
 obtain⟨w,ew,rw'⟩:=r.get h2
 have hl:=r.length
 have hn:=Ww
 have fin:EP X pins σ Q w s:=⟨z,H,I,rw',q⟩
 exact subscriptTail_builtinR (x:=w) pl.typeIs slot_tuple_getitem.lookup
  (getItem_tuple (j:=j) (Q:=λr s'=>r=w/\EP X pins σ Q r s') pl (by omega) (by omega) (by rw[size_toArray,<-hl];exact h1) (by simpa using ew) ⟨rfl,fin⟩) hs
theorem G2:IxR X S8:=by
 intro value slice pins s σ H x y v u Q I rx ry h hs
 obtain⟨z,i,c,rfl,rfl,hz,he,q⟩:=h
 obtain⟨t,rfl⟩:=rx
 obtain⟨t',rfl⟩:=ry
 obtain⟨j,h1,h2,h3,h4,h5⟩:=Bw he
 have hl:z.cps.toList.length=z.length:=by simp[Str.length]
 rw[hl]at h1 h4 h5
 have hn:=Ww
 exact tail_any (typeIs_str s z t) slot_str_getitem.lookup (getItem_str (c:=c) (by
  have e1:decide (i< -(2^63:Int))=false:=decide_eq_false (by omega)
  have e2:decide (i>=2^63)=false:=decide_eq_false (by omega)
  rw[e1,e2,Bool.or_false]) (by rw[h1];simpa using h2) ⟨.str ⟨#[c]⟩,H,I.tok _,⟨_,rfl⟩,q⟩) hs
def rIx(K:Frag):R2:=λx y H Q=>R8 K x y H Q\/T8 K x y H Q\/S8 x y H Q
theorem E2:IxR X (rIx X.K):=LU.or (K2.or G2)
theorem Ux(lo hi:Option Int)(n:Nat):(sliceBounds lo hi none n).1=((HT.sIx n 0 lo:Nat):Int)/\(sliceBounds lo hi none n).2.1=((HT.sIx n n hi:Nat):Int)/\(sliceBounds lo hi none n).2.2=1:=by
 refine⟨?_,?_,rfl⟩
 .cases lo with
  |none=>simp[sliceBounds,HT.sIx]
  |some i=>
   simp only[sliceBounds,HT.sIx,Option.getD_none,show(1:Int)>0 by decide,if_true]
   by_cases h:i<0
   .simp only[h,if_true]<;>omega
   .simp only[h,if_false]<;>omega
 .cases hi with
  |none=>simp[sliceBounds,HT.sIx]
  |some i=>
   simp only[sliceBounds,HT.sIx,Option.getD_none,show(1:Int)>0 by decide,if_true]
   by_cases h:i<0
   .simp only[h,if_true]<;>omega
   .simp only[h,if_false]<;>omega
theorem Ku(its:List Value)(lo hi:Option Int):slicePick its.toArray lo hi none=((its.drop (HT.sIx its.length 0 lo)).take (HT.sIx its.length its.length hi-HT.sIx its.length 0 lo)).toArray:=by
 obtain⟨h1,h2,h3⟩:=Ux lo hi its.toArray.size
 unfold slicePick
 rw[h1,h2,h3]
 simp only[sliceRange_one,pick_run,size_toArray]<;>rfl
def Kb0(K:Frag):V->Option Int->Option Int->Hp->VK->Prop:=λx lo hi H Q=>∃ a xs,x=.ref a/\SqL K H a xs/\∀ p,H p=none->Q (.ref p) (Jb H p (.lst (UH xs lo hi)))
theorem OX:SlR X (Kb0 X.K):=by
 intro pins s σ H x v vl vu lo hi sl Q I rx hs pl pu h
 obtain⟨a,xs,rfl,hx,q⟩:=h
 cases rx
 obtain⟨its,r,ht,hz⟩:=I.list hx
 have hlen:=r.length
 refine⟨"list",_,slot_list_getitem.lookup,ht.isList.typeIs,?_⟩
 refine wpAny_getItem_list_slice ht.isList hs pl pu .none (by simp) ?_ (by rw[size_toArray]<;>omega)
 rw[Ku,<-hlen]
 refine⟨.ref s.heap.objs.size,_,I.laid (t':=s.toks) (o:=.lst (UH xs lo hi)) (λb ob q=>get?_push_of_some _ q) (le_refl _) ?_,rfl,q _ (I.hok.fresh (le_refl _))⟩
 exact⟨le_trans (Ry xs lo hi) hz,_,0,(r.drop (HT.sIx xs.length 0 lo)).take (HT.sIx xs.length xs.length hi-HT.sIx xs.length 0 lo),get?_push_size _ rfl⟩
def Mm:V->Bool
 | .non=>true
 | .bl _=>true
 | .int _=>true
 | .str _=>true
 |_=>false
def WE:V->V->Bool
 | .non,.non=>true
 | .bl a,.bl b=>a==b
 | .bl a,.int b=>(if a then 1 else 0)==b
 | .int a,.bl b=>a==(if b then 1 else 0)
 | .int a,.int b=>a==b
 | .str a,.str b=>a==b
 |_,_=>false
theorem F1{v:Value}(ry:RelV y u)(rx:RelV x v)(fy:Mm y=true)(fx:Mm x=true):SeqAt.EqAt A s u v (WE y x):=by
 cases y with
 |non=>
  cases ry
  cases x with
  |non=>cases rx;exact SeqAt.EqAt.same _
  |bl b=>cases rx;exact SeqAt.EqAt.none_bool b
  |int b=>obtain⟨t,rfl⟩:=rx;exact SeqAt.EqAt.none_int b t
  |str b=>obtain⟨t,rfl⟩:=rx;exact SeqAt.EqAt.none_str b t
  |_=>exact absurd (show false=true from fx) Bool.false_ne_true
 |bl a=>
  cases ry
  cases x with
  |non=>cases rx;exact SeqAt.EqAt.bool_none a
  |bl b=>cases rx;exact SeqAt.EqAt.bool_bool a b
  |int b=>obtain⟨t,rfl⟩:=rx;exact SeqAt.EqAt.bool_int a b t
  |str b=>obtain⟨t,rfl⟩:=rx;exact SeqAt.EqAt.bool_str a b t
  |_=>exact absurd (show false=true from fx) Bool.false_ne_true
 |int a=>
  obtain⟨t',rfl⟩:=ry
  cases x with
  |non=>cases rx;exact SeqAt.EqAt.int_none a t'
  |bl b=>cases rx;exact SeqAt.EqAt.int_bool a t' b
  |int b=>obtain⟨t,rfl⟩:=rx;exact SeqAt.EqAt.int_int a t' b t
  |str b=>obtain⟨t,rfl⟩:=rx;exact SeqAt.EqAt.int_str a t' b t
  |_=>exact absurd (show false=true from fx) Bool.false_ne_true
 |str a=>
  obtain⟨t',rfl⟩:=ry
  cases x with
  |non=>cases rx;exact SeqAt.EqAt.str_none a t'
  |bl b=>cases rx;exact SeqAt.EqAt.str_bool a t' b
  |int b=>obtain⟨t,rfl⟩:=rx;exact SeqAt.EqAt.str_int a t' b t
  |str b=>obtain⟨t,rfl⟩:=rx;exact SeqAt.EqAt.str_str a t' b t
  |_=>exact absurd (show false=true from fx) Bool.false_ne_true
 |_=>exact absurd (show false=true from fy) Bool.false_ne_true
def NT(x:V)(u:Value):Bool:=match u with
 | .none=>WE .non x
 | .bool b=>WE (.bl b) x
 | .int i _=>WE (.int i) x
 | .str z _=>WE (.str z) x
 |_=>false
theorem RL(r:RelV y u)(f:Mm y=true):NT x u=WE y x:=by
 cases y with
 |non=>cases r;rfl
 |bl b=>cases r;rfl
 |int i=>obtain⟨t,rfl⟩:=r;rfl
 |str z=>obtain⟨t,rfl⟩:=r;rfl
 |_=>exact absurd (show false=true from f) Bool.false_ne_true
theorem Aw{x:V}:∀ {xs:List V} {us:List Value},Vals xs us->xs.all Mm=true->us.any (NT x)=xs.any λy=>WE y x
 |_,_,.nil,_=>rfl
 |y::xs,u::us,.cons r t,f=>by
  rw[all_cons,and_eq_true]at f
  rw[any_cons,any_cons,RL r f.1,Aw t f.2]
theorem Ds{A:Around}{s:Shared}{x:V}{v:Value}(rx:RelV x v)(fx:Mm x=true):∀ {xs:List V} {us:List Value},Vals xs us->xs.all Mm=true->∀ u∈us,SeqAt.EqAt A s u v (NT x u)
 |_,_,.nil,_=>λu hu=>by cases hu
 |y::xs,u::us,.cons r t,f=>λu' hu=>by
  rw[all_cons,and_eq_true]at f
  rcases mem_cons.mp hu with rfl|hu
  .rw[RL r f.1];exact F1 r rx f.1 fx
  .exact Ds rx fx t f.2 u' hu
def inV(x:V)(xs:List V):Bool:=xs.any λy=>WE y x
def rIn(K:Frag)(neg:Bool):R2:=λx y H Q=>∃ p xs,y=.ref p/\(SqL K H p xs\/SqT K H p xs)/\Mm x=true/\xs.all Mm=true/\Q (.bl (if neg then !inV x xs else inV x xs)) H
theorem HJ:OpR X (compareOp .In) (rIn X.K false):=by
 intro pins s σ H x y v u Q I rx ry h
 obtain⟨p,xs,rfl,hq,fx,fs,q⟩:=h
 cases ry
 rcases hq with hq|hq
 .obtain⟨its,r,pl,hz⟩:=I.list hq
  refine SeqAt.in_listAt (NT x) pl.isList (λw hw=>Ds rx fx r fs w (by simpa using hw)) ⟨.bl _,H,I,rfl,?_⟩
  rw[show its.toArray.any (NT x)=its.any (NT x) by simp,Aw r fs]
  exact q
 .obtain⟨its,r,pl,hz⟩:=I.tuple hq
  refine SeqAt.in_tupleAt (NT x) pl (λw hw=>Ds rx fx r fs w (by simpa using hw)) ⟨.bl _,H,I,rfl,?_⟩
  rw[show its.toArray.any (NT x)=its.any (NT x) by simp,Aw r fs]
  exact q
theorem Dw:Rg X (.type "list") (λxs H Q=>∃ p ys,xs= [.ref p]/\(SqL X.K H p ys\/SqT X.K H p ys)/\∀ l,H l=none->Q (.ref l) (Jb H l (.lst ys))):=by
 intro pins s σ H xs us Q I r h
 obtain⟨p,ys,rfl,hq,q⟩:=h
 obtain⟨u,rfl,rx⟩:=DB r
 cases rx
 have fin:∀ (its:List Value),Vals ys its->ys.length<=sizeLine->∀ (h':Heap) (c':Nat),(∀ b o',s.heap.get? b=some o'->h'.get? b=some o')->
   h'.get? s.heap.objs.size=some {cls:=.type "list",dict:=none,data:=.seq its.toArray c',slots:= #[]}->EP X pins σ Q (.ref s.heap.objs.size) {s with heap:=h'}:=λits r' hz h' c' kp e=>
  ⟨.ref s.heap.objs.size,_,I.laid (t':=s.toks) kp (le_refl _) (show ObjOk X.prog X.w _ h' _ (.lst ys) from⟨hz,its,c',r',e⟩),rfl,q _ (I.hok.fresh (le_refl _))⟩
 rcases hq with hq|hq
 .obtain⟨its,r',pl,hz⟩:=I.list hq
  have hlen:=r'.length
  obtain⟨o,ho,hc,n,hd⟩:=pl.isList
  exact call_list_seq p (.inl rfl) ho hc hd (λh' c' kp e=>fin its r' hz h' c' kp e) (by simp only[size_toArray]<;>omega)
 .obtain⟨its,r',pl,hz⟩:=I.tuple hq
  have hlen:=r'.length
  obtain⟨o,ho,hc,n,hd⟩:=pl
  exact call_list_seq p (.inr rfl) ho hc hd (λh' c' kp e=>fin its r' hz h' c' kp e) (by simp only[size_toArray]<;>omega)
theorem Qt:Rg X (.type "tuple") (λxs H Q=>∃ p ys,xs= [.ref p]/\((SqL X.K H p ys/\∀ l,H l=none->Q (.ref l) (Jb H l (.tup ys)))\/(SqT X.K H p ys/\Q (.ref p) H))):=by
 intro pins s σ H xs us Q I r h
 obtain⟨p,ys,rfl,h⟩:=h
 obtain⟨u,rfl,rx⟩:=DB r
 cases rx
 rcases h with⟨hq,q⟩|⟨hq,q⟩
 .obtain⟨its,r',pl,hz⟩:=I.list hq
  have hlen:=r'.length
  refine call_tuple_list pl.isList (λh' kp=>?_) (by simp only[size_toArray]<;>omega)
  have I1:Inv X pins σ H {s with heap:=h'}:=I.kept (t':=s.toks) kp
  have I2:Inv X pins σ (Jb H h'.objs.size (.tup ys)) {s with heap:=h'.push {cls:=.type "tuple",data:=.seq its.toArray}}:=
   I1.laid (t':=s.toks) (λb o e=>get?_push_of_some _ e) (le_refl _) (show ObjOk X.prog X.w _ _ _ (.tup ys) from⟨hz,its,r',IsTup.new _ _⟩)
  exact⟨.ref h'.objs.size,_,I2,rfl,q _ (I1.hok.fresh (le_refl _))⟩
 .obtain⟨its,r',pl,hz⟩:=I.tuple hq
  exact call_tuple_same pl ⟨.ref p,H,I,rfl,q⟩
def tyV(K:Frag)(T:String)(x:V)(H:Hp):Prop:=match x with
 | .str _=>T="str"
 | .int _=>T="int"
 | .ref p=>(T="list"/\∃ xs,SqL K H p xs)\/(T="tuple"/\∃ o,K.lookup p=some o/\o.cls=.type "tuple"/\o.dict=none)\/
   (T="dict"/\((∃ kvs,H p=some (.dK kvs))\/∃ kvs,H p=some (.dT kvs)))\/(T="set"/\∃ S n,H p=some (.set S n))
 |_=>False
theorem SQ{T:String}{v:Value}(I:Inv X pins σ H s)(r:RelV x v)(ty:tyV X.K T x H):
  s.TypeIs v T/\∀ a,v=.ref a->∃ ob,s.heap.get? a=some ob/\ob.dict=none:=by
 cases x with
 |str z=>
  obtain⟨t,rfl⟩:=r
  cases (show T="str" from ty)
  exact⟨typeIs_str s z t,λ_ e=>nomatch e⟩
 |int i=>
  obtain⟨t,rfl⟩:=r
  cases (show T="int" from ty)
  exact⟨typeIs_int s i t,λ_ e=>nomatch e⟩
 |ref p=>
  cases r
  rcases ty with⟨rfl,xs,hq⟩|⟨rfl,o,hk,hc,hd⟩|⟨rfl,hk⟩|⟨rfl,S,n,hk⟩
  .obtain⟨its,_,pl,_⟩:=I.list hq
   refine⟨pl.isList.typeIs,λa e=>?_⟩
   cases e
   obtain⟨o,n,e,c,hd,_⟩:=pl
   exact⟨o,e,hd⟩
  .refine⟨⟨o,I.kIn p o hk,hc⟩,λa e=>?_⟩
   cases e
   exact⟨o,I.kIn _ o hk,hd⟩
  .have z:∃ o,s.heap.get? p=some o/\o.ExactDict:=by
    rcases hk with⟨kvs,hk⟩|⟨kvs,hk⟩
    .obtain⟨_,_,_,_,o,_,_,e,ex,_⟩:=I.hok p _ hk
     exact⟨o,e,ex⟩
    .obtain⟨_,_,_,_,o,_,_,e,ex,_⟩:=I.hok p _ hk
     exact⟨o,e,ex⟩
   obtain⟨o,e,ex⟩:=z
   refine⟨⟨o,e,ex.1⟩,λa e2=>?_⟩
   cases e2
   exact⟨o,e,ex.2.1⟩
  .obtain⟨o,_,_,_,e,ex,_⟩:=I.hok p _ hk
   refine⟨⟨o,e,ex.1⟩,λa e2=>?_⟩
   cases e2
   exact⟨o,e,ex.2.1⟩
 |_=>exact False.elim ty
def Qb0(K:Frag)(T:String)(r:V->List V->Hp->VK->Prop)(to:TE):TE:=λσ H Q=>to σ H λx H1=>tyV K T x H1/\r x [] H1 Q
def tBM(K:Frag)(T:String)(r:V->List V->Hp->VK->Prop)(to:TE)(t:TA):TE:=λσ H Q=>to σ H λx H1=>tyV K T x H1/\t σ H1 λxs H2=>r x xs H2 Q
variable {o:Expr}{es:List Expr}{to:TE}{t:TA}{name:Str}{apos cpos:Pos}{T id:String}{r:V->List V->Hp->VK->Prop}
theorem B4(pa:PlainAttrs T)(slot:Slot T name id)(hty:typeOf (.builtin id)=pure (.type "method_descriptor"))(hm:T6 X id r)(ho:PE X o to)(hbase:attributeBase o name X.env (eval o X.env)=eval o X.env:=by rfl)(hline:(apos.endLine==cpos.line)=true:=by rfl):PE X (.Call (.Attribute o name apos) [] [] cpos) (Qb0 X.K T r to):=by
 intro pins s σ H Q I h
 refine wpAny_Call_method0_late hbase hline (thn (ho pins s σ H _ I h) λv s1 ⟨x,H1,I1,r1,ty,q1⟩=>?_)
 obtain⟨h1,h2⟩:=SQ I1 r1 ty
 exact⟨T,id,pa,slot,hty,h1,h2,Calls.callWith_builtin rfl (PySem.evalArgs_none (hm pins s1 σ H1 x [] v [] Q I1 r1 .nil q1))⟩
theorem VY(pa:PlainAttrs T)(slot:Slot T name id)(hty:typeOf (.builtin id)=pure (.type "method_descriptor"))(hm:T6 X id r)(ho:PE X o to)(ha:PA X (e::es) t)(hbase:attributeBase o name X.env (eval o X.env)=eval o X.env:=by rfl)(hfew:((backTo cpos (starEach (e::es) X.env)).all (λx=> !x.1)&&(backToKw cpos (keywordEach [] X.env)).all (λx=>x.1.isSome)
   &&decide ((e::es).length+([]:List Keyword).length+(if([]:List Keyword).isEmpty then 0 else 1)<30))=true:=by rfl)(hline:(apos.endLine==cpos.line)=true:=by rfl)(hs:starEach (e::es) X.env=(false,eval e X.env)::starEach es X.env:=by rfl)(hplain:(backTo cpos (starEach es X.env)).any (·.1)=false:=by rfl):
  PE X (.Call (.Attribute o name apos) (e::es) [] cpos) (tBM X.K T r to t):=by
 intro pins s σ H Q I h
 refine wpAny_Call_method_late hbase hfew hline rfl (thn (ho pins s σ H _ I h) λv s1 ⟨x,H1,I1,r1,ty,q1⟩=>?_)
 obtain⟨h1,h2⟩:=SQ I1 r1 ty
 refine⟨T,id,pa,slot,hty,h1,h2,?_⟩
 have hA:=ha cpos pins s1 σ H1 _ I1 q1
 rw[hs]at hA ⊢
 refine Calls.callWith_builtin (by show(false||(backTo cpos (starEach es X.env)).any (·.1))=false;rw[hplain]<;>rfl) (Calls.evalArgs_plain ?_)
 exact thn hA λus s2 ⟨vs,H2,I2,r2,q2⟩=>hm pins s2 σ H2 x vs v us Q I2 r1 r2 q2
/- xs.append(e),list.index on a module's tuple .. are T6 facts of 06m -/
end
def MtM(X:Cx)(id:String)(r:V->List V->Hp->VK->Prop):Prop:=
 ∀ (pins:List (Addr×Obj)) (s:Shared) (σ:St) (H:Hp) (x:V) (xs:List V) (v:Value) (us:List Value) (Q:VK),Inv X pins σ H s->RelV x v->Vals xs us->r x xs H Q->
  wpAny (model X.prog X.w) X.A (call (.builtin id) (v::us)) (EP X pins σ Q) X.xe s
theorem Vals.one:∀ {x:V} {us:List Value},Vals [x] us->∃ u,us= [u]/\RelV x u
 |_,_,.cons r .nil=>⟨_,rfl,r⟩
theorem Vals.two:∀ {x y:V} {us:List Value},Vals [x,y] us->∃ u v,us= [u,v]/\RelV x u/\RelV y v
 |_,_,_,.cons r (.cons q .nil)=>⟨_,_,rfl,r,q⟩
theorem Vals.zero:∀ {us:List Value},Vals [] us->us= []
 |_,.nil=>rfl
theorem Vals.dropLast(h:Vals xs us):Vals xs.dropLast us.dropLast:=by
 induction h with
 |nil=>exact .nil
 |cons r t ih=>
  cases t with
  |nil=>exact .nil
  |cons q t'=>exact .cons r ih
theorem Vals.eraseIdx:∀ {xs:List V} {us:List Value} (i:Nat),Vals xs us->Vals (xs.eraseIdx i) (us.eraseIdx i)
 |_,_,_,.nil=>.nil
 |_,_,0,.cons _ t=>t
 |_,_,i+1,.cons r t=>.cons r (Vals.eraseIdx i t)
theorem Vals.rep(h:Vals xs us):∀ k:Nat,Vals (replicate k xs).flatten (replicate k us).flatten
 |0=>.nil
 |k+1=>by
  rw[replicate_succ,replicate_succ,flatten_cons,flatten_cons]
  exact Vals.append h (Vals.rep h k)
theorem BC(l:List α):l.eraseIdx (l.length-1)=l.dropLast:=by
 induction l with
 |nil=>rfl
 |cons a r ih=>
  cases r with
  |nil=>rfl
  |cons b r=>
   have e:(a::b::r).length-1=((b::r).length-1)+1:=by
    have h1:(a::b::r).length=r.length+2:=rfl
    have h2:(b::r).length=r.length+1:=rfl
    omega
   rw[e,List.eraseIdx_cons_succ,ih]
   all_goals rfl
theorem Av(its:List Value):∀ (k:Nat) (acc:List Value),
  List.foldl (λx1 x2=>x1++x2) acc.toArray (replicate k its.toArray)=(acc++(replicate k its).flatten).toArray
 |0,acc=>by simp
 |k+1,acc=>by
  have e:acc.toArray++its.toArray=(acc++its).toArray:=by simp
  have e2:(acc++its)++(replicate k its).flatten=acc++(replicate (k+1) its).flatten:=by
   rw[replicate_succ,flatten_cons,append_assoc]
  rw[<-e2,<-Av its k (acc++its),<-e,replicate_succ,foldl_cons]
variable{its:List Value}{t':Nat}
section
variable {l b:Addr}{ys zs:List V}
theorem Inv.lset{its':List Value}{f:Array Value->Array Value}(I:Inv X pins σ H s)(hH:H l=some (.lst xs))(e:s.heap.get? l=some {cls:=.type "list",data:=.seq its.toArray n})(hf:f its.toArray=its'.toArray)(hv:Vals ys its')(hz:ys.length<=sizeLine):
  Inv X pins σ (Jb H l (.lst ys)) {s with heap:=s.heap.update l (Obj.mapSeq f),toks:=t'}:=by
 have q:=PySem.IsL.update e f
 rw[hf]at q
 refine I.write (x:=l) (e:=l) (by rw[hH];exact trivial) (.inl rfl) (λb' u hb hu=>(get?_update_other s.heap (Obj.mapSeq f) (Ne.symm hb)).trans hu) ⟨_,q⟩ ?_
 exact⟨hz,its',_,hv,q⟩
theorem Inv.lnew(I:Inv X pins σ H s)(hv:Vals ys its)(hz:ys.length<=sizeLine):
  Inv X pins σ (Jb H s.heap.objs.size (.lst ys)) {s with heap:=s.heap.push {cls:=.type "list",data:=.seq its.toArray},toks:=t'}:=
 I.laid (λ_ _ q=>get?_push_of_some _ q) (le_refl _) ⟨hz,its,0,hv,get?_push_size _ rfl⟩
theorem Inv.fresh(I:Inv X pins σ H s):H s.heap.objs.size=none:=I.hok.fresh (le_refl _)
theorem Inv.lstM(I:Inv X pins σ H s)(hH:H l=some (.lst xs)):xs.length<=sizeLine/\∃ (its:List Value) (n:Nat),Vals xs its/\xs.length=its.length/\s.heap.get? l=some {cls:=.type "list",data:=.seq its.toArray n}:=by
 obtain⟨z,its,n,r,e⟩:=I.hok l _ hH
 exact⟨z,its,n,r,r.length,e⟩
theorem MO(h:n<=sizeLine):Builtin.List.listTooLong n=false:=by
 unfold Builtin.List.listTooLong
 exact decide_eq_false (by omega)
end
def DX:V->List V->Hp->VK->Prop:=λx vs H Q=>∃ l xs y,x=.ref l/\vs= [y]/\H l=some (.lst xs)/\xs.length<sizeLine/\Q .non (Jb H l (.lst (xs++ [y])))
theorem Mv:MtM X "list.append" DX:=by
 intro pins s σ H x vs v us Q I rx rv h
 obtain⟨l,xs,y,rfl,rfl,hH,hz,q⟩:=h
 cases rx
 obtain⟨u,rfl,ru⟩:=rv.one
 obtain⟨z,its,n,r,hl,e⟩:=I.lstM hH
 refine call_meets F.slot_list_append ⟨_,e,rfl⟩ F.entry_list_append (F.args_list_append_2 _ _) (PySem.list_append l its.toArray n u (by rw[size_toArray];omega)) ⟨e,?_⟩
 refine⟨.non,_,I.lset (its':=its++ [u]) hH e (by simp) (r.append (.cons ru .nil)) ?_,rfl,q⟩
 rw[length_append,length_singleton]
 omega
def Jb0:V->List V->Hp->VK->Prop:=λx vs H Q=>∃ l xs y,x=.ref l/\vs= []/\H l=some (.lst xs)/\xs[xs.length-1]? =some y/\Q y (Jb H l (.lst xs.dropLast))
theorem D3:MtM X "list.pop" Jb0:=by
 intro pins s σ H x vs v us Q I rx rv h
 obtain⟨l,xs,y,rfl,rfl,hH,hy,q⟩:=h
 cases rx
 have hus:=rv.zero
 subst hus
 obtain⟨z,its,n,r,hl,e⟩:=I.lstM hH
 obtain⟨u,hu,ru⟩:=r.get hy
 have hy':its.toArray[its.toArray.size-1]? =some u:=by
  show its.toArray[its.length-1]? =some u
  rw[<-getElem?_toList,<-hl]
  exact hu
 refine call_meets F.slot_list_pop ⟨_,e,rfl⟩ F.entry_list_pop (F.args_list_pop_1 _) (MeetsSeq.list_pop_last l its.toArray n u hy' (by rw[size_toArray];omega)) ⟨e,?_⟩
 refine⟨y,_,I.lset (its':=its.dropLast) hH e ?_ r.dropLast ?_,ru,q⟩
 .show its.toArray.eraseIdxIfInBounds (its.toArray.size-1)=its.dropLast.toArray
  rw[size_toArray,List.eraseIdxIfInBounds_toArray,BC]
 .rw[List.length_dropLast]
  omega
theorem QF(xs:List α)(k:Nat):(replicate k xs).flatten.length=k*xs.length:=by
 induction k with
 |zero=>simp
 |succ k ih=>rw[replicate_succ,flatten_cons,length_append,ih,Nat.succ_mul,Nat.add_comm]
section
variable {prog:Program}{w:World}{E:Value->Shared->Prop}
end
end L2
namespace Att
open PySem PySem.W PySem.Calls PyProof.Rows
variable{P:Params}
theorem Lq{h:Heap}:∀ (ns:List Int) (vs:List Value),WellAll P h vs (ns.map WData.int)->IntsAre vs ns:=by
 intro ns
 induction ns with
 |nil=>
  intro vs w
  rw[map_nil]at w
  cases w
  exact .nil
 |cons n ns ih=>
  intro vs w
  rw[map_cons]at w
  cases w with
  |cons a b=>
   cases a
   exact .cons _ _ (ih _ b)
variable{l:OpenLaw}{n:Nat}
theorem SJ(hn:l.most=some n){h:Heap}{args:List WData}{vals:List Value}(hpre:l.row.toRowW.claim.pre args=true)(hwl:WellAll P h vals args):
  ∃ a vs ns,vals= [Value.ref a]/\args= [WData.list (ns.map WData.int)]/\h.get? a=some {cls:=.type "list",data:=.seq vs.toArray}/\IntsAre vs ns/\ns.length<=n:=by
 have hsh:WShape.hasAll [] args [.list .int]=true:=(pre_splitW hpre).1
 have hc:l.pre.holds [] {args:=args}=true:=(pre_splitW hpre).2
 obtain⟨d,r,rfl,h1,h2⟩:=hasAllW_cons hsh
 obtain rfl:=hasAllW_nil h2
 obtain⟨xs,rfl,h3⟩:=hasW_list h1
 obtain⟨ns,rfl⟩:=items_int h3
 have hlen:ns.length<=n:=by
  unfold OpenLaw.pre at hc
  have h4:(WTm.not (.lt (.lit (.int (n:Int))) (.len (.arg 0)))).holds [] {args:= [.list (ns.map .int)]}=true:=by
   have h4:=(holds_andW hc).1
   rw[hn]at h4
   exact h4
  have h5:=condW_of h4 (w_not (w_lt w_lit (w_len_list (w_arg rfl))))
  rw[length_map]at h5
  refine Nat.le_of_not_lt λq=>?_
  have q':(n:Int)<((ns.length:Nat):Int):=by omega
  first
   |(rw[decide_eq_true q']at h5;exact absurd h5 (by decide))
   |(simp at h5;omega)
 cases hwl with
 |cons w1 w2=>
  cases w2
  cases w1 with
  |list ho hall=>exact⟨_,_,ns,rfl,rfl,ho,Lq ns _ hall,hlen⟩
theorem MJ(l:OpenLaw)(args:List WData):l.row.toRowW.claim.post args (.bool true) args=true:=
 postW_of (r:=l.row.toRowW) (X:=(true==true))
  (show WShape.has [] (.bool true) .bool=true by first|rfl|decide|simp[WShape.has,WShape.arms,WShape.armsAll])
  (show(WTm.eq .res (.lit (.bool true))).value [] {args:=args,res:=some (.bool true),after:=args}=some (.bool (true==true)) from w_eq_bool (w_res rfl) w_lit) rfl
theorem attach_call{q:Program}{loose:List Str}{XP:(Str->Option Value)->Heap->Prop}{YP:World->Heap->Prop}{d:DefRec}(hn:l.most=some n)(hdf:d.params.defaults= [])(call:∀ (w:World) (s₀ s₁:Shared) (mg mb:Str->Option Value) (fa:Addr) (o:Obj) (pm cd doc:Value) (a:Addr) (vs:List Value) (ns:List Int),
   Ground q loose [] XP w s₀ mg mb s₁.heap->YP w s₁.heap->
   s₁.heap.get? fa=some o->o.data=.func (docDef d.name d.params d.body d.scope pm cd doc)->s₁.heap.CodeRec cd d.name->mg d.name=some (.ref fa)->
   s₁.heap.get? a=some {cls:=.type "list",data:=.seq vs.toArray}->IntsAre vs ns->ns.length<=n->s₁.gens= #[]->
   codeAny (model l.prog w) callerA (.call (.ref fa) ⟨[.ref a],[]⟩) (λr s'=>r=.ok (.ret (.bool true))/\OldK s₁.heap s'.heap/\s'.os=s₁.os/\AllBare s'.gens) s₁):
  WalkO q loose XP YP l.row.toRowW d [] (λf vs=>PySem.call f vs):=by
 intro w s₀ s₁ mg mb G Y fa o pm cd doc dV kV ho hd hcd hD hmg hg args vals as hpre hlay hrd hwl hlo
 obtain rfl:dV=.none:=Dflts.none hD hdf
 obtain rfl:kV=.none:=Dflts.noKw hD
 obtain⟨a,vs,ns,rfl,rfl,hobj,hints,hlen⟩:=SJ hn hpre hwl
 refine enter_call (codeAny_mono (call w s₀ s₁ mg mb fa o pm cd doc a vs ns G Y ho (fd_plain hd) hcd hmg hobj hints hlen hg) λr s' hq=>?_)
 obtain⟨rfl,h2,h3,h4⟩:=hq
 exact⟨.inl ⟨.bool true,.bool true,[],rfl,λ_=>rfl,.bool true,MJ l _,λ_=>⟨Pairwise.nil,λ_ hm=>(nomatch hm)⟩⟩,h2,h3,h4⟩
section
variable {prog:Program}{w:World}{A:Around}{E:Value->Shared->Prop}{s:Shared}{K:Frag}
end
end Att
namespace L2
open PySem PySem.Spec PyProof.Rows
theorem vals_ints:∀ {vs:List Value} {ns:List Int},IntsAre vs ns->Vals (ns.map V.int) vs
 |_,_,.nil=>.nil
 |_,_,.cons n t h=>.cons ⟨t,rfl⟩ (vals_ints h)
def JZ(H:Hp):Prop:=∀ b,H b=none\/∃ o xs,H b=some (.frz o (.lst xs))
variable{k:Nat}{x:Str}
theorem TN{P:Program}{w:World}{K:Frag}{mg mb:Str->Option Value}{CX:Zv}{fa a:Addr}{fd:FuncData}{sp:Sp}{s₁:Shared}{vs:List Value}{ns:List Int}(KX:K.In s₁.heap)(hns:s₁.heap.Ns mainGlobals mg)(hb:s₁.heap.Ns builtinsNs mb)(hbb:∀ x:Str,x≠"__name__"->mb x=bootBuiltins x)(hlim:s₁.heap.NoLimit)(hg:s₁.gens= #[])(ha:s₁.heap.get? a=some {cls:=.type "list",data:=.seq vs.toArray})(hi:IntsAre vs ns)(hl:ns.length<=sizeLine)(hr:Room k callerA)(F:∀ base:Heap,K.In base->base.Ns mainGlobals mg->FnOk P w K mg base CX k fa fd [x] sp)(hbind:∀ (s:Shared) (u:Value),BindsTo s fd ⟨[u],[]⟩ [(x,u)])(hsp:∀ H:Hp,JZ H->SqL K H a (ns.map V.int)->sp [.ref a] H (λv _=>v=.bl true) λ_ _ _=>False)(hCX:∀ H e s',CX [] H s₁ (λ_ _ _=>False) e s'->False):
  codeAny (model P w) callerA (.call (.ref fa) ⟨[.ref a],[]⟩) (λr s'=>r=.ok (.ret (.bool true))/\OldK s₁.heap s'.heap/\s'.os=s₁.os/\AllBare s'.gens) s₁:=by
 have rv:=vals_ints hi
 have lenV:=hi.length
 have core:∀ H:Hp,JZ H->SqL K H a (ns.map V.int)->HOk P w H s₁.heap->(∀ b,H b≠none->b=a)->(H a≠none->K.lookup a=none)->
   codeAny (model P w) callerA (.call (.ref fa) ⟨[.ref a],[]⟩) (λr s'=>r=.ok (.ret (.bool true))/\OldK s₁.heap s'.heap/\s'.os=s₁.os/\AllBare s'.gens) s₁:=by
  intro H hO hS hok hA hK
  have base_of:∀ {b:Addr} {o:Obj},s₁.heap.get? b=some o->H b=none->(Nw s₁.heap H).get? b=some o:=λe n=>MM e n
  have noA:∀ {b:Addr} {o:Obj} {es:Array DictEntry} {ep:Nat},s₁.heap.get? b=some o->o.data=.dict es ep->H b=none:=λ{b o es ep} e d=>by
   cases q:H b with
   |none=>rfl
   |some u=>
    have e':b=a:=hA b (by rw[q];simp)
    subst e'
    rw[ha]at e;cases e
    have d':Data.seq vs.toArray _=Data.dict es ep:=d
    cases d'
  have nsK:∀ {b:Addr} {m:Str->Option Value},s₁.heap.Ns b m->(Nw s₁.heap H).Ns b m:=λ{b m} ⟨o,es,ep,e,d,r⟩=>⟨o,es,ep,base_of e (noA e d),d,r⟩
  have hKb:K.In (Nw s₁.heap H):=λb o e=>base_of (KX b o e) (by
   cases q:H b with
   |none=>rfl
   |some u=>
    have e':b=a:=hA b (by rw[q];simp)
    subst e'
    rw[hK (by rw[q];simp)]at e;cases e)
  have hM:Mod K mg (Nw s₁.heap H):=⟨hKb,nsK hns,⟨mb,nsK hb,hbb⟩,let ⟨mc,h1,h2⟩:=hlim;⟨mc,nsK h1,h2⟩⟩
  have e0:Env0 P w K mg (Nw s₁.heap H) callerA [] s₁ H:=⟨rfl,hM,λb o e=>JV e,Nat.le_of_eq (KI _ _),trivial,λb hb=>absurd (show b∈([]:List Addr) from hb) (by simp),hok,.of_eq hg⟩
  refine codeAny_mono ((F _ hKb (nsK hns)).run callerA [] s₁ H ⟨[.ref a],[]⟩ [.ref a] [.ref a] _ _ hr e0 (hbind s₁ (.ref a)) (.cons rfl .nil) (hsp H hO hS)) λr s' h=>?_
  cases r with
  |error e=>exact(hCX H e s' h).elim
  |ok fl=>
   cases fl with
   |next=>exact False.elim h
   |brk=>exact False.elim h
   |cont=>exact False.elim h
   |ret u=>
    obtain⟨v,H',os,bare,un,hok',r',q⟩:=h
    have q':v=.bl true:=q
    subst q'
    obtain rfl:u=Value.bool true:=r'
    refine⟨rfl,OldK.of_keep λb o e=>?_,os,bare⟩
    cases q:H b with
    |none=>exact un.keep b o e q (by intro z;exact absurd (show b∈([]:List Addr) from z) (by simp)) (by simp)
    |some u=>
     rcases hO b with z|⟨ob,xs,z⟩
     .rw[q]at z;cases z
     .have z2:=un.frzs b ob _ z
      obtain⟨e1,_⟩:=hok b _ z
      obtain⟨e2,_⟩:=hok' b _ z2
      rw[e]at e1;cases e1
      exact e2
 cases hk:K.lookup a with
 |some o=>
  have e:=KX a o hk
  rw[ha]at e
  cases e
  refine core (λ_=>none) (λ_=>.inl rfl) (.inr ⟨_,vs.toArray,_,hk,rfl,rfl,rfl,by rw[size_toArray,lenV];exact hl,by simpa using rv⟩) (λb u z=>by have z':(none:Option HO)=some u:=z;cases z') (λb z=>absurd rfl z) λz=>absurd rfl z
 |none=>
  refine core (λb=>if b=a then some (.frz {cls:=.type "list",data:=.seq vs.toArray} (.lst (ns.map V.int))) else none) (λb=>?_) (.inl (.inr ⟨{cls:=.type "list",data:=.seq vs.toArray},if_pos rfl⟩)) (λb u z=>?_) (λb z=>?_) λ_=>hk
  .by_cases hb:b=a
   .exact .inr ⟨_,_,if_pos hb⟩
   .exact .inl (if_neg hb)
  .by_cases hb:b=a
   .have z':=(if_pos hb).symm.trans z
    cases z'
    subst hb
    exact⟨ha,by rw[length_map];exact hl,vs,_,rv,ha⟩
   .have z':=(if_neg hb).symm.trans z
    cases z'
  .by_cases hb:b=a
   .exact hb
   .exact absurd (if_neg hb) z
theorem walk_of{l:PySem.W.OpenLaw}{n:Nat}{q:Program}{loose:List Str}{XP:(Str->Option Value)->Heap->Prop}{YP:World->Heap->Prop}{d:DefRec}{K:Params->Frag}{CX:World->Zv}{sp:World->Sp}(hn:l.most=some n)(hn2:n<=sizeLine)(hdf:d.params.defaults= [])(hr:Room k callerA)(hY:∀ (w:World) (h:Heap),YP w h->(K w.params).In h)(F:∀ (w:World) (mg:Str->Option Value) (fa:Addr) (h:Heap),(K w.params).In h->h.Ns mainGlobals mg->mg d.name=some (.ref fa)->
   ∃ fd:FuncData,(∀ (s:Shared) (u:Value),BindsTo s fd ⟨[u],[]⟩ [(x,u)])/\
    ∀ base:Heap,(K w.params).In base->base.Ns mainGlobals mg->FnOk l.prog w (K w.params) mg base (CX w) k fa fd [x] (sp w))(hsp:∀ (w:World) (H:Hp) (a:Addr) (ns:List Int),ns.length<=n->JZ H->SqL (K w.params) H a (ns.map V.int)->sp w [.ref a] H (λv _=>v=.bl true) λ_ _ _=>False)(hCX:∀ (w:World) (H:Hp) (s:Shared) (e:Value) (s':Shared),CX w [] H s (λ_ _ _=>False) e s'->False):
  PySem.W.WalkO q loose XP YP l.row.toRowW d [] (λf vs=>PySem.call f vs):=by
 refine Att.attach_call hn hdf λw s₀ s₁ mg mb fa o pm cd doc a vs ns G Y ho hd hcd hmg hobj hints hlen hg=>?_
 have KX:=hY w _ Y
 obtain⟨fd,hb,hF⟩:=F w mg fa _ KX G.T.g hmg
 exact TN KX G.T.g G.T.b G.T.builtins G.T.nolimit hg hobj hints (le_trans hlen hn2) hr hF hb (λH hO hS=>hsp w H a ns hlen hO hS) λH e s'=>hCX w H s₁ e s'
end L2
/- THE LAST THEOREM (shape; LID, My.* are yours):
   My.Adr: a structure of the addresses that your layer names (classes, functions); My.Txt K t: a structure (Prop) of the equations over K;
   My.txt_mk : {K} {implicit addresses ..} (e1 : nsIn K mainGlobals "law" = some (some (.ref f))) (e2 : K.lookup f = some ⟨oc, od,.func (fnOf "law" "law" params body scope dV kV doc pm an cdv ct), sl⟩) (e3 : codeIn K cdv "law" = true) .. : ∃ t, My.Txt K t
(the tactic k_is has no namespace: write k_is) -/
namespace L2
open PySem PySem.Spec PyProof.Rows
def Qw(s:Stmt)(j:Nat):Stmt:=match s with
 | .ClassDef _ _ _ body _ _ _ _ _ _ _=>body.getD j (.Pass ⟨0,0,0,0⟩)
 |_=>.Pass ⟨0,0,0,0⟩
def Nb(s:Stmt):Arguments:=match s with
 | .FunctionDef _ a _ _ _ _ _ _ _ _=>a
 |_=> {posonlyargs:= [],args:= [],vararg:=none,kwonlyargs:= [],kw_defaults:= [],kwarg:=none,defaults:= []}
def Fb(s:Stmt):List Stmt:=match s with
 | .FunctionDef _ _ b _ _ _ _ _ _ _=>b
 |_=> []
def Da(s:Stmt):Scope:=match s with
 | .FunctionDef _ _ _ _ _ _ sc _ _ _=>sc
 |_=> {kind:=.function,names:= [],isGenerator:=false,isCoroutine:=false}
abbrev Po:Zv:=λ_ _ _ _ _ _=>False
abbrev E0:XK:=λ_ _ _=>False
variable{X:Cx}
theorem UY:Xm Po X E0:=λ_ _ _ _ _ _ _ h=>h.elim
structure Fun(K:Frag)(x qual:Str)(st:Stmt)(f:Addr)(fd:FuncData):Prop where
 ex:∃ (oc:Value) (od:Option Addr) (kV doc pm:Value) (an:Option Addr) (cdv ct:Value) (osl:Array (Option Value)),
  fd=fnOf x qual (Nb st) (Fb st) (Da st) .none kV doc pm an cdv ct/\K.lookup f=some ⟨oc,od,.func fd,osl⟩/\codeIn K cdv qual=true
 kp:keepIn K (.ref f)=true
variable{x qual:Str}{st:Stmt}{f:Addr}{fd:FuncData}{ps:List Str}
section
variable {P:Program}{w:World}{K:Frag}{mg:Str->Option Value}{base:Heap}
theorem Fun.ok{N:List Str}{k:Nat}{sp:Sp}(F:Fun K x qual st f fd)(S:FnScope N ps (Da st))(len:∀ vs H Q E,sp vs H Q E->vs.length=ps.length)(hbody:∀ (cdv:Value) (A:Around) (outer:List Env) (s:Shared) (H:Hp) (vs:List V) (Q:VK) (E:XK),Room k (A.deeper (envOfC qual (Da st) s.heap.objs.size f cdv))->sp vs H Q E->
   ∃ t,PSs (Kk Po P w K mg base N qual (Da st) f cdv A outer s H E).nox (Fb st) t/\t {nx:=λ_ H'=>Q .non H',rt:=Q} (start N vs) H):FnOk P w K mg base Po (k+1) f fd ps sp:=by
 obtain⟨oc,od,kV,doc,pm,an,cdv,ct,osl,rfl,lk,hcd⟩:=F.ex
 refine CM lk hcd S len λA outer s H vs Q E hr hsp=>?_
 obtain⟨t,h,q⟩:=hbody cdv A outer s H vs Q E hr hsp
 exact⟨t,h.nox,q⟩
theorem Fun.binds(F:Fun K x qual st f fd)(h:∀ (kV doc pm:Value) (an:Option Addr) (cdv ct:Value) (us:List Value),us.length=ps.length->bindArgs (fnOf x qual (Nb st) (Fb st) (Da st) .none kV doc pm an cdv ct) ⟨us,[]⟩=pure (ps.zip us)):Binds K fd ps []:=by
 obtain⟨oc,od,kV,doc,pm,an,cdv,ct,osl,rfl,lk,hcd⟩:=F.ex
 exact .all (h kV doc pm an cdv ct)
theorem Dc{oc:Value}{od an:Option Addr}{osl:Array (Option Value)}{kV doc pm cdv ct:Value}(l:K.lookup f=some ⟨oc,od,.func (fnOf x qual (Nb st) (Fb st) (Da st) .none kV doc pm an cdv ct),osl⟩)(c:codeIn K cdv qual=true)(k:keepIn K (.ref f)=true):Fun K x qual st f (fnOf x qual (Nb st) (Fb st) (Da st) .none kV doc pm an cdv ct):=⟨⟨oc,od,kV,doc,pm,an,cdv,ct,osl,rfl,l,c⟩,k⟩
end
theorem pv(i:Nat){pos:Pos}(hN:X.N[i]? =some x:=by rfl)(hv:Kq X.env.scope x:=by first|exact Or.inl rfl|exact Or.inr (Or.inl rfl)|exact Or.inr (Or.inr rfl))(hd:(x==("__debug__":Str))=false:=by decide)(hcd:(x==("__classdict__":Str))=false:=by decide):PE X (.Name x pos) (M9 i):=Zc hN hv hd hcd
def Same(H H':Hp):Prop:=∀ b o,H b=some o->H' b=some o
theorem Same.refl(H:Hp):Same H H:=λ_ _ h=>h
variable{H:Hp}
theorem Same.trans{H1 H2:Hp}(a:Same H H1)(b:Same H1 H2):Same H H2:=λc o h=>b c o (a c o h)
theorem Same.free{H':Hp}(e:Same H H'){l:Addr}(h:H' l=Option.none):H l=Option.none:=by
 cases q:H l with
 |none=>rfl
 |some o=>
  rw[e l o q]at h
  cases h
end L2
set_option maxHeartbeats 4000000
namespace L3
open PySem PySem.Spec PyProof.Rows L2
inductive D where
 |non|bl (b:Bool)|int (i:Int)|str (x:Str)|tup (ds:List D)|lst (ds:List D)|dct (ks:List Cb) (ds:List D)|exc (c:Str) (ds:List D)|obj (c:Str) (ks:List Str) (ds:List D)
inductive Res(α:Type) where
 |ok (a:α)|ex (c:Str) (fs:List D)|stuck
variable{α β:Type}
def Res.bind(r:Res α)(k:α->Res β):Res β:=match r with
 | .ok a=>k a
 | .ex c fs=>.ex c fs
 | .stuck=>.stuck
theorem Res.bind_ok(a:α)(k:α->Res β):(Res.ok a).bind k=k a:=rfl
inductive S where
 |d (x:D)|o (ds:List D)|q (ks:List Cb) (ds:List D)
def Ow:S->Prop
 | .d _=>False
 |_=>True
def HB:HO->Prop
 | .lst _=>True
 | .dK _=>True
 | .ins _ _ _=>True
 |_=>False
abbrev Ca:=List (Option S)
abbrev Dx:=Option Addr×Bool
def Sg(a:Addr)(C:Value)(dx:Dx):Heap->Prop:=λh=>∃ o vs,h.get? a=some o/\o.cls=C/\o.dict=dx.1/\o.data=.fields vs/\(dx.2=true->vs[2]? =some .none)
def FQ:D->Option V
 | .non=>some .non
 | .bl b=>some (.bl b)
 | .int i=>some (.int i)
 | .str x=>some (.str x)
 |_=>none
def ExV(H:Hp)(x:D)(v:V):Prop:=FQ x=some v\/∃ ds a o xs,x=.lst ds/\v=.ref a/\H a=some (.frz o (.lst xs))/\ds.map FQ=xs.map some
def ExVs(H:Hp):List D->List V->Prop
 | [],[]=>True
 |x::ds,v::vs=>ExV H x v/\ExVs H ds vs
 |_,_=>False
def ExD(H:Hp)(dx:Option Addr)(ns vs:List D):Prop:=∃ d kvs,dx=some d/\H d=some (.xd kvs)/\ns=kvs.map (λp=>D.str p.1)/\ExVs H vs (kvs.map (·.2))
def ExF0(H:Hp)(dx:Dx):List D->Prop
 | []=>True
 | .tup ns::vs=>ExD H dx.1 ns vs
 |_=>False
def ExF(H:Hp)(dx:Dx):List D->Prop
 | .non::fs=>ExF0 H dx fs
 |fs=>dx.2=true/\ExF0 H dx fs
variable{H H':Hp}
theorem ExVs.to(k:∀ b o u,H b=some (.frz o u)->H' b=some (.frz o u)):∀ {ds:List D} {vs:List V},ExVs H ds vs->ExVs H' ds vs
 | [],[],h=>h
 |_::_,_::_,⟨h,t⟩=>⟨by
   rcases h with h|⟨ds,a,o,xs,e1,e2,e3,e4⟩
   .exact .inl h
   .exact .inr ⟨ds,a,o,xs,e1,e2,k _ _ _ e3,e4⟩,t.to k⟩
 | [],_::_,h=>h.elim
 |_::_,[],h=>h.elim
theorem ExD.to{dx:Option Addr}{ns vs:List D}(k:∀ b o u,H b=some (.frz o u)->H' b=some (.frz o u))(k2:∀ b kvs,H b=some (.xd kvs)->H' b=some (.xd kvs))(h:ExD H dx ns vs):ExD H' dx ns vs:=
 let ⟨d,kvs,e1,e2,e3,e4⟩:=h
 ⟨d,kvs,e1,k2 _ _ e2,e3,e4.to k⟩
variable{dx:Dx}
theorem ExF0.to(k:∀ b o u,H b=some (.frz o u)->H' b=some (.frz o u))(k2:∀ b kvs,H b=some (.xd kvs)->H' b=some (.xd kvs)){fs:List D}(h:ExF0 H dx fs):ExF0 H' dx fs:=by
 cases fs with
 |nil=>trivial
 |cons y vs=>
  cases y with
  |tup ns=>exact ExD.to k k2 h
  |_=>exact h.elim
theorem ExF.to(k:∀ b o u,H b=some (.frz o u)->H' b=some (.frz o u))(k2:∀ b kvs,H b=some (.xd kvs)->H' b=some (.xd kvs)){fs:List D}(h:ExF H dx fs):ExF H' dx fs:=by
 cases fs with
 |nil=>exact h
 |cons y vs=>
  cases y with
  |non=>exact ExF0.to (fs:=vs) k k2 h
  |tup ns=>exact⟨h.1,ExF0.to (fs:=.tup ns::vs) k k2 h.2⟩
  |_=>exact h.2.elim
abbrev WS:=Addr->Prop
section
variable (K:Frag)(W:WS)(H:Hp)
def LR(a:Addr)(xs:List V):Prop:=(H a=some (.lst xs)/\¬ W a)\/((∃ o,H a=some (.frz o (.lst xs)))\/∃ (o:Obj) (its:Array Value) (n:Nat),K.lookup a=some o/\o.cls=.type "list"/\o.dict=none/\o.data=.seq its n/\its.size<=sizeLine/\Vals xs its.toList)
mutual
def Has:D->V->Prop
 | .non,v=>v=.non
 | .bl b,v=>v=.bl b
 | .int i,v=>v=.int i
 | .str x,v=>v=.str x
 | .tup ds,v=>∃ a xs,v=.ref a/\SqT K H a xs/\HasL ds xs
 | .lst ds,v=>∃ a xs,v=.ref a/\LR K W H a xs/\HasL ds xs
 | .dct ks ds,v=>∃ a kvs,v=.ref a/\(∃ o,H a=some (.frz o (.dK kvs)))/\kvs.map (·.1)=ks/\HasL ds (kvs.map (·.2))
 | .exc c fs,v=>∃ a C dx,v=.ref a/\nsIn K mainGlobals c=some (some C)/\H a=some (.ext (Sg a C dx))/\ExF H dx fs
 | .obj c ks ds,v=>∃ a C dx fs,v=.ref a/\nsIn K mainGlobals c=some (some (.ref C))/\H a=some (.ins C dx fs)/\¬ W a/\fs.map (·.1)=ks/\HasL ds (fs.map (·.2))
def HasL:List D->List V->Prop
 | [],xs=>xs= []
 |d::ds,xs=>∃ x r,xs=x::r/\Has d x/\HasL ds r
end
end
variable{K:Frag}{W:WS}{a:Addr}{xs:List V}
theorem LR.sq(h:LR K W H a xs):SqL K H a xs:=by
 rcases h with⟨h,_⟩|⟨o,h⟩|h
 .exact .inl (.inl h)
 .exact .inl (.inr ⟨o,h⟩)
 .exact .inr h
def Mj(W:WS)(H H':Hp):Prop:=∀ b o,H b=some o->¬ W b->H' b=some o
def WL(W:WS)(H:Hp):Prop:=∀ b,W b->∃ o,H b=some o/\HB o
theorem Same.keep(h:Same H H'):Mj W H H':=λb o e _=>h b o e
theorem Et(k:Mj W H H')(w:WL W H)(h:SqT K H a xs):SqT K H' a xs:=by
 have nw:∀ o,H a=some o->¬ HB o->¬ W a:=λo e n z=>by
  obtain⟨o',e',m⟩:=w a z
  rw[e]at e'
  cases e'
  exact n m
 rcases h with(h|⟨o,h⟩)|h
 .exact .inl (.inl (k _ _ h (nw _ h λz=>z)))
 .exact .inl (.inr ⟨o,k _ _ h (nw _ h λz=>z)⟩)
 .exact .inr h
variable{W':WS}
theorem LR.keep(k:Mj W H H')(w:WL W H)(hw:∀ b,W' b->W b\/H b=none)(h:LR K W H a xs):LR K W' H' a xs:=by
 rcases h with⟨h,n⟩|⟨o,h⟩|h
 .refine .inl ⟨k _ _ h n,λz=>?_⟩
  rcases hw a z with z|z
  .exact n z
  .rw[h]at z;cases z
 .refine .inr (.inl ⟨o,k _ _ h λz=>?_⟩)
  obtain⟨o',e',m⟩:=w a z
  rw[h]at e';cases e';exact m
 .exact .inr (.inr h)
section
variable {K:Frag}{W W':WS}{H H':Hp}
mutual
theorem Has.keep(k:Mj W H H')(w:WL W H)(hw:∀ b,W' b->W b\/H b=none):∀ {d:D} {v:V},Has K W H d v->Has K W' H' d v
 | .non,_,h=>by rw[Has]at h ⊢;exact h
 | .bl _,_,h=>by rw[Has]at h ⊢;exact h
 | .int _,_,h=>by rw[Has]at h ⊢;exact h
 | .str _,_,h=>by rw[Has]at h ⊢;exact h
 | .tup ds,_,h=>by
  rw[Has]at h ⊢
  obtain⟨a,xs,e,q,r⟩:=h
  exact⟨a,xs,e,Et k w q,HasL.keep k w hw r⟩
 | .lst ds,_,h=>by
  rw[Has]at h ⊢
  obtain⟨a,xs,e,q,r⟩:=h
  exact⟨a,xs,e,q.keep k w hw,HasL.keep k w hw r⟩
 | .dct ks ds,_,h=>by
  rw[Has]at h ⊢
  obtain⟨a,kvs,e,⟨o,q⟩,m,r⟩:=h
  refine⟨a,kvs,e,⟨o,k _ _ q λz=>?_⟩,m,HasL.keep k w hw r⟩
  obtain⟨o',e',m'⟩:=w a z
  rw[q]at e';cases e';exact m'
 | .exc _ _,_,h=>by
  rw[Has]at h ⊢
  obtain⟨a,C,dx,e,n,q,f⟩:=h
  have nw:∀ b o,H b=some o->¬ HB o->¬ W b:=λb o q n z=>by
   obtain⟨o',e',m'⟩:=w b z
   rw[q]at e';cases e';exact n m'
  exact⟨a,C,dx,e,n,k _ _ q (nw _ _ q λz=>z),f.to (λb o u q=>k _ _ q (nw _ _ q λz=>z)) λb kvs q=>k _ _ q (nw _ _ q λz=>z)⟩
 | .obj _ _ ds,_,h=>by
  rw[Has]at h ⊢
  obtain⟨a,C,dx,fs,e,n,q,nw,m,r⟩:=h
  refine⟨a,C,dx,fs,e,n,k _ _ q nw,λz=>?_,m,HasL.keep k w hw r⟩
  rcases hw a z with z|z
  .exact nw z
  .rw[q]at z;cases z
theorem HasL.keep(k:Mj W H H')(w:WL W H)(hw:∀ b,W' b->W b\/H b=none):∀ {ds:List D} {xs:List V},HasL K W H ds xs->HasL K W' H' ds xs
 | [],_,h=>by rw[HasL]at h ⊢;exact h
 |d::ds,_,h=>by
  rw[HasL]at h ⊢
  obtain⟨x,r,e,q,t⟩:=h
  exact⟨x,r,e,Has.keep k w hw q,HasL.keep k w hw t⟩
end
theorem Has.same{d:D}{v:V}(h:Has K W H d v)(k:Same H H')(w:WL W H):Has K W H' d v:=Has.keep (Same.keep k) w (λ_ z=>.inl z) h
theorem HasL.same{d:List D}{v:List V}(h:HasL K W H d v)(k:Same H H')(w:WL W H):HasL K W H' d v:=HasL.keep (Same.keep k) w (λ_ z=>.inl z) h
theorem HasL.length:∀ {ds:List D} {xs:List V},HasL K W H ds xs->ds.length=xs.length
 | [],_,h=>by rw[HasL]at h;rw[h];rfl
 |d::ds,_,h=>by
  rw[HasL]at h
  obtain⟨x,r,e,q,t⟩:=h
  rw[e,List.length_cons,List.length_cons,HasL.length t]
theorem HasL.get:∀ {ds:List D} {xs:List V} {i:Nat} {d:D},HasL K W H ds xs->ds[i]? =some d->∃ x,xs[i]? =some x/\Has K W H d x
 | [],_,_,_,_,e=>by simp at e
 |d::ds,_,0,_,h,e=>by
  rw[HasL]at h
  obtain⟨x,r,rfl,q,t⟩:=h
  simp at e;subst e
  exact⟨x,rfl,q⟩
 |d::ds,_,i+1,_,h,e=>by
  rw[HasL]at h
  obtain⟨x,r,rfl,q,t⟩:=h
  obtain⟨y,h1,h2⟩:=HasL.get (i:=i) t (by simpa using e)
  exact⟨y,by simpa using h1,h2⟩
theorem HasL.nil:HasL K W H [] []:=by rw[HasL]
theorem HasL.cons{d:D}{ds:List D}{x:V}{xs:List V}(h:Has K W H d x)(t:HasL K W H ds xs):HasL K W H (d::ds) (x::xs):=by rw[HasL];exact⟨x,xs,rfl,h,t⟩
theorem HasL.append:∀ {ds es:List D} {xs ys:List V},HasL K W H ds xs->HasL K W H es ys->HasL K W H (ds++es) (xs++ys)
 | [],_,_,_,h,t=>by rw[HasL]at h;subst h;exact t
 |d::ds,_,_,_,h,t=>by
  rw[HasL]at h
  obtain⟨x,r,rfl,q,s⟩:=h
  exact HasL.cons q (HasL.append s t)
theorem HasL.take:∀ {ds:List D} {xs:List V} (n:Nat),HasL K W H ds xs->HasL K W H (ds.take n) (xs.take n)
 | [],_,n,h=>by rw[HasL]at h;subst h;simp[HasL]
 |d::ds,_,0,h=>by simp[HasL]
 |d::ds,_,n+1,h=>by
  rw[HasL]at h
  obtain⟨x,r,rfl,q,s⟩:=h
  exact HasL.cons q (HasL.take n s)
theorem HasL.drop:∀ {ds:List D} {xs:List V} (n:Nat),HasL K W H ds xs->HasL K W H (ds.drop n) (xs.drop n)
 | [],_,n,h=>by rw[HasL]at h;subst h;simp[HasL]
 |d::ds,_,0,h=>h
 |d::ds,_,n+1,h=>by
  rw[HasL]at h
  obtain⟨x,r,rfl,q,s⟩:=h
  exact HasL.drop n s
theorem HasL.snoc{ds:List D}{xs:List V}{d:D}{x:V}(h:HasL K W H ds xs)(t:Has K W H d x):HasL K W H (ds++ [d]) (xs++ [x]):=h.append (HasL.cons t HasL.nil)
theorem HasL.set:∀ {ds:List D} {xs:List V} (i:Nat) {d:D} {x:V},HasL K W H ds xs->Has K W H d x->HasL K W H (ds.set i d) (xs.set i x)
 | [],_,n,_,_,h,_=>by rw[HasL]at h;subst h;simp[HasL]
 |e::ds,_,0,_,_,h,t=>by
  rw[HasL]at h
  obtain⟨y,r,rfl,q,s⟩:=h
  exact HasL.cons t s
 |e::ds,_,i+1,_,_,h,t=>by
  rw[HasL]at h
  obtain⟨y,r,rfl,q,s⟩:=h
  exact HasL.cons q (HasL.set i s t)
theorem HasL.ints{ns:List Int}:HasL K W H (ns.map D.int) (ns.map V.int):=by
 induction ns with
 |nil=>exact HasL.nil
 |cons n ns ih=>exact HasL.cons (by rw[Has]) ih
end
structure FrOk(W₀:WS)(H₀:Hp)(W:WS)(H:Hp):Prop where
 ext:Same H₀ H
 sub:∀ b,W₀ b->W b
 wl:WL W H
 wl0:WL W₀ H₀
def SlotHas(K:Frag)(W₀:WS)(H₀:Hp)(W:WS)(H:Hp):S->V->Prop
 | .d x,v=>Has K W H x v
 | .o ds,v=>∃ a xs,v=.ref a/\W a/\H₀ a=none/\H a=some (.lst xs)/\HasL K W H ds xs
 | .q ks ds,v=>∃ a kvs,v=.ref a/\W a/\H₀ a=none/\H a=some (.dK kvs)/\kvs.map (·.1)=ks/\HasL K W H ds (kvs.map (·.2))
structure StHas(K:Frag)(W₀:WS)(H₀:Hp)(W:WS)(H:Hp)(σ:L2.St)(δ:Ca):Prop where
 fr:FrOk W₀ H₀ W H
 len:σ.length=δ.length
 at':∀ (i:Nat) (s:S),δ[i]? =some (some s)->∃ v,σ[i]? =some (some v)/\SlotHas K W₀ H₀ W H s v
 ap:∀ (i j:Nat) (s t:S) (a:Addr),i≠j->Ow s->Ow t->δ[i]? =some (some s)->δ[j]? =some (some t)->σ[i]? =some (some (.ref a))->σ[j]? ≠some (some (.ref a))
variable{W₀:WS}{H₀:Hp}{σ:L2.St}{δ:Ca}{s sl so:S}{i:Nat}{x:D}{ob:HO}{ds es:List D}{ys:List V}
theorem WL.same(w:WL W H)(k:Same H H'):WL W H':=λb z=>let ⟨xs,e,m⟩:=w b z;⟨xs,k _ _ e,m⟩
theorem FrOk.same(f:FrOk W₀ H₀ W H)(k:Same H H'):FrOk W₀ H₀ W H':=⟨f.ext.trans k,f.sub,f.wl.same k,f.wl0⟩
theorem SlotHas.same{v:V}(w:WL W H)(k:Same H H')(h:SlotHas K W₀ H₀ W H s v):SlotHas K W₀ H₀ W H' s v:=by
 cases s with
 |d x=>exact Has.same h k w
 |o ds=>
  obtain⟨a,xs,e,h1,h2,h3,h4⟩:=h
  exact⟨a,xs,e,h1,h2,k _ _ h3,h4.same k w⟩
 |q ks ds=>
  obtain⟨a,xs,e,h1,h2,h3,h4,h5⟩:=h
  exact⟨a,xs,e,h1,h2,k _ _ h3,h4,h5.same k w⟩
theorem owo(ds:List D):Ow (.o ds):=trivial
theorem owq(ks:List Cb)(ds:List D):Ow (.q ks ds):=trivial
theorem SlotHas.mv{v:V}(w:WL W H)(kk:Mj W H H')(hw:∀ b,W' b->W b\/H b=none)(hq:∀ b o,v=.ref b->W b->H₀ b=none->H b=some o->HB o->W' b/\H' b=some o)(h:SlotHas K W₀ H₀ W H s v):SlotHas K W₀ H₀ W' H' s v:=by
 cases s with
 |d x=>exact Has.keep kk w hw h
 |o ds=>
  obtain⟨a,xs,e,h1,h2,h3,h4⟩:=h
  obtain⟨g1,g2⟩:=hq a _ e h1 h2 h3 trivial
  exact⟨a,xs,e,g1,h2,g2,HasL.keep kk w hw h4⟩
 |q ks ds=>
  obtain⟨a,xs,e,h1,h2,h3,h4,h5⟩:=h
  obtain⟨g1,g2⟩:=hq a _ e h1 h2 h3 trivial
  exact⟨a,xs,e,g1,h2,g2,h4,HasL.keep kk w hw h5⟩
theorem SlotHas.own{v:V}(h:SlotHas K W₀ H₀ W H s v)(o:Ow s):∃ a ob,v=.ref a/\W a/\H₀ a=none/\H a=some ob/\HB ob:=by
 cases s with
 |d x=>exact o.elim
 |o ds=>
  obtain⟨a,xs,e,h1,h2,h3,h4⟩:=h
  exact⟨a,_,e,h1,h2,h3,trivial⟩
 |q ks ds=>
  obtain⟨a,xs,e,h1,h2,h3,h4,h5⟩:=h
  exact⟨a,_,e,h1,h2,h3,trivial⟩
theorem StHas.same(h:StHas K W₀ H₀ W H σ δ)(k:Same H H'):StHas K W₀ H₀ W H' σ δ:=
 ⟨h.fr.same k,h.len,λi s e=>let ⟨v,h1,h2⟩:=h.at' i s e;⟨v,h1,h2.same h.fr.wl k⟩,h.ap⟩
theorem StHas.set{v:V}(h:StHas K W₀ H₀ W H σ δ)(q:Has K W H x v):StHas K W₀ H₀ W H (σ.set i (some v)) (δ.set i (some (.d x))):=by
 refine⟨h.fr,by simp[h.len],λj s e=>?_,λj k s1 s2 a hjk os ot e1 e2 e3 e4=>?_⟩
 .by_cases hj:i=j
  .subst hj
   rw[getElem?_set_self']at e ⊢
   cases q':δ[i]? with
   |none=>rw[q']at e;cases e
   |some z=>
    rw[q']at e
    have e':some (S.d x)=some s:=Option.some.inj e
    cases e'
    have hi:i<σ.length:=by rw[h.len];exact(List.getElem?_eq_some_iff.mp q').1
    exact⟨v,by rw[getElem?_eq_getElem hi];rfl,q⟩
  .rw[getElem?_set_ne hj]at e ⊢
   exact h.at' j s e
 .have hj:i≠j:=by
   rintro rfl
   rw[getElem?_set_self']at e1
   cases q':δ[i]? with
   |none=>rw[q']at e1;cases e1
   |some z=>rw[q']at e1;cases e1;exact os
  have hk:i≠k:=by
   rintro rfl
   rw[getElem?_set_self']at e2
   cases q':δ[i]? with
   |none=>rw[q']at e2;cases e2
   |some z=>rw[q']at e2;cases e2;exact ot
  rw[getElem?_set_ne hj]at e1 e3
  rw[getElem?_set_ne hk]at e2 e4
  exact h.ap j k s1 s2 a hjk os ot e1 e2 e3 e4
theorem StHas.ownG{W':WS}(h:StHas K W₀ H₀ W H σ δ)(k:Same H H')(ha:H a=none)(ha':H' a=some ob)(mo:HB ob)(q:SlotHas K W₀ H₀ (λb=>W b\/b=a) H' sl (.ref a)):
  StHas K W₀ H₀ (λb=>W b\/b=a) H' (σ.set i (some (.ref a))) (δ.set i (some sl)):=by
 have hw:∀ b,(W b\/b=a)->W b\/H b=none:=λb z=>z.elim .inl λz=>.inr (by rw[z];exact ha)
 have kk:Mj W H H':=Same.keep k
 have fr':FrOk W₀ H₀ (λb=>W b\/b=a) H':=⟨h.fr.ext.trans k,λb z=>.inl (h.fr.sub b z),λb z=>z.elim (h.fr.wl.same k b) λz=>by rw[z];exact⟨ob,ha',mo⟩,h.fr.wl0⟩
 have slot:∀ {s:S} {v:V},SlotHas K W₀ H₀ W H s v->SlotHas K W₀ H₀ (λb=>W b\/b=a) H' s v:=λ{s v} z=>z.mv h.fr.wl kk hw λb o e h1 h2 h3 h4=>⟨.inl h1,k _ _ h3⟩
 have old:∀ (j:Nat) (t:S),Ow t->δ[j]? =some (some t)->σ[j]? ≠some (some (.ref a)):=λj t ot e z=>by
  obtain⟨v,h1,h2⟩:=h.at' j _ e
  obtain⟨b,o,e',_,_,h3,_⟩:=h2.own ot
  rw[h1]at z
  cases z
  cases e'
  rw[ha]at h3;cases h3
 refine⟨fr',by simp[h.len],λj s e=>?_,λj l s1 s2 b hjl os ot e1 e2 e3 e4=>?_⟩
 .by_cases hj:i=j
  .subst hj
   rw[getElem?_set_self']at e ⊢
   cases q':δ[i]? with
   |none=>rw[q']at e;cases e
   |some z=>
    rw[q']at e
    have e':some sl=some s:=Option.some.inj e
    cases e'
    have hi:i<σ.length:=by rw[h.len];exact(List.getElem?_eq_some_iff.mp q').1
    exact⟨.ref a,by rw[getElem?_eq_getElem hi];rfl,q⟩
  .rw[getElem?_set_ne hj]at e ⊢
   obtain⟨v,h1,h2⟩:=h.at' j s e
   exact⟨v,h1,slot h2⟩
 .have get:∀ m:Nat,m≠i->∀ {α:Type} (l:List α) (z:α),(l.set i z)[m]? =l[m]? :=λm hm α l z=>getElem?_set_ne (Ne.symm hm)
  by_cases hj:j=i
  .have hl:l≠i:=λz=>hjl (hj.trans z.symm)
   rw[get l hl]at e2 e4
   have hs:(σ.set i (some (V.ref a)))[j]? =some (some (V.ref a))\/(σ.set i (some (V.ref a)))[j]? =none:=by
    rw[hj,getElem?_set_self']
    cases σ[i]? <;>simp
   rcases hs with hs|hs
   .rw[hs]at e3;cases e3
    exact old l s2 ot e2 e4
   .rw[hs]at e3;cases e3
  .rw[get j hj]at e1 e3
   by_cases hl:l=i
   .have hs:(σ.set i (some (V.ref a)))[l]? =some (some (V.ref a))\/(σ.set i (some (V.ref a)))[l]? =none:=by
     rw[hl,getElem?_set_self']
     cases σ[i]? <;>simp
    rcases hs with hs|hs
    .rw[hs]at e4;cases e4
     exact old j s1 os e1 e3
    .rw[hs]at e4;cases e4
   .rw[get l hl]at e2 e4
    exact h.ap j l s1 s2 b hjl os ot e1 e2 e3 e4
theorem StHas.own(h:StHas K W₀ H₀ W H σ δ)(ha:H a=none)(q:HasL K W H ds xs):
  StHas K W₀ H₀ (λb=>W b\/b=a) (Jb H a (.lst xs)) (σ.set i (some (.ref a))) (δ.set i (some (.o ds))):=by
 have k:Same H (Jb H a (.lst xs)):=λb o e=>by rw[Ha (Pa e ha)];exact e
 exact h.ownG (W':=W) k ha Na trivial ⟨a,xs,rfl,.inr rfl,Same.free h.fr.ext ha,Na,HasL.keep (Same.keep k) h.fr.wl (λb z=>z.elim .inl λz=>.inr (by rw[z];exact ha)) q⟩
theorem StHas.ownQ{ks:List Cb}{kvs:List (Cb×V)}(h:StHas K W₀ H₀ W H σ δ)(ha:H a=none)(e:kvs.map (·.1)=ks)(q:HasL K W H ds (kvs.map (·.2))):
  StHas K W₀ H₀ (λb=>W b\/b=a) (Jb H a (.dK kvs)) (σ.set i (some (.ref a))) (δ.set i (some (.q ks ds))):=by
 have k:Same H (Jb H a (.dK kvs)):=λb o e=>by rw[Ha (Pa e ha)];exact e
 exact h.ownG (W':=W) k ha Na trivial ⟨a,kvs,rfl,.inr rfl,Same.free h.fr.ext ha,Na,e,HasL.keep (Same.keep k) h.fr.wl (λb z=>z.elim .inl λz=>.inr (by rw[z];exact ha)) q⟩
theorem StHas.changeG(h:StHas K W₀ H₀ W H σ δ)(oo:Ow so)(hi:δ[i]? =some (some so))(hs:σ[i]? =some (some (.ref a)))(mo:HB ob)(hW:W a)(q:H₀ a=none->Mj W H (Jb H a ob)->SlotHas K W₀ H₀ W (Jb H a ob) sl (.ref a))(ol:Ow sl):
  StHas K W₀ H₀ W (Jb H a ob) σ (δ.set i (some sl)):=by
 have kk:Mj W H (Jb H a ob):=λb o e n=>by
  rw[Ha (λz=>n (by rw[z];exact hW))];exact e
 have hw:∀ b,W b->W b\/H b=none:=λb z=>.inl z
 obtain⟨v,h1,h2⟩:=h.at' i _ hi
 obtain⟨b,o1,e',_,h0,h3,_⟩:=h2.own oo
 rw[hs]at h1
 cases h1
 cases e'
 have fr':FrOk W₀ H₀ W (Jb H a ob):=⟨λb o e=>by rw[Ha (Pa e h0)];exact h.fr.ext _ _ e,h.fr.sub,λb z=>by
  by_cases hb:b=a
  .rw[hb];exact⟨ob,Na,mo⟩
  .rw[Ha hb];exact h.fr.wl b z,h.fr.wl0⟩
 have hl:i<δ.length:=(List.getElem?_eq_some_iff.mp hi).1
 refine⟨fr',by simp[h.len],λj s e=>?_,λj l s1 s2 b hjl os ot e1 e2 e3 e4=>?_⟩
 .by_cases hj:i=j
  .subst hj
   rw[getElem?_set_self hl]at e
   cases e
   exact⟨.ref a,hs,q h0 kk⟩
  .rw[getElem?_set_ne hj]at e
   obtain⟨v,h1,h2⟩:=h.at' j s e
   refine⟨v,h1,?_⟩
   cases s with
   |d x=>exact Has.keep kk h.fr.wl hw h2
   |o ds=>exact h2.mv h.fr.wl kk hw λb o e1 h1' _ h3' _=>⟨h1',by
     have hb:b≠a:=λz=>by
      subst z;subst e1
      exact h.ap i j _ _ b hj oo (owo ds) hi e hs h1
     rw[Ha hb];exact h3'⟩
   |q ks ds=>exact h2.mv h.fr.wl kk hw λb o e1 h1' _ h3' _=>⟨h1',by
     have hb:b≠a:=λz=>by
      subst z;subst e1
      exact h.ap i j _ _ b hj oo (owq ks ds) hi e hs h1
     rw[Ha hb];exact h3'⟩
 .have own:∀ (m:Nat) (t:S),Ow t->(δ.set i (some sl))[m]? =some (some t)->∃ t',Ow t'/\δ[m]? =some (some t'):=λm t ot e=>by
   by_cases hm:i=m
   .subst hm;exact⟨so,oo,hi⟩
   .rw[getElem?_set_ne hm]at e;exact⟨t,ot,e⟩
  obtain⟨x1,o1,g1⟩:=own j s1 os e1
  obtain⟨x2,o2,g2⟩:=own l s2 ot e2
  exact h.ap j l x1 x2 b hjl o1 o2 g1 g2 e3 e4
theorem StHas.change(h:StHas K W₀ H₀ W H σ δ)(hi:δ[i]? =some (some (.o ds)))(hs:σ[i]? =some (some (.ref a)))(ha:H a=some (.lst xs))(hW:W a)(q:HasL K W H es ys):
  StHas K W₀ H₀ W (Jb H a (.lst ys)) σ (δ.set i (some (.o es))):=
 h.changeG (owo ds) hi hs trivial hW (λh0 kk=>⟨a,ys,rfl,hW,h0,Na,HasL.keep kk h.fr.wl (λb z=>.inl z) q⟩) (owo es)
theorem StHas.changeQ{ks ks':List Cb}{kvs':List (Cb×V)}(h:StHas K W₀ H₀ W H σ δ)(hi:δ[i]? =some (some (.q ks ds)))(hs:σ[i]? =some (some (.ref a)))(hW:W a)(e:kvs'.map (·.1)=ks')(q:HasL K W H es (kvs'.map (·.2))):
  StHas K W₀ H₀ W (Jb H a (.dK kvs')) σ (δ.set i (some (.q ks' es))):=
 h.changeG (owq ks ds) hi hs trivial hW (λh0 kk=>⟨a,kvs',rfl,hW,h0,Na,e,HasL.keep kk h.fr.wl (λb z=>.inl z) q⟩) (owq ks' es)
theorem StHas.freezeG(h:StHas K W₀ H₀ W H σ δ)(oo:Ow so)(hi:δ[i]? =some (some so))(hs:σ[i]? =some (some (.ref a)))(hd:Has K (λb=>W b/\b≠a) H x (.ref a)):StHas K W₀ H₀ (λb=>W b/\b≠a) H σ (δ.set i (some (.d x))):=by
 obtain⟨v,h1,h2⟩:=h.at' i _ hi
 obtain⟨b,o1,e',hW,h0,h3,_⟩:=h2.own oo
 rw[hs]at h1
 cases h1
 cases e'
 have kk:Mj W H H:=λ_ _ e _=>e
 have hw:∀ b,(W b/\b≠a)->W b\/H b=none:=λb z=>.inl z.1
 have hl:i<δ.length:=(List.getElem?_eq_some_iff.mp hi).1
 refine⟨⟨h.fr.ext,λb z=>⟨h.fr.sub b z,λe=>?_⟩,λb z=>h.fr.wl b z.1,h.fr.wl0⟩,by simp[h.len],λj s e=>?_,λj l s1 s2 b hjl os ot e1 e2 e3 e4=>?_⟩
 .subst e
  obtain⟨ys,z',_⟩:=h.fr.wl0 _ z
  rw[h0]at z';cases z'
 .by_cases hj:i=j
  .subst hj
   rw[getElem?_set_self hl]at e
   cases e
   exact⟨.ref a,hs,hd⟩
  .rw[getElem?_set_ne hj]at e
   obtain⟨v,g1,g2⟩:=h.at' j s e
   refine⟨v,g1,?_⟩
   by_cases ow:Ow s
   .exact g2.mv h.fr.wl kk hw λb o e1 h1' _ h3' _=>⟨⟨h1',λz=>by subst z;subst e1;exact h.ap i j _ _ b hj oo ow hi e hs g1⟩,h3'⟩
   .cases s with
    |d x=>exact Has.keep kk h.fr.wl hw g2
    |_=>exact(ow trivial).elim
 .have hj:i≠j:=by
   rintro rfl
   rw[getElem?_set_self hl]at e1;cases e1;exact os
  have hk:i≠l:=by
   rintro rfl
   rw[getElem?_set_self hl]at e2;cases e2;exact ot
  rw[getElem?_set_ne hj]at e1
  rw[getElem?_set_ne hk]at e2
  exact h.ap j l s1 s2 b hjl os ot e1 e2 e3 e4
theorem StHas.freezeH(h:StHas K W₀ H₀ W H σ δ)(oo:Ow so)(hi:δ[i]? =some (some so))(hs:σ[i]? =some (some (.ref a)))(hd:Has K (λb=>W b/\b≠a) (Jb H a ob) x (.ref a)):StHas K W₀ H₀ (λb=>W b/\b≠a) (Jb H a ob) σ (δ.set i (some (.d x))):=by
 obtain⟨v,h1,h2⟩:=h.at' i _ hi
 obtain⟨b,o1,e',hW,h0,h3,_⟩:=h2.own oo
 rw[hs]at h1
 cases h1
 cases e'
 have kk:Mj W H (Jb H a ob):=λb o e n=>by rw[Ha (λz=>n (by rw[z];exact hW))];exact e
 have hw:∀ b,(W b/\b≠a)->W b\/H b=none:=λb z=>.inl z.1
 have hl:i<δ.length:=(List.getElem?_eq_some_iff.mp hi).1
 refine⟨⟨λb o e=>by rw[Ha (Pa e h0)];exact h.fr.ext _ _ e,λb z=>⟨h.fr.sub b z,λe=>?_⟩,λb z=>by rw[Ha z.2];exact h.fr.wl b z.1,h.fr.wl0⟩,by simp[h.len],λj s e=>?_,λj l s1 s2 b hjl os ot e1 e2 e3 e4=>?_⟩
 .subst e
  obtain⟨ys,z',_⟩:=h.fr.wl0 _ z
  rw[h0]at z';cases z'
 .by_cases hj:i=j
  .subst hj
   rw[getElem?_set_self hl]at e
   cases e
   exact⟨.ref a,hs,hd⟩
  .rw[getElem?_set_ne hj]at e
   obtain⟨v,g1,g2⟩:=h.at' j s e
   refine⟨v,g1,?_⟩
   by_cases ow:Ow s
   .exact g2.mv h.fr.wl kk hw λb o e1 h1' _ h3' _=>(λhba=>⟨⟨h1',hba⟩,by rw[Ha hba];exact h3'⟩) (λz=>by subst z;subst e1;exact h.ap i j _ _ b hj oo ow hi e hs g1)
   .cases s with
    |d x=>exact Has.keep kk h.fr.wl hw g2
    |_=>exact(ow trivial).elim
 .have hj:i≠j:=by
   rintro rfl
   rw[getElem?_set_self hl]at e1;cases e1;exact os
  have hk:i≠l:=by
   rintro rfl
   rw[getElem?_set_self hl]at e2;cases e2;exact ot
  rw[getElem?_set_ne hj]at e1
  rw[getElem?_set_ne hk]at e2
  exact h.ap j l s1 s2 b hjl os ot e1 e2 e3 e4
abbrev XW:=Str->List D->Hp->Prop
section
variable (K:Frag)(xw:XW)
def RE(W:WS)(H:Hp)(r:Res D)(Q:VK):Prop:=match r with
 | .ok d=>∀ v H',Same H H'->Has K W H' d v->Q v H'
 | .ex c fs=>∀ H',Same H H'->xw c fs H'
 | .stuck=>False
def HasT(W:WS)(H:Hp)(d:D)(v:V):Prop:=Has K W H d v\/∃ ds a xs,d=.lst ds/\v=.ref a/\H a=some (.lst xs)/\HasL K W H ds xs
def RP(W:WS)(H:Hp)(r:Res D)(Q:VK):Prop:=match r with
 | .ok d=>∀ v H',Same H H'->HasT K W H' d v->Q v H'
 | .ex c fs=>∀ H',Same H H'->xw c fs H'
 | .stuck=>False
def RF(W:WS)(H:Hp)(r:Res (List D))(Q:VK):Prop:=match r with
 | .ok ds=>∀ a xs H1,Same H H1->H1 a=none->HasL K W H1 ds xs->Q (.ref a) (Jb H1 a (.lst xs))
 | .ex c fs=>∀ H',Same H H'->xw c fs H'
 | .stuck=>False
def RT(H:Hp)(r:Res Bool)(Q:Bool->Hp->Prop):Prop:=match r with
 | .ok b=>∀ H',Same H H'->Q b H'
 | .ex c fs=>∀ H',Same H H'->xw c fs H'
 | .stuck=>False
def RA(W:WS)(H:Hp)(r:Res (List D))(Q:List V->Hp->Prop):Prop:=match r with
 | .ok ds=>∀ vs H',Same H H'->HasL K W H' ds vs->Q vs H'
 | .ex c fs=>∀ H',Same H H'->xw c fs H'
 | .stuck=>False
def AZ(f:Ca->Res D):TE:=λσ H Q=>∃ W₀ H₀ W δ,StHas K W₀ H₀ W H σ δ/\RE K xw W H (f δ) Q
def RX(f:Ca->Res D):TE:=λσ H Q=>∃ W₀ H₀ W δ,StHas K W₀ H₀ W H σ δ/\RP K xw W H (f δ) Q
def tDF(f:Ca->Res (List D)):TE:=λσ H Q=>∃ W₀ H₀ W δ,StHas K W₀ H₀ W H σ δ/\RF K xw W H (f δ) Q
def R5(f:Ca->Res Bool):TT:=λσ H Q=>∃ W₀ H₀ W δ,StHas K W₀ H₀ W H σ δ/\RT xw H (f δ) Q
def tDA(f:Ca->Res (List D)):TA:=λσ H Q=>∃ W₀ H₀ W δ,StHas K W₀ H₀ W H σ δ/\RA K xw W H (f δ) Q
end
def DE(X:Cx)(xw:XW)(e:Expr)(f:Ca->Res D):Prop:=PE X e (AZ X.K xw f)
def DP(X:Cx)(xw:XW)(e:Expr)(f:Ca->Res D):Prop:=PE X e (RX X.K xw f)
def DF(X:Cx)(xw:XW)(e:Expr)(f:Ca->Res (List D)):Prop:=PE X e (tDF X.K xw f)
def DT(X:Cx)(xw:XW)(e:Expr)(f:Ca->Res Bool):Prop:=PT X e (R5 X.K xw f)
def DW(X:Cx)(xw:XW)(e:Expr)(f:Ca->Res Bool):Prop:=PW X e (R5 X.K xw f)
def DA(X:Cx)(xw:XW)(es:List Expr)(f:Ca->Res (List D)):Prop:=PA X es (tDA X.K xw f)
variable{X:Cx}{e:Expr}
theorem PE.weak{t t':TE}(h:PE X e t)(k:∀ σ H Q,t' σ H Q->t σ H Q):PE X e t':=λpins s σ H Q I q=>h pins s σ H Q I (k σ H Q q)
variable{t':TT}
theorem PT.weak{t:TT}(h:PT X e t)(k:∀ σ H Q,t' σ H Q->t σ H Q):PT X e t':=λpins s σ H Q I q=>h pins s σ H Q I (k σ H Q q)
theorem PW.weak{t:TT}(h:PW X e t)(k:∀ σ H Q,t' σ H Q->t σ H Q):PW X e t':=λwh pins s σ H Q I q=>h wh pins s σ H Q I (k σ H Q q)
theorem PA.weak{e:List Expr}{t t':TA}(h:PA X e t)(k:∀ σ H Q,t' σ H Q->t σ H Q):PA X e t':=λps pins s σ H Q I q=>h ps pins s σ H Q I (k σ H Q q)
variable{i:Int}{xw:XW}{Q:VK}{d:D}
theorem RE.same{r:Res D}(h:RE K xw W H r Q)(k:Same H H'):RE K xw W H' r Q:=by
 cases r with
 |ok d=>exact λv H2 k2 q=>h v H2 (k.trans k2) q
 |ex c fs=>exact λH2 k2=>h H2 (k.trans k2)
 |stuck=>exact h
theorem RF.same{r:Res (List D)}(h:RF K xw W H r Q)(k:Same H H'):RF K xw W H' r Q:=by
 cases r with
 |ok d=>exact λa xs H1 k1 n q=>h a xs H1 (k.trans k1) n q
 |ex c fs=>exact λH2 k2=>h H2 (k.trans k2)
 |stuck=>exact h
theorem RT.same{r:Res Bool}{Q:Bool->Hp->Prop}(h:RT xw H r Q)(k:Same H H'):RT xw H' r Q:=by
 cases r with
 |ok d=>exact λH2 k2=>h H2 (k.trans k2)
 |ex c fs=>exact λH2 k2=>h H2 (k.trans k2)
 |stuck=>exact h
theorem HasT.same{v:V}(h:HasT K W H d v)(k:Same H H')(w:WL W H):HasT K W H' d v:=by
 rcases h with h|⟨ds,a,xs,h1,h2,h3,h4⟩
 .exact .inl (h.same k w)
 .exact .inr ⟨ds,a,xs,h1,h2,k _ _ h3,h4.same k w⟩
theorem Has.top{v:V}(h:Has K W H d v):HasT K W H d v:=.inl h
theorem HasT.int{v:V}(h:HasT K W H (.int i) v):v=.int i:=by
 rcases h with h|⟨ds,a,xs,h1,_⟩
 .rw[Has]at h;exact h
 .cases h1
theorem HasT.bl{i:Bool}{v:V}(h:HasT K W H (.bl i) v):v=.bl i:=by
 rcases h with h|⟨ds,a,xs,h1,_⟩
 .rw[Has]at h;exact h
 .cases h1
theorem HasT.str{i:Str}{v:V}(h:HasT K W H (.str i) v):v=.str i:=by
 rcases h with h|⟨ds,a,xs,h1,_⟩
 .rw[Has]at h;exact h
 .cases h1
theorem HasT.non{v:V}(h:HasT K W H .non v):v=.non:=by
 rcases h with h|⟨ds,a,xs,h1,_⟩
 .rw[Has]at h;exact h
 .cases h1
theorem HasT.tup{v:V}(h:HasT K W H (.tup ds) v):∃ a xs,v=.ref a/\SqT K H a xs/\HasL K W H ds xs:=by
 rcases h with h|⟨ds,a,xs,h1,_⟩
 .rw[Has]at h;exact h
 .cases h1
theorem HasT.lst{v:V}(h:HasT K W H (.lst ds) v):∃ a xs,v=.ref a/\SqL K H a xs/\HasL K W H ds xs:=by
 rcases h with h|⟨ds,a,xs,h1,h2,h3,h4⟩
 .rw[Has]at h
  obtain⟨a,xs,e,q,r⟩:=h
  exact⟨a,xs,e,q.sq,r⟩
 .cases h1
  exact⟨a,xs,h2,.of h3,h4⟩
def VB(scope:Scope)(env:Env):List (Str×Addr):=scope.names.foldl (λcs y=>if y.2== .free then(match env.cells.lookup y.1 with|some a=>(y.1,a)::cs|none=>cs) else cs) []
variable{env:Env}
theorem AS(names:List (Str×NameKind)):∀ (cs:List (Str×Addr)),(∀ y∈names,y.2=.free->∃ c,env.cells.lookup y.1=some c)->
  (forIn names cs (λ(y:Str×NameKind) (r:List (Str×Addr))=>(do
   if(y.2==NameKind.free)=true then do
    let a <-cellOf env y.1
    pure (ForInStep.yield ((y.1,a)::r))
   else pure (ForInStep.yield r):Sem (ForInStep (List (Str×Addr))))))=(pure (names.foldl (λcs y=>if y.2== .free then(match env.cells.lookup y.1 with|some a=>(y.1,a)::cs|none=>cs) else cs) cs):Sem _):=by
 induction names with
 |nil=>intro cs _;rfl
 |cons y r ih=>
  intro cs h
  have h':∀ y∈r,y.2=.free->∃ c,env.cells.lookup y.1=some c:=λz hz=>h z (mem_cons_of_mem _ hz)
  rw[List.forIn_cons,foldl_cons]
  by_cases hk:y.2=.free
  .obtain⟨c,hc⟩:=h y mem_cons_self hk
   have hb:(y.2==NameKind.free)=true:=by rw[hk];rfl
   simp only[hb,if_true,cellOf,hc,pure_bind]
   exact ih _ h'
  .have hb:(y.2==NameKind.free)=false:=by simpa using hk
   simp only[hb,false_eq_true,if_false,pure_bind]
   exact ih _ h'
variable{scope:Scope}
theorem SE(h:∀ y∈scope.names,y.2=.free->∃ c,env.cells.lookup y.1=some c):closureFor scope env=pure (VB scope env):=by
 unfold closureFor VB
 exact(congrArg (λz=>z >>= λr=>pure r) (AS scope.names [] h)).trans (by simp)
theorem BL(names:List (Str×NameKind)):∀ (cs:List (Str×Addr)),(∀ x c,cs.lookup x=some c->env.cells.lookup x=some c)->
  ∀ x c,(names.foldl (λcs y=>if y.2== .free then(match env.cells.lookup y.1 with|some a=>(y.1,a)::cs|none=>cs) else cs) cs).lookup x=some c->env.cells.lookup x=some c:=by
 induction names with
 |nil=>intro cs h;exact h
 |cons y r ih=>
  intro cs h
  rw[foldl_cons]
  refine ih _ ?_
  split
  .split
   .rename_i a ha
    intro x c e
    rw[lookup_cons]at e
    by_cases hx:x=y.1
    .have:(x==y.1)=true:=by rw[hx];simp
     rw[this]at e
     have e':a=c:=Option.some.inj e
     rw[hx,ha,e']
    .have:(x==y.1)=false:=by simpa using hx
     rw[this]at e
     exact h x c e
   .exact h
  .exact h
theorem Py(names:List (Str×NameKind)):∀ (cs:List (Str×Addr)) (x:Str),((∃ c,cs.lookup x=some c)\/((x,NameKind.free)∈names/\∃ c,env.cells.lookup x=some c))->
  ∃ c,(names.foldl (λcs y=>if y.2== .free then(match env.cells.lookup y.1 with|some a=>(y.1,a)::cs|none=>cs) else cs) cs).lookup x=some c:=by
 induction names with
 |nil=>
  intro cs x h
  rcases h with h|⟨h,_⟩
  .exact h
  .simp at h
 |cons y r ih=>
  intro cs x h
  rw[foldl_cons]
  refine ih _ x ?_
  rcases h with⟨c,h⟩|⟨h,c,hc⟩
  .left
   split
   .split
    .rename_i a ha
     rw[lookup_cons]
     cases hx:x==y.1 with
     |true=>exact⟨a,rfl⟩
     |false=>exact⟨c,h⟩
    .exact⟨c,h⟩
   .exact⟨c,h⟩
  .rcases mem_cons.mp h with h|h
   .left
    subst h
    simp only[beq_self_eq_true,if_true,hc]
    exact⟨c,by rw[lookup_cons];simp⟩
   .exact .inr ⟨h,c,hc⟩
theorem Pm{g:Str->NameKind->NameKind}:∀ (l:List (Str×NameKind)) (x:Str),(l.map λy=>(y.1,g y.1 y.2)).lookup x=(l.lookup x).map (g x)
 | [],_=>rfl
 |y::r,x=>by
  rw[map_cons,lookup_cons,lookup_cons]
  cases hx:x==y.1 with
  |true=>
   have:x=y.1:=by simpa using hx
   rw[this];rfl
  |false=>exact Pm r x
theorem Jf(scope:Scope)(env:Env)(x:Str):(relabel scope env).names.lookup x=(scope.names.lookup x).map λk=>if(k== .free&&env.scope.kind== .function&&env.kindOf x==some .cell) then .cell else k:=by
 have e:(relabel scope env).names=scope.names.map λy=>(y.1,(λn k=>if(k==NameKind.free&&env.scope.kind== .function&&env.kindOf n==some .cell) then NameKind.cell else k) y.1 y.2):=by
  unfold relabel
  refine map_congr_left λy _=>?_
  obtain⟨n,k⟩:=y
  dsimp only
  split<;>rfl
 rw[e]
 exact Pm (g:=λn k=>if(k==NameKind.free&&env.scope.kind== .function&&env.kindOf n==some .cell) then NameKind.cell else k) scope.names x
theorem AL(names:List (Str×NameKind)):∀ (cs:List (Str×Addr)) (x:Str) (c:Addr),(names.foldl (λcs y=>if y.2== .free then(match env.cells.lookup y.1 with|some a=>(y.1,a)::cs|none=>cs) else cs) cs).lookup x=some c->cs.lookup x=some c\/(x,NameKind.free)∈names:=by
 induction names with
 |nil=>intro cs x c h;exact .inl h
 |cons y r ih=>
  intro cs x c h
  rw[foldl_cons]at h
  rcases ih _ x c h with h|h
  .by_cases hf:y.2=.free
   .by_cases hx:x=y.1
    .right;subst hx;rw[<-hf];exact mem_cons_self
    .left
     have hb:(y.2==NameKind.free)=true:=by rw[hf];rfl
     have hxb:(x==y.1)=false:=by simpa using hx
     simp only[hb,if_true]at h
     split at h
     .rw[lookup_cons,hxb]at h;exact h
     .exact h
   .left
    have hb:(y.2==NameKind.free)=false:=by simpa using hf
    simp only[hb,false_eq_true,if_false]at h
    exact h
  .exact .inr (mem_cons_of_mem _ h)
theorem QE:∀ (names:List (Str×NameKind)) (n:Nat) (acc:List (Str×Addr)) (x:Str) (c:Addr),(cellsFrom n names acc).lookup x=some c->acc.lookup x=some c\/(n<=c/\(x,NameKind.cell)∈names)
 | [],_,_,_,_,h=>.inl h
 |(y,k)::r,n,acc,x,c,h=>by
  unfold cellsFrom at h
  by_cases hk:(k== .cell)=true
  .rw[if_pos hk]at h
   have hk':k=.cell:=by simpa using hk
   rcases QE r (n+1) _ x c h with h|⟨h1,h2⟩
   .rw[lookup_cons]at h
    cases hx:x==y with
    |true=>
     rw[hx]at h
     have e:n=c:=Option.some.inj h
     have ex:x=y:=by simpa using hx
     subst ex;subst hk'
     exact .inr ⟨by omega,mem_cons_self⟩
    |false=>rw[hx]at h;exact .inl h
   .exact .inr ⟨by omega,mem_cons_of_mem _ h2⟩
  .rw[if_neg hk]at h
   rcases QE r n acc x c h with h|⟨h1,h2⟩
   .exact .inl h
   .exact .inr ⟨h1,mem_cons_of_mem _ h2⟩
theorem UB:∀ (names:List (Str×NameKind)) (n:Nat) (acc:List (Str×Addr)) (x:Str),(x,NameKind.cell)∉names->(cellsFrom n names acc).lookup x=acc.lookup x
 | [],_,_,_,_=>rfl
 |(y,k)::r,n,acc,x,h=>by
  have hr:(x,NameKind.cell)∉r:=λz=>h (mem_cons_of_mem _ z)
  unfold cellsFrom
  by_cases hk:(k== .cell)=true
  .rw[if_pos hk,UB r (n+1) _ x hr,lookup_cons]
   have hk':k=.cell:=by simpa using hk
   have hx:(x==y)=false:=by
    cases hx:x==y with
    |false=>rfl
    |true=>
     have ex:x=y:=by simpa using hx
     subst ex;subst hk'
     exact absurd mem_cons_self h
   rw[hx]
  .rw[if_neg hk];exact UB r n acc x hr
theorem RB:∀ (names:List (Str×NameKind)) (n:Nat) (acc:List (Str×Addr)),(∀ x y c,acc.lookup x=some c->acc.lookup y=some c->x=y)->(∀ x c,acc.lookup x=some c->c<n)->
  ∀ x y c,(cellsFrom n names acc).lookup x=some c->(cellsFrom n names acc).lookup y=some c->x=y
 | [],_,_,h,_=>h
 |(z,k)::r,n,acc,h,hb=>by
  unfold cellsFrom
  by_cases hk:(k== .cell)=true
  .rw[if_pos hk]
   refine RB r (n+1) _ (λx y c e1 e2=>?_) λx c e=>?_
   .rw[lookup_cons]at e1 e2
    cases hx:x==z with
    |true=>
     rw[hx]at e1
     have ec:n=c:=Option.some.inj e1
     have ex:x=z:=by simpa using hx
     cases hy:y==z with
     |true=>
      have ey:y=z:=by simpa using hy
      rw[ex,ey]
     |false=>
      rw[hy]at e2
      have:=hb y c e2
      rw[<-ec]at this
      exact absurd this (lt_irrefl _)
    |false=>
     rw[hx]at e1
     cases hy:y==z with
     |true=>
      rw[hy]at e2
      have ec:n=c:=Option.some.inj e2
      have:=hb x c e1
      rw[<-ec]at this
      exact absurd this (lt_irrefl _)
     |false=>rw[hy]at e2;exact h x y c e1 e2
   .rw[lookup_cons]at e
    cases hx:x==z with
    |true=>
     rw[hx]at e
     have ec:n=c:=Option.some.inj e
     rw[<-ec]
     exact lt_succ_self _
    |false=>rw[hx]at e;exact Nat.lt_succ_of_lt (hb x c e)
  .rw[if_neg hk];exact RB r n acc h hb
theorem Fw:∀ (names:List (Str×NameKind)) (h:Heap) (acc:List (Str×Addr)),(∀ x c,acc.lookup x=some c->∃ v,h.IsCell c v)->∀ x c,(cellsFrom h.objs.size names acc).lookup x=some c->∃ v,(pushCells h names).IsCell c v
 | [],_,_,hc=>hc
 |(z,k)::r,h,acc,hc=>by
  unfold cellsFrom pushCells
  by_cases hk:(k== .cell)=true
  .rw[if_pos hk,if_pos hk]
   have:=Fw r (h.push {cls:=.type "cell",data:=.cell none}) ((z,h.objs.size)::acc) λx c e=>by
    rw[lookup_cons]at e
    cases hx:x==z with
    |true=>
     rw[hx]at e
     have ec:h.objs.size=c:=Option.some.inj e
     subst ec
     exact⟨none,_,get?_push_size _ rfl,rfl⟩
    |false=>
     rw[hx]at e
     obtain⟨v,q⟩:=hc x c e
     exact⟨v,q.keeps λb o e=>get?_push_of_some _ e⟩
   rw[size_push]at this
   exact this
  .rw[if_neg hk,if_neg hk];exact Fw r h acc hc
def SH(scope:Scope)(env:Env)(C:Addr):List (Str×Addr):=cellsFrom (C+1) scope.names (VB scope env)
variable{s:Shared}{A:Around}{E:Value->Shared->Prop}{qual:Str}
theorem Mp{M:Model}{globals:Addr}{cl:List (Str×Addr)}{Q:Env->Shared->Prop}(hQ:Q {scope:=scope,locals:=s.heap.objs.size,globals:=globals,cells:=cellsFrom (s.heap.objs.size+1) scope.names cl,qual:=qual,func:=none,code:=env.code,frame:=env.frame,builtins:=env.builtins}
   {s with heap:=pushCells (s.heap.push {cls:=.type "dict",data:=.dict #[]}) scope.names}):
  wpAny M A (newFunctionEnv scope globals cl [] qual none .none (some env)) Q E s:=by
 simp only[newFunctionEnv,Option.isSome_some,if_true]
 refine wpAny_bind (wpAny_alloc ?_)
 refine wpAny_bind (wpAny_layCells _ (λname kind cells=>by cases hkc:kind==NameKind.cell<;>simp[hkc]) _ _ _ _ ?_)
 rw[show({s with heap:=s.heap.push {cls:=.type "dict",data:=.dict #[]}}:Shared).heap.objs.size=s.heap.objs.size+1 from size_push ..]
 refine wpAny_bind ?_
 rw[List.forIn_nil]
 exact wpAny_pure (wpAny_pure hQ)
theorem ZC{h:Heap}{names:List (Str×NameKind)}:(pushCells (h.push {cls:=.type "dict",data:=.dict #[]}) names).Ns h.objs.size λ_=>none:=(Heap.Ns.new h (.type "dict")).keeps (pushCells_keeps _ _)
def Tb(X:Cx)(scope:Scope)(Nc Nx:List Str)(C:Addr)(fp:List Addr)(pins:List (Addr×Obj))(s:Shared)(H:Hp):Cx:=
 {X with N:=Nc++Nx,s₀:=s,H₀:=H,env:=compEnvC scope (SH scope X.env C) C X.env,outer:=X.stack,stack:=X.stack,ex:=fp,fn:=λx=>scope.names.lookup x==some .cell,pn:=X.pn++pins,xe:=λ_ _=>False}
structure CompOk(X:Cx)(scope:Scope)(Nc Nx:List Str):Prop where
 kind:scope.kind=.function
 one:∀ y∈scope.names,scope.names.lookup y.1=some y.2
 free:∀ y∈scope.names,y.2=.free->X.env.kindOf y.1=some .cell\/X.env.kindOf y.1=some .free
 same:Nx.length=X.N.length
 dis:∀ p∈Nx.zip X.N,(p.1=p.2/\scope.names.lookup p.2≠some .local/\scope.names.lookup p.2≠some .cell)\/scope.names.lookup p.1=none
variable{x:Str}{Nc Nx:List Str}{k:NameKind}{pins:List (Addr×Obj)}{fp:List Addr}
theorem CompOk.loc(c:CompOk X scope Nc Nx):∀ y∈scope.names,y.2=.local->scope.names.lookup y.1=some .local:=λy hy h=>by rw[c.one y hy,h]
theorem CompOk.old(c:CompOk X scope Nc Nx)(h:scope.names.lookup x=some k)(hk:k≠ .cell):(x,NameKind.cell)∉scope.names:=λz=>by
 have:=c.one _ z
 rw[h]at this
 exact hk (Option.some.inj this)
theorem CompOk.cells(c:CompOk X scope Nc Nx)(ok:X.Ok):∀ y∈scope.names,y.2=.free->∃ a,X.env.cells.lookup y.1=some a:=λy hy hf=>ok.has y.1 (c.free y hy hf)
theorem Pf(h:(VB scope X.env).lookup x=some a):X.env.cells.lookup x=some a:=BL scope.names [] (λ_ _ e=>by simp at e) x a h
theorem Ew(C:Addr)(h:(SH scope X.env C).lookup x=some a):X.env.cells.lookup x=some a\/(C<a/\(x,NameKind.cell)∈scope.names):=by
 rcases QE _ _ _ x a h with h|⟨h1,h2⟩
 .exact .inl (Pf h)
 .exact .inr ⟨h1,h2⟩
theorem ZK(c:CompOk X scope Nc Nx)(C:Addr)(hx:scope.names.lookup x=some .cell)(h:(SH scope X.env C).lookup x=some a):C<a:=by
 rcases QE _ _ _ x a h with h|⟨h1,_⟩
 .rcases AL scope.names [] x a h with h|h
  .simp at h
  .have:=c.one _ h
   rw[hx]at this
   cases this
 .exact h1
theorem Ny(c:CompOk X scope Nc Nx)(C:Addr)(hx:scope.names.lookup x=some k)(hk:k≠ .cell):(SH scope X.env C).lookup x=(VB scope X.env).lookup x:=UB _ _ _ x (c.old hx hk)
theorem ZM{tk:Nat}(c:CompOk X scope Nc Nx)(I:Inv X pins σ H s)(hf:∀ b∈fp,Wm X pins H b/\b<s.heap.objs.size):
  Inv (Tb X scope Nc Nx s.heap.objs.size fp pins s H) [] (replicate Nc.length none++σ) H {s with heap:=pushCells (s.heap.push {cls:=.type "dict",data:=.dict #[]}) scope.names,toks:=tk}:=by
 have hn:(pushCells (s.heap.push {cls:=.type "dict",data:=.dict #[]}) scope.names).Ns s.heap.objs.size λ_=>none:=ZC
 have hk:∀ b o,s.heap.get? b=some o->(pushCells (s.heap.push {cls:=.type "dict",data:=.dict #[]}) scope.names).get? b=some o:=λb o e=>pushCells_keeps _ _ _ _ (get?_push_of_some _ e)
 have cellLt:∀ x a,X.env.cells.lookup x=some a->a<s.heap.objs.size:=λx a e=>by
  obtain⟨v,q⟩:=I.cell x a e
  exact q.lt
 have hokind:(compEnvC scope (SH scope X.env s.heap.objs.size) s.heap.objs.size X.env).scope.kind=.function:=c.kind
 have kinds:∀ x,((relabel scope X.env).names.lookup x=some .cell\/(relabel scope X.env).names.lookup x=some .free)->scope.names.lookup x=some .cell\/scope.names.lookup x=some .free:=λx hx'=>by
  rw[Jf]at hx'
  cases q:scope.names.lookup x with
  |none=>rw[q]at hx';simp at hx'
  |some k=>
   rw[q]at hx'
   by_cases hkf:k=.free
   .rw[hkf];exact .inr rfl
   .have hb:(k==NameKind.free)=false:=by simpa using hkf
    simp only[map_some,hb,Bool.false_and,false_eq_true,if_false]at hx'
    exact hx'
 refine⟨⟨I.ok.mod,hokind,I.ok.glob,I.ok.blt,le_refl _,?_,λx hx=>?_,λx a hx e=>?_,I.ok.hd,I.ok.frames,.inl rfl,λb hb=>⟨?_,λx a e=>?_⟩,I.bs,le_trans I.ok.bsz I.sz,λb o e hb=>?_,λb hb=>?_,I.stack,I.stkFree⟩,
  rfl,I.bare,Un.kept hk,⟨_,hn,λi x v h1 h2 h3=>?_⟩,?_,I.hok.fresh (le_refl _),λx a e=>?_,λp hp=>?_,I.hok.kept hk,?_⟩
 .exact RB scope.names _ _ (λx y a h1 h2=>I.ok.inj x y a (Pf h1) (Pf h2)) λx a h=>Nat.lt_succ_of_lt (cellLt x a (Pf h))
 .rcases kinds x hx with hc|hfree
  .exact isSome_iff_exists.mp (cellsFrom_some scope.names _ _ (.inl hc))
  .have hm:=PySem.mem_of_lookup hfree
   obtain⟨a,e⟩:=Py (env:=X.env) scope.names [] x (.inr ⟨hm,c.cells I.ok _ hm rfl⟩)
   exact⟨a,(Ny c _ hfree (by decide)).trans e⟩
 .have hx':(scope.names.lookup x==some NameKind.cell)=true:=hx
  exact le_of_lt (ZK c _ (by simpa using hx') e)
 .exact ne_of_lt (hf b hb).2
 .rcases Ew _ e with e|⟨e,_⟩
  .exact(hf b hb).1.2.2.2.2.1 x a e
  .have:=(hf b hb).2
   exact ne_of_gt (lt_trans this e)
 .obtain⟨_,hb2⟩:=I.bs b o e
  rcases(hf b hb).1.2.2.2.1 with z|z
  .exact I.ok.noex b o e z
  .exact absurd (lt_of_lt_of_le (lt_size e) (le_trans I.ok.bsz z)) (lt_irrefl _)
 .intro z
  rcases mem_cons.mp (I.stkSub b z) with q|q
  .exact(hf b hb).1.2.1 q
  .exact(hf b hb).1.2.2.1 q
 .have hi:Nc.length<=i:=by
   refine Nat.le_of_not_lt λq=>?_
   rw[getElem?_append_left (by simpa using q),List.getElem?_replicate]at h2
   split at h2<;>cases h2
  have h1':Nx[i-Nc.length]? =some x:=by
   have z:(Nc++Nx)[i]? =some x:=h1
   rw[getElem?_append_right hi]at z;exact z
  have h2':σ[i-Nc.length]? =some (some v):=by
   rw[getElem?_append_right (by simpa using hi),length_replicate]at h2;exact h2
  have h3':(relabel scope X.env).names.lookup x=some .local\/(relabel scope X.env).names.lookup x=some .cell\/(relabel scope X.env).names.lookup x=some .free:=h3
  have hz:i-Nc.length<X.N.length:=by
   rw[<-c.same]
   refine Nat.lt_of_not_le λq=>?_
   rw[getElem?_eq_none q]at h1';cases h1'
  have hd2:=c.dis (x,X.N[i-Nc.length]'hz) (mem_of_getElem? (i:=i-Nc.length) (by
   rw[List.getElem?_zip_eq_some]
   exact⟨h1',getElem?_eq_getElem hz⟩))
  have hd3:X.N[i-Nc.length]? =some x/\scope.names.lookup x≠some .local/\scope.names.lookup x≠some .cell:=by
   rcases hd2 with⟨q1,q2⟩|q
   .have q1':x=X.N[i-Nc.length]'hz:=q1
    have q2':scope.names.lookup (X.N[i-Nc.length]'hz)≠some .local/\scope.names.lookup (X.N[i-Nc.length]'hz)≠some .cell:=q2
    rw[<-q1']at q2'
    exact⟨by rw[getElem?_eq_getElem hz,<-q1'],q2'⟩
   .exfalso
    have q':scope.names.lookup x=none:=q
    rw[Jf,q']at h3'
    simp at h3'
  obtain⟨h1',hnl,hnc⟩:=hd3
  have hfree:scope.names.lookup x=some .free:=by
   rcases h3' with z|z
   .rw[Jf]at z
    cases q:scope.names.lookup x with
    |none=>rw[q]at z;simp at z
    |some k=>
     rw[q]at z
     by_cases hkf:k=.free
     .rw[hkf]
     .have hb:(k==NameKind.free)=false:=by simpa using hkf
      simp only[map_some,hb,Bool.false_and,false_eq_true,if_false]at z
      rw[q]at hnl;exact absurd z hnl
   .rcases kinds x z with z|z
    .exact absurd z hnc
    .exact z
  have hm:=PySem.mem_of_lookup hfree
  have hkx:=c.free _ hm rfl
  obtain⟨mX,hnX,hl⟩:=I.loc
  obtain⟨u,r,l⟩:=hl _ x v h1' h2' (hkx.elim (λz=>.inr (.inl z)) λz=>.inr (.inr z))
  refine⟨u,r,?_⟩
  rcases l with⟨z,_⟩|⟨_,a,e,z⟩
  .have z':X.env.kindOf x=some .local:=z
   rcases hkx with q|q<;> · rw[z']at q;cases q
  .obtain⟨a',e'⟩:=Py (env:=X.env) scope.names [] x (.inr ⟨hm,c.cells I.ok _ hm rfl⟩)
   have ea:a'=a:=by
    have:=Pf (X:=X) e'
    rw[e]at this
    exact(Option.some.inj this).symm
   subst ea
   refine .inr ⟨?_,a',(Ny c _ hfree (by decide)).trans e',?_⟩
   .show(relabel scope X.env).names.lookup x=some .cell\/(relabel scope X.env).names.lookup x=some .free
    rw[Jf,hfree]
    simp only[map_some]
    split
    .exact .inl rfl
    .exact .inr rfl
   .obtain⟨o,ho,hd⟩:=z
    exact⟨o,hk _ _ ho,hd⟩
 .have q:=Fw scope.names (s.heap.push {cls:=.type "dict",data:=.dict #[]}) (VB scope X.env) λx a e=>by
   obtain⟨v,z⟩:=I.cell x a (Pf e)
   exact⟨v,z.keeps λb o e=>get?_push_of_some _ e⟩
  rw[size_push]at q
  exact q
 .rcases Ew _ e with e|⟨e,_⟩
  .exact I.freeC x a e
  .exact I.hok.fresh (le_of_lt e)
 .have hp':p∈X.pn++pins:=by
   have z:p∈(X.pn++pins)++ []:=hp
   rwa [append_nil]at z
  obtain⟨e,n,ne,nf,d⟩:=I.pin p hp'
  refine⟨hk _ _ e,n,ne_of_lt (lt_size e),λz=>?_,d⟩
  rcases mem_cons.mp (I.stkSub p.1 z) with q|q
  .exact ne q
  .exact nf q
 .show _=(Nc++Nx).length
  rw[length_append,length_append,length_replicate,I.len,c.same]
theorem Iz{σ':L2.St}{s':Shared}{h'':Heap}(I:Inv X pins σ H s)(hf:∀ b∈fp,Wm X pins H b)(J:Inv (Tb X scope Nc Nx s.heap.objs.size fp pins s H) [] σ' H' s')(hs:SameBut s.heap.objs.size s'.heap h''):Inv X pins σ H' {s' with heap:=h''}:=by
 have u:Un (He X.stack) fp H H' s.heap s'.heap:=J.base
 have hC:H' s.heap.objs.size=none:=J.free
 have keep:∀ b o,b≠s.heap.objs.size->s'.heap.get? b=some o->h''.get? b=some o:=λb o hb e=>by rw[hs.2 b hb];exact e
 have lt:∀ b o,s.heap.get? b=some o->b≠s.heap.objs.size:=λb o e=>ne_of_lt (lt_size e)
 refine I.call' (s':= {s' with heap:=h''}) (ch:=fp) J.os ⟨λb o e n h1 h2=>keep b o (lt b o e) (u.keep b o e n h1 h2),λb o e n h1 h2=>?_,u.free,λb o e h1=>?_,u.tups,u.frzs,u.tbls⟩ (λb o e=>?_) J.bare λb hb=>?_
 .obtain⟨sl,q⟩:=u.slot b o e n h1 h2
  exact⟨sl,keep b _ (lt b o e) q⟩
 .obtain⟨o',q⟩:=u.there b o e h1
  exact⟨o',keep b _ (lt b o e) q⟩
 .refine(J.hok b o e).stay (λc v hc q=>keep c v (λz=>?_) q) (λ_ q=>q) λ_ _ q=>q
  subst z
  rcases hc with z|z
  .rw[<-z,hC]at e;cases e
  .rw[hC]at z;cases z
 .exact⟨(hf b hb).2.2.2.1,(hf b hb).2.1,(hf b hb).2.2.2.2.1,(hf b hb).2.2.2.2.2⟩
variable{w:World}{elt iter:Expr}{ifs:List Expr}{pos:Pos}
theorem Qy{prog:Program}{R:Result->Shared->Prop}{target:Expr}{it acc:Value}(I:Nat->Shared->Prop)(turn:∀ n s,I n s->wpAny (model prog w) A (pyNext it) (λr s₁=>match r with
   |none=>R (.ok .next) s₁
   |some v=>wpAny (model prog w) A (letOwnedTupleGo target it v) (λ_ s₁'=>wpAny (model prog w) A (assign target env v) (λ_ s₂=>
     wpAny (model prog w) A (forIn ifs true λc r=>if r=true then do let ok <-isTrue c env (eval c env);pure (ForInStep.yield ok) else pure (ForInStep.yield r)) (λok s₃=>
      if ok=true then wpAny (model prog w) A (eval elt env) (λx s₄=>
       wpAny (model prog w) A (call (.builtin "list.append") [acc,x]) (λ_ s₅=>∃ m,m<n/\I m s₅) (λ_ _=>False) s₄) (λ_ _=>False) s₃
      else ∃ m,m<n/\I m s₃) (λ_ _=>False) s₂) (λ_ _=>False) s₁') (λ_ _=>False) s₁) (λ_ _=>False) s)(n:Nat)(h:I n s):
  codeAny (model prog w) A (.compLoop (.ListComp elt [⟨target,iter,ifs,0⟩] scope pos) 0 it acc env) R s:=by
 refine codeAny_loop rfl I (λn s hI=>?_) n h
 show wpAny _ A ((compTurn (.ListComp elt [⟨target,iter,ifs,0⟩] scope pos) 0 it acc env).onRaise (λx=>do noteFrame x env;theTreesLotGoes x)) _ _ s
 refine wpAny_noted ?_
 rw[compTurn_list]
 refine wpAny_bind (wpAny_standAt (wpAny_bind (wpAny_mono (turn n s hI) (λr s₁ h₁=>?_) λ_ _ h'=>h'.elim)))
 cases r with
 |none=>exact wpAny_pure h₁
 |some v=>
  refine wpAny_bind (wpAny_mono h₁ (λ_ s₁' h₁'=>wpAny_bind (wpAny_mono h₁' (λ_ s₂ h₂=>wpAny_bind (wpAny_mono h₂ (λok s₃ h₃=>?_) λ_ _ h'=>h'.elim)) λ_ _ h'=>h'.elim)) λ_ _ h'=>h'.elim)
  cases ok with
  |false=>exact wpAny_pure ⟨rfl,h₃⟩
  |true=>
   exact wpAny_bind (wpAny_bind (wpAny_mono h₃ (λx s₄ h₄=>wpAny_bind (wpAny_mono h₄ (λ_ s₅ h₅=>wpAny_pure (wpAny_pure ⟨rfl,h₅⟩)) λ_ _ h'=>h'.elim)) λ_ _ h'=>h'.elim))
def J6(X:Cx)(ifs:List Expr)(t:TT):Prop:=
 ∀ (pins:List (Addr×Obj)) (s:Shared) (σ:L2.St) (H:Hp) (Q:Bool->Hp->Prop),Inv X pins σ H s->t σ H Q->
  wpAny (model X.prog X.w) X.A (forIn ifs true λc r=>if r=true then do let ok <-isTrue c X.env (eval c X.env);pure (ForInStep.yield ok) else pure (ForInStep.yield r)) (TP X pins σ Q) X.xe s
def Ec0:TT:=λ_ H Q=>Q true H
theorem ZW:J6 X [] Ec0:=λ_ s σ H Q I h=>wpAny_tests_nil ⟨H,I,h⟩
variable{c:Expr}
theorem AX{t:TT}(h:PT X c t):J6 X [c] t:=λpins s σ H Q I q=>wpAny_tests_one (h pins s σ H Q I q)
def NQ(n:Nat)(wi:TI)(g:TG)(tt:TT)(te:TE):TE:=λσ H Q=>wi σ H λJ H1=>∀ a,H1 a=none->∃ W:Nat->Nat->List V->L2.St->Hp->Prop,(∃ m,W 0 m [] (replicate n none++σ) (Jb H1 a (.lst [])))/\
 ∀ i m xs σ' H,W i m xs σ' H->H a=some (.lst xs)/\((J.stop i H/\Q (.ref a) H)\/(J.go i H/\∀ x H',J.yld i H x H'->g x σ' H' λσ2 H2=>tt σ2 H2 λb H3=>
  if b=true then te σ2 H3 λy H4=>H4 a=some (.lst xs)/\xs.length<sizeLine/\∃ m',m'<m/\W (i+1) m' (xs++ [y]) σ2 (Jb H4 a (.lst (xs++ [y]))) else ∃ m',m'<m/\W (i+1) m' xs σ2 H3))
variable{tg:Expr}{H1:Hp}{py spos:Pos}
section
variable {wi:TI}{g:TG}{tt:TT}{te:TE}
theorem Kr(c:CompOk X scope Nc Nx)(hcalm:X.calm=true)(hY:∀ (C:Addr) (fp:List Addr) (pins:List (Addr×Obj)) (s:Shared) (H:Hp),PG (Tb X scope Nc Nx C fp pins s H) tg g/\J6 (Tb X scope Nc Nx C fp pins s H) ifs tt/\PE (Tb X scope Nc Nx C fp pins s H) elt te){s2:Shared}{it:Addr}{tn:Nat->Heap->Prop}{J:It}{Q:V->Hp->Prop}{RR:Value->Addr->Result->Shared->Prop}(I:Inv X pins σ H1 s2)(T:Turn X.prog X.w X.K tg J fp it tn)(st:tn 0 s2.heap)(hf:∀ b∈fp,Wm X pins H1 b)(h:∀ a,H1 a=none->∃ W:Nat->Nat->List V->L2.St->Hp->Prop,(∃ m,W 0 m [] (replicate Nc.length none++σ) (Jb H1 a (.lst [])))/\
 ∀ i m xs σ' H,W i m xs σ' H->H a=some (.lst xs)/\((J.stop i H/\Q (.ref a) H)\/(J.go i H/\∀ x H',J.yld i H x H'->g x σ' H' λσ2 H2=>tt σ2 H2 λb H3=>
  if b=true then te σ2 H3 λy H4=>H4 a=some (.lst xs)/\xs.length<sizeLine/\∃ m',m'<m/\W (i+1) m' (xs++ [y]) σ2 (Jb H4 a (.lst (xs++ [y]))) else ∃ m',m'<m/\W (i+1) m' xs σ2 H3)))(hRR:∀ a H' σ' s' s3,Inv X pins σ (Jb H1 a (.lst [])) s3->(∀ b∈fp,Wm X pins (Jb H1 a (.lst [])) b)->Inv (Tb X scope Nc Nx s3.heap.objs.size fp pins s3 (Jb H1 a (.lst []))) [] σ' H' s'->Q (.ref a) H'->RR (.ref a) s3.heap.objs.size (.ok .next) s'):
  wpAny (model X.prog X.w) X.A (newList []) (λacc s₃=>wpAny (model X.prog X.w) X.A (newFunctionEnv scope X.env.globals (VB scope X.env) [] X.env.qual none .none (some X.env)) (λcenv s₄=>
   codeAny (model X.prog X.w) X.A (.compStart (.ListComp elt [⟨tg,iter,ifs,0⟩] scope pos) 0 (.ref it) acc {cenv with scope:=relabel scope X.env}) (RR acc cenv.locals) s₄) E s₃) E s2:=by
 have hfree:H1 s2.heap.objs.size=none:=I.hok.fresh (le_refl _)
 refine wpAny_newObj_type (Mp ?_)
 dsimp only
 generalize ea:s2.heap.objs.size=a at hfree
 have I3:Inv X pins σ (Jb H1 a (.lst [])) {s2 with heap:=s2.heap.push {cls:=.type "list",dict:=none,data:=.seq ([]:List Value).toArray},toks:=s2.toks}:=by
  subst ea
  exact I.laid (t':=s2.toks) (λb u e=>get?_push_of_some _ e) (le_refl _) ⟨zero_le _,[],_,.nil,get?_push_size _ rfl⟩
 generalize eS:({s2 with heap:=s2.heap.push {cls:=.type "list",dict:=none,data:=.seq ([]:List Value).toArray},toks:=s2.toks}:Shared)=s3 at I3
 have e3h:s3.heap=s2.heap.push {cls:=.type "list",dict:=none,data:=.seq ([]:List Value).toArray}:=by rw[<-eS]
 have obj0:=T.obj 0 _ st
 have hf3:∀ b∈fp,Wm X pins (Jb H1 a (.lst [])) b:=λb hb=>by
  obtain⟨o,e,_⟩:=obj0 b hb
  have:b≠a:=by rw[<-ea];exact ne_of_lt (lt_size e)
  exact⟨by rw[Ha this];exact(hf b hb).1,(hf b hb).2⟩
 have up:∀ b o,s2.heap.get? b=some o->s3.heap.get? b=some o:=λb o e=>by rw[e3h];exact get?_push_of_some _ e
 have hf3':∀ b∈fp,Wm X pins (Jb H1 a (.lst [])) b/\b<s3.heap.objs.size:=λb hb=>⟨hf3 b hb,by
  obtain⟨o,e,_⟩:=obj0 b hb
  exact lt_size (up b o e)⟩
 have eC:(s2.heap.push {cls:=.type "list",dict:=none,data:=.seq ([]:List Value).toArray}).objs.size=s3.heap.objs.size:=by rw[e3h]
 generalize eh:pushCells ((s2.heap.push {cls:=.type "list",dict:=none,data:=.seq ([]:List Value).toArray}).push {cls:=.type "dict",data:=.dict #[]}) scope.names=h₁
 have hk4:∀ b o,s3.heap.get? b=some o->h₁.get? b=some o:=λb o e=>by
  rw[<-eh,<-e3h]
  exact pushCells_keeps _ _ _ _ (get?_push_of_some _ e)
 have I4:=ZM (tk:=s2.toks) c I3 hf3'
 have e4:({s3 with heap:=pushCells (s3.heap.push {cls:=.type "dict",data:=.dict #[]}) scope.names,toks:=s2.toks}:Shared)= {s2 with heap:=h₁}:=by rw[<-eh,<-eS]
 rw[e4]at I4
 obtain⟨W,⟨m0,w0⟩,turn⟩:=h a hfree
 obtain⟨hg,htt,hte⟩:=hY s3.heap.objs.size fp pins s3 (Jb H1 a (.lst []))
 have loop:codeAny (model X.prog X.w) X.A (.compLoop (.ListComp elt [⟨tg,iter,ifs,0⟩] scope pos) 0 (.ref it) (.ref a) (compEnvC scope (SH scope X.env s3.heap.objs.size) s3.heap.objs.size X.env)) (RR (.ref a) s3.heap.objs.size) {s2 with heap:=h₁}:=by
  refine Qy (λn s'=>∃ i xs σ' H',Inv (Tb X scope Nc Nx s3.heap.objs.size fp pins s3 (Jb H1 a (.lst []))) [] σ' H' s'/\tn i s'.heap/\(∀ b∈fp,H' b=none)/\W i n xs σ' H') ?_ m0
   ⟨0,[],_,_,I4,T.keep _ _ _ st λb _ o e=>hk4 b o (up b o e),λb hb=>(hf3 b hb).1,w0⟩
  rintro n s5 ⟨i,xs,σ5,H5,I5,st5,fr5,w5⟩
  have stat:∀ {H':Hp},(∀ b∈fp,H' b=none)->∀ b∈fp,Wm (Tb X scope Nc Nx s3.heap.objs.size fp pins s3 (Jb H1 a (.lst []))) [] H' b:=λ{H'} hn b hb=>by
   obtain⟨_,f1,f2,f3,f4,f5⟩:=hf3 b hb
   refine⟨hn b hb,ne_of_lt (hf3' b hb).2,λz=>?_,.inl hb,λx cc e=>(Ew _ e).elim (λe=>f4 x cc e) λe=>ne_of_gt (lt_trans (hf3' b hb).2 e.1),λp hp=>f5 p ?_⟩
   .rcases mem_cons.mp (I3.stkSub b z) with q|q
    .exact f1 q
    .exact f2 q
   .have z:p∈(X.pn++pins)++ []:=hp
    rwa [append_nil]at z
  obtain⟨hxs,alt⟩:=turn i n xs σ5 H5 w5
  rcases alt with⟨stop,qn⟩|⟨go,step⟩
  .refine wpAny_mono (T.done (Tb X scope Nc Nx s3.heap.objs.size fp pins s3 (Jb H1 a (.lst []))) rfl rfl rfl hcalm i [] s5 σ5 H5 (λ_ _=>False) I5 (stat fr5) st5 stop) (λr s6 ⟨hr,I6⟩=>?_) λ_ _ z=>z
   subst hr
   exact hRR a H5 σ5 s6 s3 I3 hf3 I6 qn
  .refine wpAny_mono (T.item (Tb X scope Nc Nx s3.heap.objs.size fp pins s3 (Jb H1 a (.lst []))) rfl rfl rfl hcalm i [] s5 σ5 H5 (λ_ _=>False) I5 (stat fr5) st5 go) (λr s6 ⟨u,hr,h6⟩=>?_) λ_ _ z=>z
   subst hr
   refine wpAny_mono h6 (λ_ s7 ⟨x,H7,I7,r7,y7,st7,fr7⟩=>?_) λ_ _ z=>z
   have I7':=I7.pinned (stat fr7) (T.obj _ _ st7)
   have fin:∀ {σ9:L2.St} {H9:Hp} {s9:Shared},Inv (Tb X scope Nc Nx s3.heap.objs.size fp pins s3 (Jb H1 a (.lst []))) ([]++Ss fp s7.heap) σ9 H9 s9->Inv (Tb X scope Nc Nx s3.heap.objs.size fp pins s3 (Jb H1 a (.lst []))) [] σ9 H9 s9/\tn (i+1) s9.heap/\(∀ b∈fp,H9 b=none):=λ{σ9 H9 s9} I9=>by
    refine⟨I9.unpinned,T.keep _ _ _ st7 λb hb o e=>(I9.pin (b,o) (mem_append_right _ (mem_append_right _ (Bk hb e)))).1,λb hb=>?_⟩
    obtain⟨o,e,d⟩:=T.obj _ _ st7 b hb
    exact(I9.pin (b,o) (mem_append_right _ (mem_append_right _ (Bk hb e)))).2.1
   refine wpAny_mono (hg _ s7 σ5 H7 x u _ I7' r7 (step x H7 y7)) (λ_ s8 ⟨σ8,H8,I8,q8⟩=>?_) λ_ _ z=>z
   refine wpAny_mono (htt _ s8 σ8 H8 _ I8 q8) (λb s9 ⟨H9,I9,q9⟩=>?_) λ_ _ z=>z
   cases b with
   |false=>
    obtain⟨m',hm,w9⟩:=q9
    obtain⟨J1,J2,J3⟩:=fin I9
    exact⟨m',hm,i+1,xs,σ8,H9,J1,J2,J3,w9⟩
   |true=>
    refine wpAny_mono (hte _ s9 σ8 H9 _ I9 q9) (λy s10 ⟨v,H10,I10,r10,q10⟩=>?_) λ_ _ z=>z
    obtain⟨e10,hl10,m',hm,w10⟩:=q10
    refine wpAny_mono (Mv (X:=Tb X scope Nc Nx s3.heap.objs.size fp pins s3 (Jb H1 a (.lst []))) _ s10 σ8 H10 (.ref a) [v] (.ref a) [y] (λ_ H'=>H'=Jb H10 a (.lst (xs++ [v]))) I10 rfl (.cons r10 .nil) ⟨a,xs,v,rfl,rfl,e10,hl10,rfl⟩) (λ_ s11 ⟨_,H11,I11,_,q11⟩=>?_) λ_ _ z=>z
    subst q11
    obtain⟨J1,J2,J3⟩:=fin I11
    exact⟨m',hm,i+1,xs++ [v],σ8,_,J1,J2,J3,w10⟩
 have st4:tn 0 h₁:=T.keep _ _ _ st λb _ o e=>hk4 b o (up b o e)
 rw[e3h]at loop
 subst ea
 exact codeAny_compStart_list loop (T.self _ 0 _ _ _ st4 loop)
theorem CW(c:CompOk X scope Nc Nx)(hcalm:X.calm=true)(hi:PI X tg iter wi)(hY:∀ (C:Addr) (fp:List Addr) (pins:List (Addr×Obj)) (s:Shared) (H:Hp),PG (Tb X scope Nc Nx C fp pins s H) tg g/\J6 (Tb X scope Nc Nx C fp pins s H) ifs tt/\PE (Tb X scope Nc Nx C fp pins s H) elt te)(hs:∀ x,foldedSetIterable iter X.env x=pure x:=by intro _;rfl):
  PE X (.ListComp elt [⟨tg,iter,ifs,0⟩] scope pos) (NQ Nc.length wi g tt te):=by
 intro pins s σ H Q I h
 rw[eval_ListComp]
 refine wpAny_comprehension_free (use:=none) rfl hs (SE (c.cells I.ok)) c.kind c.loc (thn (hi pins s σ H _ I h) λv s1 h1=>thn h1 λitv s2 h2=>?_)
 obtain⟨it,fp,tn,J,H2,rfl,I2,T,st2,f2,q⟩:=h2
 refine Kr (Q:=Q) (RR:=λacc C=>compPost (model X.prog X.w) X.A X.xe none (EP X pins σ Q) acc C) c hcalm hY I2 T st2 f2 q ?_
 intro a H' σ' s' s3 I3 hf3 IY qa
 obtain⟨m,hn,_⟩:=IY.loc
 exact⟨m,hn,λh' hs'=>⟨.ref a,H',Iz I3 hf3 IY hs',rfl,qa⟩⟩
theorem YW{i:Nat}{y:Str}(c:CompOk X scope Nc Nx)(hcalm:X.calm=true)(hi:PI X tg iter wi)(hY:∀ (C:Addr) (fp:List Addr) (pins:List (Addr×Obj)) (s:Shared) (H:Hp),PG (Tb X scope Nc Nx C fp pins s H) tg g/\J6 (Tb X scope Nc Nx C fp pins s H) ifs tt/\PE (Tb X scope Nc Nx C fp pins s H) elt te)(hN:X.N.Nodup)(hiN:X.N[i]? =some y)(hx:Cy X.env.scope y)(hsw:swapsWith (.ListComp elt [⟨tg,iter,ifs,0⟩] scope pos) (some (.Name y py)) spos.line X.env=pure true:=by rfl)(hf:X.fn y=true\/X.env.scope.names.lookup y=some .local:=by first|exact .inl rfl|exact .inr rfl|assumption)(hs:∀ x,foldedSetIterable iter X.env x=pure x:=by intro _;rfl):
  PS X (.Assign [.Name y py] (.ListComp elt [⟨tg,iter,ifs,0⟩] scope pos) spos) (P5 (NQ Nc.length wi g tt te) (Bv i)):=by
 intro pins s σ H Dn I h
 rw[exec_Assign_Name_used _ _ _ _ hsw]
 refine wpAny_bind (wpAny_standAt (wpAny_bind ?_))
 show wpAny _ X.A (do let _ <-comprehension (.ListComp elt [⟨tg,iter,ifs,0⟩] scope pos) scope X.env _ (newList []) false (eval iter X.env) (some (assign (.Name y py) X.env))) _ _ s
 refine wpAny_bind (wpAny_mono (wpAny_comprehension_free (use:=some (assign (.Name y py) X.env)) (Q:=λ_ s'=>SP X pins Dn .next s') rfl hs (SE (c.cells I.ok)) c.kind c.loc
  (thn (hi pins s σ H _ I h) λv s1 h1=>thn h1 λitv s2 h2=>?_)) (λ_ s' hq=>wpAny_pure (wpAny_pure hq)) λ_ _ e=>e)
 obtain⟨it,fp,tn,J,H2,rfl,I2,T,st2,f2,q⟩:=h2
 refine Kr (Q:=λx H1=>Bv i x σ H1 Dn.nx) (RR:=λacc C=>compPost (model X.prog X.w) X.A X.xe (some (assign (.Name y py) X.env)) (λ_ s'=>SP X pins Dn .next s') acc C) c hcalm hY I2 T st2 f2 q ?_
 intro a H' σ' s' s3 I3 hf3 IY qa
 obtain⟨m,⟨o,es,ep,ho,hod,hrest⟩,_⟩:=IY.loc
 have ho':s'.heap.get? s3.heap.objs.size=some o:=ho
 have IX:Inv X pins σ H' s':=Iz I3 hf3 IY (h'':=s'.heap) (SameBut.refl _ _)
 have hC0:H' s3.heap.objs.size=none:=IY.free
 have ncell:∀ v,o.data≠ .cell v:=λv z=>by rw[hod]at z;cases z
 have hL:s3.heap.objs.size≠X.env.locals:=ne_of_gt I3.lt
 have IX':Inv X (pins++ [(s3.heap.objs.size,o)]) σ H' s':=IX.pins_of λp hp=>(mem_append.mp hp).elim (λz=>IX.pin p (mem_append_right _ z)) λz=>by
  have e:p=(s3.heap.objs.size,o):=by simpa using z
  subst e
  exact⟨ho',hC0,hL,I3.nofs (le_refl _),ncell⟩
 have hcells:∀ x cc,X.env.cells.lookup x=some cc->cc≠s3.heap.objs.size:=λx cc e z=>by
  obtain⟨v,q⟩:=I3.cell x cc e
  exact absurd q.lt (by rw[z];exact lt_irrefl _)
 show wpAny _ X.A (assign (.Name y py) X.env (.ref a)) _ _ s'
 refine wpAny_assign_Name (Nl IX' hN hiN hx (v:=.ref a) rfl (λs5 I5=>?_) hf)
 have p5:=I5.pin (s3.heap.objs.size,o) (mem_append_right _ (mem_append_right _ (by simp)))
 refine⟨m,⟨o,es,ep,p5.1,hod,hrest⟩,λh' hs'=>⟨_,H',?_,qa⟩⟩
 have I5':=I5.unpinned
 exact I5'.turned (t':=s5.toks) (it:=s3.heap.objs.size) (λb ob hb e=>by rw[hs'.2 b hb];exact e) hC0 hL (.inr I3.sz) hcells λp hp z=>absurd (lt_size (I3.pin p hp).1) (by rw[z];exact lt_irrefl _)
end
open SeqAt
mutual
def Gg:D->D->Bool
 | .non,.non=>true
 | .bl a,.bl b=>a==b
 | .int a,.int b=>a==b
 | .str a,.str b=>a==b
 | .bl a,.int b=>(if a then 1 else 0)==b
 | .int a,.bl b=>a==(if b then 1 else 0)
 | .tup a,.tup b=>Ot a b
 | .lst a,.lst b=>Ot a b
 |_,_=>false
def Ot:List D->List D->Bool
 | [],[]=>true
 |a::as,b::bs=>Gg a b&&Ot as bs
 |_,_=>false
end
def Lb:Nat->D->Bool
 |_,.non=>true
 |_,.bl _=>true
 |_,.int _=>true
 |_,.str _=>true
 |n+1,.tup ds=>ds.all (Lb n)
 |n+1,.lst ds=>ds.all (Lb n)
 |_,_=>false
theorem Vo:∀ (as bs:List D),as.length=bs.length->Ot as bs=(range as.length).all λj=>Gg (as.getD j .non) (bs.getD j .non)
 | [],[],_=>by simp[Ot]
 |a::as,b::bs,h=>by
  rw[Ot,List.length_cons,List.range_succ_eq_map,all_cons,List.all_map,Vo as bs (by simpa using h)]
  rfl
 | [],_::_,h=>by simp at h
 |_::_,[],h=>by simp at h
theorem Iw:∀ (as bs:List D),as.length≠bs.length->Ot as bs=false
 | [],[],h=>absurd rfl h
 |a::as,b::bs,h=>by rw[Ot,Iw as bs (by simpa using h),Bool.and_false]
 | [],_::_,h=>by simp[Ot]
 |_::_,[],h=>by simp[Ot]
variable{n j:Nat}{its:List Value}
theorem Has.notup{W:WS}{H:Hp}{K:Frag}(I:Inv X pins σ H s)(h1:SqL X.K H a xs)(h2:SqT X.K H a ys):False:=by
 obtain⟨its,_,⟨o,n,e,c,_⟩,_⟩:=I.list h1
 obtain⟨its',_,⟨o',e',c',_⟩,_⟩:=I.tuple h2
 rw[e]at e';cases e'
 rw[c]at c'
 exact absurd c' (by simp)
theorem HasT.ref{x:V}(h:HasT K W H d x)(hs:Lb n d=true):
  (d=.non/\x=.non)\/(∃ b,d=.bl b/\x=.bl b)\/(∃ b,d=.int b/\x=.int b)\/(∃ b,d=.str b/\x=.str b)\/
  (∃ ds a xs m,n=m+1/\d=.tup ds/\x=.ref a/\SqT K H a xs/\HasL K W H ds xs/\∀ y∈ds,Lb m y=true)\/
  (∃ ds a xs m,n=m+1/\d=.lst ds/\x=.ref a/\SqL K H a xs/\HasL K W H ds xs/\∀ y∈ds,Lb m y=true):=by
 cases d with
 |non=>exact .inl ⟨rfl,h.non⟩
 |bl b=>exact .inr (.inl ⟨b,rfl,h.bl⟩)
 |int b=>exact .inr (.inr (.inl ⟨b,rfl,h.int⟩))
 |str b=>exact .inr (.inr (.inr (.inl ⟨b,rfl,h.str⟩)))
 |tup ds=>
  obtain⟨a,xs,e,q,r⟩:=h.tup
  cases n with
  |zero=>simp[Lb]at hs
  |succ m=>
   rw[Lb,all_eq_true]at hs
   exact .inr (.inr (.inr (.inr (.inl ⟨ds,a,xs,m,rfl,rfl,e,q,r,hs⟩))))
 |lst ds=>
  obtain⟨a,xs,e,q,r⟩:=h.lst
  cases n with
  |zero=>simp[Lb]at hs
  |succ m=>
   rw[Lb,all_eq_true]at hs
   exact .inr (.inr (.inr (.inr (.inr ⟨ds,a,xs,m,rfl,rfl,e,q,r,hs⟩))))
 |dct k ds=>cases n<;>simp[Lb]at hs
 |exc k ds=>cases n<;>simp[Lb]at hs
 |obj c k ds=>cases n<;>simp[Lb]at hs
theorem OL(I:Inv X pins σ H s):∀ (n:Nat) {d e:D} {x:V},HasT X.K W H d x->HasT X.K W H e x->Lb n d=true->Lb n e=true->Gg d e=true:=by
 intro n
 induction n with
 |zero=>
  intro d e x h1 h2 s1 s2
  rcases h1.ref s1 with⟨rfl,rfl⟩|⟨b,rfl,rfl⟩|⟨b,rfl,rfl⟩|⟨b,rfl,rfl⟩|⟨_,_,_,m,z,_⟩|⟨_,_,_,m,z,_⟩<;>
  rcases h2.ref s2 with⟨rfl,e2⟩|⟨c,rfl,e2⟩|⟨c,rfl,e2⟩|⟨c,rfl,e2⟩|⟨_,_,_,m',z',_⟩|⟨_,_,_,m',z',_⟩<;>first|(cases z;done)|(cases z';done)|(cases e2;done)|(cases e2;simp[Gg])
 |succ n ih=>
  have lists:∀ {ds es:List D} {xs:List V},HasL X.K W H ds xs->HasL X.K W H es xs->(∀ y∈ds,Lb n y=true)->(∀ y∈es,Lb n y=true)->Ot ds es=true:=by
   intro ds
   induction ds with
   |nil=>
    intro es xs h1 h2 _ _
    have e1:=h1.length
    have e2:=h2.length
    cases es with
    |nil=>simp[Ot]
    |cons=>simp at e1 e2;omega
   |cons d ds ih2=>
    intro es xs h1 h2 g1 g2
    rw[HasL]at h1
    obtain⟨x,r,rfl,q,t⟩:=h1
    cases es with
    |nil=>rw[HasL]at h2;cases h2
    |cons e es=>
     rw[HasL]at h2
     obtain⟨x',r',ee,q',t'⟩:=h2
     cases ee
     rw[Ot,ih (.inl q) (.inl q') (g1 d mem_cons_self) (g2 e mem_cons_self),ih2 t t' (λy hy=>g1 y (mem_cons_of_mem _ hy)) λy hy=>g2 y (mem_cons_of_mem _ hy)]
     rfl
  intro d e x h1 h2 s1 s2
  rcases h1.ref s1 with⟨rfl,rfl⟩|⟨b,rfl,rfl⟩|⟨b,rfl,rfl⟩|⟨b,rfl,rfl⟩|⟨ds,a,xs,m,z,rfl,rfl,q,r,g⟩|⟨ds,a,xs,m,z,rfl,rfl,q,r,g⟩<;>
  rcases h2.ref s2 with⟨rfl,e2⟩|⟨c,rfl,e2⟩|⟨c,rfl,e2⟩|⟨c,rfl,e2⟩|⟨es,a',ys,m',z',rfl,e2,q',r',g'⟩|⟨es,a',ys,m',z',rfl,e2,q',r',g'⟩<;>first|(cases e2;done)|(cases e2;simp[Gg];done)|skip
  .cases e2
   cases z;cases z'
   have:=I.tuple_inj q q'
   subst this
   rw[Gg];exact lists r r' g g'
  .cases e2
   exact(Has.notup (K:=X.K) (W:=W) (H:=H) I q' q).elim
  .cases e2
   exact(Has.notup (K:=X.K) (W:=W) (H:=H) I q q').elim
  .cases e2
   cases z;cases z'
   have:=I.list_inj q q'
   subst this
   rw[Gg];exact lists r r' g g'
theorem Uq(h:j<ds.length):ds[j]? =some (ds.getD j .non):=by
 rw[getD_eq_getElem?_getD,getElem?_eq_getElem h];rfl
theorem DH(r:Vals xs its){x:V}(e:xs[j]? =some x)(h:j<its.toArray.size):RelV x its.toArray[j]:=by
 obtain⟨u,h1,h2⟩:=r.get e
 have:its.toArray[j]? =some u:=by simpa using h1
 rw[Array.getElem?_eq_getElem h]at this
 cases this
 exact h2
theorem Wr(n:Nat)(ih:∀ {d e:D} {x y:V} {v u:Value},HasT X.K W H d x->HasT X.K W H e y->RelV x v->RelV y u->Lb n d=true->Lb n e=true->EqAt A s v u (Gg d e)){its':List Value}(r:HasL X.K W H ds xs)(r':HasL X.K W H es ys)(v:Vals xs its)(v':Vals ys its')(g:∀ y∈ds,Lb n y=true)(g':∀ y∈es,Lb n y=true):
  ∀ j (h1:j<its.toArray.size) (h2:j<its'.toArray.size),EqAt A s its.toArray[j] its'.toArray[j] (Gg (ds.getD j .non) (es.getD j .non)):=by
 intro j h1 h2
 have l1:j<ds.length:=by rw[r.length,v.length];simpa using h1
 have l2:j<es.length:=by rw[r'.length,v'.length];simpa using h2
 obtain⟨x,e1,q1⟩:=r.get (Uq l1)
 obtain⟨y,e2,q2⟩:=r'.get (Uq l2)
 exact ih (.inl q1) (.inl q2) (DH v e1 h1) (DH v' e2 h2) (g _ (mem_of_getElem? (Uq l1))) (g' _ (mem_of_getElem? (Uq l2)))
theorem HasT.view(I:Inv X pins σ H s){x:V}{v:Value}(h:HasT X.K W H d x)(rx:RelV x v)(hs:Lb n d=true):
  (d=.non/\v=.none)\/(∃ b,d=.bl b/\v=.bool b)\/(∃ b t,d=.int b/\v=.int b t)\/(∃ b t,d=.str b/\v=.str b t)\/
  (∃ ds a xs its m,n=m+1/\d=.tup ds/\x=.ref a/\v=.ref a/\HasL X.K W H ds xs/\Vals xs its/\s.heap.IsTuple a its.toArray/\∀ y∈ds,Lb m y=true)\/
  (∃ ds a xs its m,n=m+1/\d=.lst ds/\x=.ref a/\v=.ref a/\HasL X.K W H ds xs/\Vals xs its/\s.heap.IsList a its.toArray/\∀ y∈ds,Lb m y=true):=by
 rcases h.ref hs with⟨rfl,rfl⟩|⟨b,rfl,rfl⟩|⟨b,rfl,rfl⟩|⟨b,rfl,rfl⟩|⟨ds,a,xs,m,z,rfl,rfl,q,r,g⟩|⟨ds,a,xs,m,z,rfl,rfl,q,r,g⟩
 .exact .inl ⟨rfl,rx⟩
 .exact .inr (.inl ⟨b,rfl,rx⟩)
 .obtain⟨t,e⟩:=rx
  exact .inr (.inr (.inl ⟨b,t,rfl,e⟩))
 .obtain⟨t,e⟩:=rx
  exact .inr (.inr (.inr (.inl ⟨b,t,rfl,e⟩)))
 .obtain⟨its,rv,p,_⟩:=I.tuple q
  exact .inr (.inr (.inr (.inr (.inl ⟨ds,a,xs,its,m,z,rfl,rfl,rx,r,rv,p,g⟩))))
 .obtain⟨its,rv,p,_⟩:=I.list q
  exact .inr (.inr (.inr (.inr (.inr ⟨ds,a,xs,its,m,z,rfl,rfl,rx,r,rv,p.isList,g⟩))))
theorem XB(I:Inv X pins σ H s):∀ (n:Nat) (A:Around) {d e:D} {x y:V} {v u:Value},A.units+n<cLine->HasT X.K W H d x->HasT X.K W H e y->RelV x v->RelV y u->Lb n d=true->Lb n e=true->
  EqAt A s v u (Gg d e)/\RcAt A s v u (Gg d e)/\RcNeAt A s v u (!Gg d e):=by
 intro n
 induction n with
 |zero=>
  intro A d e x y v u hu h1 h2 rx ry s1 s2
  rcases h1.view I rx s1 with⟨rfl,rfl⟩|⟨b,rfl,rfl⟩|⟨b,t,rfl,rfl⟩|⟨b,t,rfl,rfl⟩|⟨_,_,_,_,m,z,_⟩|⟨_,_,_,_,m,z,_⟩<;>
  rcases h2.view I ry s2 with⟨rfl,rfl⟩|⟨c,rfl,rfl⟩|⟨c,t',rfl,rfl⟩|⟨c,t',rfl,rfl⟩|⟨_,_,_,_,m',z',_⟩|⟨_,_,_,_,m',z',_⟩<;>first|(cases z;done)|(cases z';done)|skip
  .exact⟨EqAt.same _,RcAt.none_none,RcNeAt.none_none⟩
  .exact⟨EqAt.none_bool _,RcAt.none_bool _,RcNeAt.none_bool _⟩
  .exact⟨EqAt.none_int _ _,RcAt.none_int _ _,RcNeAt.none_int _ _⟩
  .exact⟨EqAt.none_str _ _,RcAt.none_str _ _,RcNeAt.none_str _ _⟩
  .exact⟨EqAt.bool_none _,RcAt.bool_none _,RcNeAt.bool_none _⟩
  .exact⟨EqAt.bool_bool _ _,RcAt.bool_bool _ _,RcNeAt.bool_bool _ _⟩
  .exact⟨EqAt.bool_int _ _ _,RcAt.bool_int _ _ _,RcNeAt.bool_int _ _ _⟩
  .exact⟨EqAt.bool_str _ _ _,RcAt.bool_str _ _ _,RcNeAt.bool_str _ _ _⟩
  .exact⟨EqAt.int_none _ _,RcAt.int_none _ _,RcNeAt.int_none _ _⟩
  .exact⟨EqAt.int_bool _ _ _,RcAt.int_bool _ _ _,RcNeAt.int_bool _ _ _⟩
  .exact⟨EqAt.int_int _ _ _ _,RcAt.int_int _ _ _ _,RcNeAt.int_int _ _ _ _⟩
  .exact⟨EqAt.int_str _ _ _ _,RcAt.int_str _ _ _ _,RcNeAt.int_str _ _ _ _⟩
  .exact⟨EqAt.str_none _ _,RcAt.str_none _ _,RcNeAt.str_none _ _⟩
  .exact⟨EqAt.str_bool _ _ _,RcAt.str_bool _ _ _,RcNeAt.str_bool _ _ _⟩
  .exact⟨EqAt.str_int _ _ _ _,RcAt.str_int _ _ _ _,RcNeAt.str_int _ _ _ _⟩
  .exact⟨EqAt.str_str _ _ _ _,RcAt.str_str _ _ _ _,RcNeAt.str_str _ _ _ _⟩
 |succ n ih=>
  intro A d e x y v u hu h1 h2 rx ry s1 s2
  have hu0:A.units<cLine:=by omega
  have hu1:A.in1.units+n<cLine:=by show A.units+1+n<cLine;omega
  have same:=λ(ee:x=y)=>OL I (n+1) h1 (ee▸h2) s1 s2
  rcases h1.view I rx s1 with⟨rfl,rfl⟩|⟨b,rfl,rfl⟩|⟨b,t,rfl,rfl⟩|⟨b,t,rfl,rfl⟩|⟨ds,a,xs,its,m,z,rfl,rfl,rfl,r,rv,p,g⟩|⟨ds,a,xs,its,m,z,rfl,rfl,rfl,r,rv,p,g⟩<;>
  rcases h2.view I ry s2 with⟨rfl,rfl⟩|⟨c,rfl,rfl⟩|⟨c,t',rfl,rfl⟩|⟨c,t',rfl,rfl⟩|⟨es,a',ys,its',m',z',rfl,rfl,rfl,r',rv',p2,g'⟩|⟨es,a',ys,its',m',z',rfl,rfl,rfl,r',rv',p2,g'⟩
  all_goals first|cases z|skip
  all_goals first|cases z'|skip
  .exact⟨EqAt.same _,RcAt.none_none,RcNeAt.none_none⟩
  .exact⟨EqAt.none_bool _,RcAt.none_bool _,RcNeAt.none_bool _⟩
  .exact⟨EqAt.none_int _ _,RcAt.none_int _ _,RcNeAt.none_int _ _⟩
  .exact⟨EqAt.none_str _ _,RcAt.none_str _ _,RcNeAt.none_str _ _⟩
  .exact⟨EqAt.none_tuple p2 hu0,RcAt.none_tuple p2 hu0,RcNeAt.none_tuple p2 hu0⟩
  .exact⟨EqAt.none_list p2 hu0,RcAt.none_list p2 hu0,RcNeAt.none_list p2 hu0⟩
  .exact⟨EqAt.bool_none _,RcAt.bool_none _,RcNeAt.bool_none _⟩
  .exact⟨EqAt.bool_bool _ _,RcAt.bool_bool _ _,RcNeAt.bool_bool _ _⟩
  .exact⟨EqAt.bool_int _ _ _,RcAt.bool_int _ _ _,RcNeAt.bool_int _ _ _⟩
  .exact⟨EqAt.bool_str _ _ _,RcAt.bool_str _ _ _,RcNeAt.bool_str _ _ _⟩
  .exact⟨EqAt.bool_tuple _ p2 hu0,RcAt.bool_tuple _ p2 hu0,RcNeAt.bool_tuple _ p2 hu0⟩
  .exact⟨EqAt.bool_list _ p2 hu0,RcAt.bool_list _ p2 hu0,RcNeAt.bool_list _ p2 hu0⟩
  .exact⟨EqAt.int_none _ _,RcAt.int_none _ _,RcNeAt.int_none _ _⟩
  .exact⟨EqAt.int_bool _ _ _,RcAt.int_bool _ _ _,RcNeAt.int_bool _ _ _⟩
  .exact⟨EqAt.int_int _ _ _ _,RcAt.int_int _ _ _ _,RcNeAt.int_int _ _ _ _⟩
  .exact⟨EqAt.int_str _ _ _ _,RcAt.int_str _ _ _ _,RcNeAt.int_str _ _ _ _⟩
  .exact⟨EqAt.int_tuple _ _ p2 hu0,RcAt.int_tuple _ _ p2 hu0,RcNeAt.int_tuple _ _ p2 hu0⟩
  .exact⟨EqAt.int_list _ _ p2 hu0,RcAt.int_list _ _ p2 hu0,RcNeAt.int_list _ _ p2 hu0⟩
  .exact⟨EqAt.str_none _ _,RcAt.str_none _ _,RcNeAt.str_none _ _⟩
  .exact⟨EqAt.str_bool _ _ _,RcAt.str_bool _ _ _,RcNeAt.str_bool _ _ _⟩
  .exact⟨EqAt.str_int _ _ _ _,RcAt.str_int _ _ _ _,RcNeAt.str_int _ _ _ _⟩
  .exact⟨EqAt.str_str _ _ _ _,RcAt.str_str _ _ _ _,RcNeAt.str_str _ _ _ _⟩
  .exact⟨EqAt.str_tuple _ _ p2 hu0,RcAt.str_tuple _ _ p2 hu0,RcNeAt.str_tuple _ _ p2 hu0⟩
  .exact⟨EqAt.str_list _ _ p2 hu0,RcAt.str_list _ _ p2 hu0,RcNeAt.str_list _ _ p2 hu0⟩
  .exact⟨EqAt.tuple_none p hu0,RcAt.tuple_none p hu0,RcNeAt.tuple_none p hu0⟩
  .exact⟨EqAt.tuple_bool _ p hu0,RcAt.tuple_bool _ p hu0,RcNeAt.tuple_bool _ p hu0⟩
  .exact⟨EqAt.tuple_int _ _ p hu0,RcAt.tuple_int _ _ p hu0,RcNeAt.tuple_int _ _ p hu0⟩
  .exact⟨EqAt.tuple_str _ _ p hu0,RcAt.tuple_str _ _ p hu0,RcNeAt.tuple_str _ _ p hu0⟩
  .have he:=Wr (A:=A.in1) n (λh1 h2 rx ry s1 s2=>(ih A.in1 hu1 h1 h2 rx ry s1 s2).1) r r' rv rv' g g'
   have l1:its.toArray.size=ds.length:=by rw[size_toArray,<-rv.length,r.length]
   have l2:its'.toArray.size=es.length:=by rw[size_toArray,<-rv'.length,r'.length]
   have ee:((range (min its.toArray.size its'.toArray.size)).all (λj=>Gg (ds.getD j .non) (es.getD j .non))&&its.toArray.size==its'.toArray.size)=Gg (.tup ds) (.tup es):=by
    rw[Gg,l1,l2]
    by_cases hl:ds.length=es.length
    .rw[Vo ds es hl,<-hl];simp
    .rw[Iw ds es hl];simp[hl]
   have rc:=RcAt.tuples p p2 hu0 he
   rw[ee]at rc
   refine⟨?_,rc,?_⟩
   .by_cases ha:a=a'
    .subst ha
     rw[same rfl]
     exact EqAt.same _
    .exact EqAt.of_refs ha rc
   .have rn:=RcNeAt.tuples p p2 hu0 he
    rw[ee]at rn
    exact rn
  .exact⟨EqAt.tuple_list p p2 hu0,RcAt.tuple_list p p2 hu0,RcNeAt.tuple_list p p2 hu0⟩
  .exact⟨EqAt.list_none p hu0,RcAt.list_none p hu0,RcNeAt.list_none p hu0⟩
  .exact⟨EqAt.list_bool _ p hu0,RcAt.list_bool _ p hu0,RcNeAt.list_bool _ p hu0⟩
  .exact⟨EqAt.list_int _ _ p hu0,RcAt.list_int _ _ p hu0,RcNeAt.list_int _ _ p hu0⟩
  .exact⟨EqAt.list_str _ _ p hu0,RcAt.list_str _ _ p hu0,RcNeAt.list_str _ _ p hu0⟩
  .exact⟨EqAt.list_tuple p p2 hu0,RcAt.list_tuple p p2 hu0,RcNeAt.list_tuple p p2 hu0⟩
  .have he:=Wr (A:=A.in1) n (λh1 h2 rx ry s1 s2=>(ih A.in1 hu1 h1 h2 rx ry s1 s2).1) r r' rv rv' g g'
   have l1:its.toArray.size=ds.length:=by rw[size_toArray,<-rv.length,r.length]
   have l2:its'.toArray.size=es.length:=by rw[size_toArray,<-rv'.length,r'.length]
   have both:RcAt A s (.ref a) (.ref a') (Gg (.lst ds) (.lst es))/\RcNeAt A s (.ref a) (.ref a') (!Gg (.lst ds) (.lst es)):=by
    by_cases hl:ds.length=es.length
    .have hsz:its.toArray.size=its'.toArray.size:=by rw[l1,l2,hl]
     have rc:=RcAt.lists p p2 hsz hu0 he
     have rn:=RcNeAt.lists p p2 hsz hu0 he
     rw[l1,<-Vo ds es hl]at rc rn
     rw[Gg]
     exact⟨rc,rn⟩
    .have hsz:(its.toArray.size != its'.toArray.size)=true:=by rw[l1,l2];simpa using hl
     rw[Gg,Iw ds es hl]
     exact⟨RcAt.lists_lengths p p2 hsz hu0,RcNeAt.lists_lengths p p2 hsz hu0⟩
   refine⟨?_,both⟩
   by_cases ha:a=a'
   .subst ha
    rw[same rfl]
    exact EqAt.same _
   .exact EqAt.of_refs ha both.1
theorem RE.int(h:RE K xw W H (.ok (.int i)) Q):Q (.int i) H:=h _ H (Same.refl H) (by rw[Has])
theorem RE.bl{i:Bool}(h:RE K xw W H (.ok (.bl i)) Q):Q (.bl i) H:=h _ H (Same.refl H) (by rw[Has])
theorem RE.str{i:Str}(h:RE K xw W H (.ok (.str i)) Q):Q (.str i) H:=h _ H (Same.refl H) (by rw[Has])
theorem RE.non(h:RE K xw W H (.ok .non) Q):Q .non H:=h _ H (Same.refl H) (by rw[Has])
theorem Xc{o:HO}(h:H a=none):Same H (Jb H a o):=λb u e=>by rw[Ha (Pa e h)];exact e
theorem RE.newT{p:Addr}(h:RE K xw W H (.ok (.tup ds)) Q)(w:WL W H)(hp:H p=none)(q:HasL K W H ds xs):Q (.ref p) (Jb H p (.tup xs)):=
 h _ _ (Xc hp) (by rw[Has];exact⟨p,xs,rfl,.of Na,q.same (Xc hp) w⟩)
theorem FV(w:WL W H)(h:H a=none):¬ W a:=λz=>by
 obtain⟨xs,e,_⟩:=w a z
 rw[h]at e;cases e
variable{a b:Expr}{es:List Expr}{R:V->Hp->Prop}{o:CmpOp}{fa fb f:Ca->Res D}{ga:Ca->Res Bool}{lo hi:Option Expr}{fl fh:Ca->Res (Option Int)}{p2:Pos}{op:D->D->Res D}
section
variable {fc:Ca->Res D}
theorem DE.p(h:DE X xw e f):DP X xw e f:=PE.weak h λσ H Q ⟨W₀,H₀,W,δ,st,q⟩=>⟨W₀,H₀,W,δ,st,by
 cases hf:f δ with
 |ok d=>rw[hf]at q;exact λv H' k h=>q v H' k (.inl h)
 |ex c fs=>rw[hf]at q;exact q
 |stuck=>rw[hf]at q;exact q⟩
theorem DF.de{f:Ca->Res (List D)}(h:DF X xw e f):DE X xw e (λδ=>(f δ).bind λds=>.ok (.lst ds)):=PE.weak h λσ H Q ⟨W₀,H₀,W,δ,st,q⟩=>⟨W₀,H₀,W,δ,st,by
 dsimp only at q
 cases hf:f δ with
 |ok d=>
  rw[hf]at q
  refine λa xs H1 k n r=>q _ _ (k.trans (Xc n)) ?_
  have w1:=st.fr.wl.same k
  rw[Has]
  exact⟨a,xs,rfl,.inl ⟨Na,FV w1 n⟩,r.same (Xc n) w1⟩
 |ex c fs=>rw[hf]at q;exact q
 |stuck=>rw[hf]at q;exact q⟩
def Ea(i:Nat)(δ:Ca):Res D:=match δ[i]? with
 |some (some (.d x))=>.ok x
 |_=>.stuck
def Ga(i:Nat)(δ:Ca):Res D:=match δ[i]? with
 |some (some (.d x))=>.ok x
 |some (some (.o ds))=>.ok (.lst ds)
 |_=>.stuck
theorem J0(i:Nat)(hN:X.N[i]? =some x:=by rfl)(hv:Kq X.env.scope x:=by first|exact Or.inl rfl|exact Or.inr (Or.inl rfl)|exact Or.inr (Or.inr rfl))(hd:(x==("__debug__":Str))=false:=by decide)(hcd:(x==("__classdict__":Str))=false:=by decide):DE X xw (.Name x pos) (Ea i):=PE.weak (Zc hN hv hd hcd) λσ H Q ⟨W₀,H₀,W,δ,st,q⟩=>by
 unfold Ea at q
 split at q
 .rename_i d h
  obtain⟨v,e,r⟩:=st.at' i _ h
  exact⟨v,e,q v H (Same.refl H) r⟩
 .exact q.elim
theorem P0(i:Nat)(hN:X.N[i]? =some x:=by rfl)(hv:Kq X.env.scope x:=by first|exact Or.inl rfl|exact Or.inr (Or.inl rfl)|exact Or.inr (Or.inr rfl))(hd:(x==("__debug__":Str))=false:=by decide)(hcd:(x==("__classdict__":Str))=false:=by decide):DP X xw (.Name x pos) (Ga i):=PE.weak (Zc hN hv hd hcd) λσ H Q ⟨W₀,H₀,W,δ,st,q⟩=>by
 unfold Ga at q
 split at q
 .rename_i d h
  obtain⟨v,e,r⟩:=st.at' i _ h
  exact⟨v,e,q v H (Same.refl H) (.inl r)⟩
 .rename_i ds h
  obtain⟨v,e,a,xs,r1,r2,r3,r4,r5⟩:=st.at' i _ h
  exact⟨v,e,q v H (Same.refl H) (.inr ⟨ds,a,xs,rfl,r1,r4,r5⟩)⟩
 .exact q.elim
theorem WZ{j}:DE X xw (.Constant (.int i) j pos) (λ_=>.ok (.int i)):=PE.weak E4 λσ H Q ⟨_,_,_,_,_,q⟩=>q.int
theorem A7{i:Bool}{j}:DE X xw (.Constant (.bool i) j pos) (λ_=>.ok (.bl i)):=PE.weak J8 λσ H Q ⟨_,_,_,_,_,q⟩=>q.bl
theorem F0{i:Str}{j}:DE X xw (.Constant (.str i) j pos) (λ_=>.ok (.str i)):=PE.weak GP λσ H Q ⟨_,_,_,_,_,q⟩=>q.str
theorem B0{j}:DE X xw (.Constant .none j pos) (λ_=>.ok .non):=PE.weak G4 λσ H Q ⟨_,_,_,_,_,q⟩=>q.non
def Op2(X:Cx)(xw:XW)(r:R2)(op:D->D->Res D):Prop:=∀ (W:WS) (H:Hp) (d e:D) (v u:V) (Q:VK),WL W H->HasT X.K W H d v->HasT X.K W H e u->RE X.K xw W H (op d e) Q->r v u H Q
theorem Pl{R:V->V->Hp->Prop}(st:StHas X.K W₀ H₀ W H σ δ)(q:RE X.K xw W H ((fa δ).bind λx=>(fb δ).bind λy=>op x y) Q)(h:∀ H2 d e v u,Same H H2->WL W H2->HasT X.K W H2 d v->HasT X.K W H2 e u->fa δ= .ok d->fb δ= .ok e->RE X.K xw W H2 (op d e) Q->R v u H2):
  RX X.K xw fa σ H λx H1=>RX X.K xw fb σ H1 λy H2=>R x y H2:=by
 refine⟨W₀,H₀,W,δ,st,?_⟩
 cases h1:fa δ with
 |stuck=>rw[h1]at q;exact q
 |ex c fs=>rw[h1]at q;exact q
 |ok d=>
  rw[h1]at q
  intro v H1 k1 hv
  refine⟨W₀,H₀,W,δ,st.same k1,?_⟩
  have q':RE X.K xw W H ((fb δ).bind λy=>op d y) Q:=q
  cases h2:fb δ with
  |stuck=>rw[h2]at q';exact q'
  |ex c fs=>rw[h2]at q';exact λH2 k2=>q' H2 (k1.trans k2)
  |ok e=>
   rw[h2]at q'
   intro u H2 k2 hu
   have q2:RE X.K xw W H (op d e) Q:=q'
   exact h H2 d e v u (k1.trans k2) (st.fr.wl.same (k1.trans k2)) (hv.same k2 (st.fr.wl.same k1)) hu h1 h2 (q2.same (k1.trans k2))
theorem Bn{o:Operator}{r:R2}(ho:OpR X (binaryOp o) r)(hr:Op2 X xw r op)(ha:DP X xw a fa)(hb:DP X xw b fb):
  DE X xw (.BinOp a o b pos) (λδ=>(fa δ).bind λx=>(fb δ).bind λy=>op x y):=
 PE.weak (WY ho ha hb) λσ H Q ⟨W₀,H₀,W,δ,st,q⟩=>Pl st q λH2 d e v u k w hv hu _ _ q2=>hr W H2 d e v u Q w hv hu q2
theorem VO:OpR X (binaryOp .Add) (λx y H Q=>∃ a b ys,x=.ref a/\y=.ref b/\SqT X.K H a []/\SqT X.K H b ys/\Q (.ref b) H):=by
 intro pins s σ H x y v u Q I rx ry h
 obtain⟨a,b,ys,rfl,rfl,ha,hb,q⟩:=h
 cases rx
 cases ry
 obtain⟨its,r1,p1,_⟩:=I.tuple ha
 obtain⟨its2,r2,p2,_⟩:=I.tuple hb
 have e0:its= []:=r1.nil_iff.mpr rfl
 subst e0
 obtain⟨⟨cls,dd,data,sl⟩,ho,hc,n,hd⟩:=id p1
 obtain⟨⟨cls2,dd2,data2,sl2⟩,ho2,hc2,n2,hd2⟩:=id p2
 simp only at hc hd hc2 hd2
 subst hc hd hc2 hd2
 exact concat_meets ⟨_,ho,rfl⟩ ⟨_,ho2,rfl⟩ noFill_tuple_add seq_tuple_add PySem.F.slot_tuple_add PySem.F.entry_tuple_add (PySem.F.args_tuple_add_2 _ _)
   (tuple_addW0 a b _ its2.toArray n n2 dd dd2 sl sl2 (by simp)) ⟨ho,ho2,⟨.ref b,H,I,rfl,q⟩⟩
def Je:D->D->Res D
 | .int i,.int j=>.ok (.int (i+j))
 | .str x,.str y=>@ite (Res D) (x.length+y.length<=sizeLine) (propDecidable _) (.ok (.str (x++y))) .stuck
 | .tup xs,.tup ys=>@ite (Res D) (xs.length+ys.length<=sizeLine) (propDecidable _) (.ok (.tup (xs++ys))) .stuck
 |_,_=>.stuck
theorem TZ(ha:DP X xw a fa)(hb:DP X xw b fb):DE X xw (.BinOp a .Add b pos) (λδ=>(fa δ).bind λx=>(fb δ).bind λy=>Je x y):=by
 refine Bn ((P3.or ED).or (VO.or OV)) (λW H d e v u Q w hv hu q=>?_) ha hb
 unfold Je at q
 split at q
 .exact .inl (.inl ⟨_,_,hv.int,hu.int,q.int⟩)
 .split at q
  .rename_i hz
   exact .inl (.inr ⟨_,_,hv.str,hu.str,hz,q.str⟩)
  .exact q.elim
 .rename_i ds es
  split at q
  .rename_i hz
   obtain⟨a1,xs,e1,s1,r1⟩:=hv.tup
   obtain⟨a2,ys,e2,s2,r2⟩:=hu.tup
   by_cases hx:xs= []
   .subst hx
    have hd:ds= []:=by
     have:=r1.length
     exact List.eq_nil_of_length_eq_zero (by simpa using this)
    subst hd
    refine .inr (.inl ⟨a1,a2,ys,e1,e2,s1,s2,q _ H (Same.refl H) ?_⟩)
    rw[Has];exact⟨a2,ys,rfl,s2,r2⟩
   .refine .inr (.inr ⟨a1,a2,xs,ys,e1,e2,s1,s2,hx,by rw[<-r1.length,<-r2.length];exact hz,λhy=>?_,λ_ p hp=>q.newT w hp (r1.append r2)⟩)
    subst hy
    have he:es= []:=by
     have:=r2.length
     exact List.eq_nil_of_length_eq_zero (by simpa using this)
    subst he
    refine q _ H (Same.refl H) ?_
    rw[Has,append_nil];exact⟨a1,xs,rfl,s1,r1⟩
  .exact q.elim
 .exact q.elim
def UA:D->D->Res D
 | .int i,.int j=>.ok (.int (i-j))
 |_,_=>.stuck
theorem G0(ha:DP X xw a fa)(hb:DP X xw b fb):DE X xw (.BinOp a .Sub b pos) (λδ=>(fa δ).bind λx=>(fb δ).bind λy=>UA x y):=by
 refine Bn Y3 (λW H d e v u Q w hv hu q=>?_) ha hb
 unfold UA at q
 split at q
 .exact⟨_,_,hv.int,hu.int,q.int⟩
 .exact q.elim
def Kd:D->D->Res D
 | .int i,.int j=>@ite (Res D) (0<j) (propDecidable _) (.ok (.int (i%j))) .stuck
 |_,_=>.stuck
theorem ZZ(ha:DP X xw a fa)(hb:DP X xw b fb):DE X xw (.BinOp a .Mod b pos) (λδ=>(fa δ).bind λx=>(fb δ).bind λy=>Kd x y):=by
 refine Bn T3 (λW H d e v u Q w hv hu q=>?_) ha hb
 unfold Kd at q
 split at q
 .split at q
  .rename_i hj
   exact⟨_,_,hv.int,hu.int,hj,q.int⟩
  .exact q.elim
 .exact q.elim
def Hk:D->D->Res D
 | .int i,.int j=>@ite (Res D) (0<j/\j<1073741824) (propDecidable _) (.ok (.int (i / j))) .stuck
 |_,_=>.stuck
theorem IS(ha:DP X xw a fa)(hb:DP X xw b fb):DE X xw (.BinOp a .FloorDiv b pos) (λδ=>(fa δ).bind λx=>(fb δ).bind λy=>Hk x y):=by
 refine Bn QV (λW H d e v u Q w hv hu q=>?_) ha hb
 unfold Hk at q
 split at q
 .split at q
  .rename_i hj
   exact⟨_,_,hv.int,hu.int,hj,q.int⟩
  .exact q.elim
 .exact q.elim
def NJ:D->D->Res D
 | .int i,.int j=>@ite (Res D) (0<=j/\j<=1000/\i.natAbs<2^64) (propDecidable _) (.ok (.int (i^j.toNat))) .stuck
 |_,_=>.stuck
theorem D0(ha:DP X xw a fa)(hb:DP X xw b fb):DE X xw (.BinOp a .Pow b pos) (λδ=>(fa δ).bind λx=>(fb δ).bind λy=>NJ x y):=by
 refine Bn X3 (λW H d e v u Q w hv hu q=>?_) ha hb
 unfold NJ at q
 split at q
 .split at q
  .rename_i hj
   exact⟨_,_,hv.int,hu.int,⟨hj.1,by omega,hj.2.2⟩,q.int⟩
  .exact q.elim
 .exact q.elim
def A8:D->D->Res D
 | .int i,.int j=>@ite (Res D) ((-(2^64)<i/\i<2^64)\/(-(2^64)<j/\j<2^64)) (propDecidable _) (.ok (.int (i*j))) .stuck
 |_,_=>.stuck
def Yw:D->Res D
 | .int i=>.ok (.int (-i))
 |_=>.stuck
theorem Qh{op:D->Res D}(st:StHas X.K W₀ H₀ W H σ δ)(q:RE X.K xw W H ((fa δ).bind op) Q)(h:∀ H2 d v,Same H H2->WL W H2->StHas X.K W₀ H₀ W H2 σ δ->HasT X.K W H2 d v->fa δ= .ok d->RE X.K xw W H2 (op d) Q->R v H2):
  RX X.K xw fa σ H λx H1=>R x H1:=by
 refine⟨W₀,H₀,W,δ,st,?_⟩
 cases h1:fa δ with
 |stuck=>rw[h1]at q;exact q
 |ex c fs=>rw[h1]at q;exact q
 |ok d=>
  rw[h1]at q
  intro v H1 k1 hv
  exact h H1 d v k1 (st.fr.wl.same k1) (st.same k1) hv h1 (RE.same (r:=op d) q k1)
theorem A0(ha:DP X xw a fa):DE X xw (.UnaryOp .USub a pos) (λδ=>(fa δ).bind Yw):=
 PE.weak (L8 V5 ha) λσ H Q ⟨W₀,H₀,W,δ,st,q⟩=>Qh st q λH2 d v k w st2 hv _ q2=>by
  unfold Yw at q2
  split at q2
  .exact⟨_,hv.int,q2.int⟩
  .exact q2.elim
def Aq(d e:D):Res D:=if(Lb 40 d&&Lb 40 e)=true then .ok (.bl (Gg d e)) else .stuck
def AG(d e:D):Res D:=if(Lb 40 d&&Lb 40 e)=true then .ok (.bl (!Gg d e)) else .stuck
def Y7:D->D->Res D
 | .int i,.int j=>.ok (.bl (decide (i<j)))
 |_,_=>.stuck
def LF:D->D->Res D
 | .int i,.int j=>.ok (.bl (decide (j<i)))
 |_,_=>.stuck
def PY:D->D->Res D
 | .int i,.int j=>.ok (.bl (decide (j<=i)))
 |_,_=>.stuck
structure CmpR(X:Cx)(xw:XW)(o:CmpOp)(op:D->D->Res D):Prop where
 ex:∃ r,OpR X (compareOp o) r/\Op2 X xw r op
 bl:∀ d e z,op d e=.ok z->∃ k,z=.bl k
 nm:o≠ .In/\o≠ .NotIn
theorem Q3(hu:X.A.units+40<cLine):OpR X (compareOp .Eq) (λx y H Q=>∃ W d e,HasT X.K W H d x/\HasT X.K W H e y/\Lb 40 d=true/\Lb 40 e=true/\Q (.bl (Gg d e)) H):=by
 intro pins s σ H x y v u Q I rx ry h
 obtain⟨W,d,e,h1,h2,s1,s2,q⟩:=h
 exact(XB I 40 X.A hu h1 h2 rx ry s1 s2).2.1 _ _ _ _ ⟨.bl _,H,I,rfl,q⟩
theorem V3(hu:X.A.units+40<cLine):OpR X (compareOp .NotEq) (λx y H Q=>∃ W d e,HasT X.K W H d x/\HasT X.K W H e y/\Lb 40 d=true/\Lb 40 e=true/\Q (.bl (!Gg d e)) H):=by
 intro pins s σ H x y v u Q I rx ry h
 obtain⟨W,d,e,h1,h2,s1,s2,q⟩:=h
 exact(XB I 40 X.A hu h1 h2 rx ry s1 s2).2.2 _ _ _ _ ⟨.bl _,H,I,rfl,q⟩
theorem Pt(hu:X.A.units+40<cLine):CmpR X xw .Eq Aq:=⟨⟨_,Q3 hu,λW H d e v u Q w hv hu q=>by
  unfold Aq at q
  split at q
  .rename_i hs
   rw[and_eq_true]at hs
   exact⟨W,d,e,hv,hu,hs.1,hs.2,q.bl⟩
  .exact q.elim⟩,λd e z h=>by unfold Aq at h;split at h<;>cases h;exact⟨_,rfl⟩,by decide,by decide⟩
theorem Y6(hu:X.A.units+40<cLine):CmpR X xw .NotEq AG:=⟨⟨_,V3 hu,λW H d e v u Q w hv hu q=>by
  unfold AG at q
  split at q
  .rename_i hs
   rw[and_eq_true]at hs
   exact⟨W,d,e,hv,hu,hs.1,hs.2,q.bl⟩
  .exact q.elim⟩,λd e z h=>by unfold AG at h;split at h<;>cases h;exact⟨_,rfl⟩,by decide,by decide⟩
theorem Ab0:CmpR X xw .Lt Y7:=⟨⟨_,E8,λW H d e v u Q w hv hu q=>by
  unfold Y7 at q
  split at q
  .exact⟨_,_,hv.int,hu.int,q.bl⟩
  .exact q.elim⟩,λd e z h=>by unfold Y7 at h;split at h<;>cases h;exact⟨_,rfl⟩,by decide,by decide⟩
theorem SK:CmpR X xw .Gt LF:=⟨⟨_,D8,λW H d e v u Q w hv hu q=>by
  unfold LF at q
  split at q
  .exact⟨_,_,hv.int,hu.int,q.bl⟩
  .exact q.elim⟩,λd e z h=>by unfold LF at h;split at h<;>cases h;exact⟨_,rfl⟩,by decide,by decide⟩
theorem X6:CmpR X xw .GtE PY:=⟨⟨_,C8,λW H d e v u Q w hv hu q=>by
  unfold PY at q
  split at q
  .exact⟨_,_,hv.int,hu.int,q.bl⟩
  .exact q.elim⟩,λd e z h=>by unfold PY at h;split at h<;>cases h;exact⟨_,rfl⟩,by decide,by decide⟩
theorem HasT.isN{v:V}(h:HasT K W H d v)(hd:d≠ .non):v≠ .non:=by
 rintro rfl
 rcases h with h|⟨ds,a,xs,h1,h2,_⟩
 .cases d with
  |non=>exact hd rfl
  |bl b=>rw[Has]at h;cases h
  |int b=>rw[Has]at h;cases h
  |str b=>rw[Has]at h;cases h
  |tup b=>rw[Has]at h;obtain⟨_,_,z,_⟩:=h;cases z
  |lst b=>rw[Has]at h;obtain⟨_,_,z,_⟩:=h;cases z
  |dct k b=>rw[Has]at h;obtain⟨_,_,z,_⟩:=h;cases z
  |exc k b=>rw[Has]at h;obtain⟨_,_,_,z,_⟩:=h;cases z
  |obj c k b=>rw[Has]at h;obtain⟨_,_,_,_,z,_⟩:=h;cases z
 .cases h2
theorem VZ(hc:CmpR X xw o op)(ha:DP X xw a fa)(hb:DP X xw b fb):DE X xw (.Compare a [o] [b] pos) (λδ=>(fa δ).bind λx=>(fb δ).bind λy=>op x y):=by
 obtain⟨⟨r,ho,hr⟩,_,h1,h2⟩:=hc
 exact PE.weak (BW ho ha hb (LO b h1 h2)) λσ H Q ⟨W₀,H₀,W,δ,st,q⟩=>Pl st q λH2 d e v u k w hv hu _ _ q2=>hr W H2 d e v u Q w hv hu q2
def Gr:D->Res Bool
 | .bl k=>.ok k
 |_=>.stuck
theorem DE.t_of(ht:PT X e (tB (AZ X.K xw f))):DT X xw e (λδ=>(f δ).bind Gr):=PT.weak ht λσ H Q ⟨W₀,H₀,W,δ,st,q⟩=>by
 dsimp only at q
 refine⟨W₀,H₀,W,δ,st,?_⟩
 cases h1:f δ with
 |stuck=>rw[h1]at q;exact q
 |ex c fs=>rw[h1]at q;exact q
 |ok d=>
  rw[h1]at q
  intro v H1 k1 hv
  have q':RT xw H (Gr d) Q:=q
  unfold Gr at q'
  split at q'
  .rw[Has]at hv
   exact⟨_,hv,q' H1 k1⟩
  .exact q'.elim
theorem DE.t(h:DE X xw e f)(he:∀ whole,isTrue e X.env whole=(do let v <-whole;standAt e.pos;holding [v] (truthy v)):=by intro _;rfl):DT X xw e (λδ=>(f δ).bind Gr):=DE.t_of (V4 h he)
theorem Z0(hc:CmpR X xw o op)(ha:DP X xw a fa)(hb:DP X xw b fb):DT X xw (.Compare a [o] [b] pos) (λδ=>((fa δ).bind λx=>(fb δ).bind λy=>op x y).bind Gr):=by
 obtain⟨⟨r,ho,hr⟩,_,h1,h2⟩:=hc
 refine DE.t_of (f:=λδ=>(fa δ).bind λx=>(fb δ).bind λy=>op x y) (PT.weak (Eo ho ha hb (LO b h1 h2)) λσ H Q q=>?_)
 obtain⟨W₀,H₀,W,δ,st,q⟩:=q
 exact Pl st q λH2 d e v u k w hv hu _ _ q2=>hr W H2 d e v u _ w hv hu q2
theorem DW.t{g:Ca->Res Bool}(h:DW X xw e g):DT X xw e g:=PW.pt h
def LZ(x:Res Bool)(y:Res Bool):Res Bool:=x.bind λk=>if k=true then y else .ok false
def orB(x:Res Bool)(y:Res Bool):Res Bool:=x.bind λk=>if k=true then .ok true else y
variable {gb:Ca->Res Bool}{rest:List Expr}
theorem Lp{k:Bool->Res Bool}{Q:Bool->Hp->Prop}{R:Bool->Hp->Prop}(st:StHas X.K W₀ H₀ W H σ δ)(q:RT xw H ((ga δ).bind k) Q)(h:∀ H2 c,Same H H2->StHas X.K W₀ H₀ W H2 σ δ->ga δ= .ok c->RT xw H2 (k c) Q->R c H2):R5 X.K xw ga σ H R:=by
 refine⟨W₀,H₀,W,δ,st,?_⟩
 cases h1:ga δ with
 |stuck=>rw[h1]at q;exact q
 |ex c fs=>rw[h1]at q;exact q
 |ok c=>
  rw[h1]at q
  exact λH1 k1=>h H1 c k1 (st.same k1) h1 (RT.same (r:=k c) q k1)
theorem MT(ha:DT X xw a ga):DW X xw (.BoolOp .And [a] pos) ga:=BX ha
theorem E1(ha:DT X xw a ga):DW X xw (.BoolOp .Or [a] pos) ga:=Z4 ha
theorem D1(ha:DT X xw a ga)(hb:DW X xw (.BoolOp .And (b::rest) pos) gb):DW X xw (.BoolOp .And (a::b::rest) pos) (λδ=>LZ (ga δ) (gb δ)):=
 PW.weak (Y4 ha hb) λσ H Q ⟨W₀,H₀,W,δ,st,q⟩=>Lp st q λH2 c k st2 _ q2=>by
  cases c with
  |true=>rw[if_pos rfl]at q2 ⊢;exact⟨W₀,H₀,W,δ,st2,q2⟩
  |false=>rw[if_neg Bool.false_ne_true]at q2 ⊢;exact q2 H2 (Same.refl _)
theorem E7(ha:DT X xw a ga)(hb:DW X xw (.BoolOp .Or (b::rest) pos) gb):DW X xw (.BoolOp .Or (a::b::rest) pos) (λδ=>orB (ga δ) (gb δ)):=
 PW.weak (O8 ha hb) λσ H Q ⟨W₀,H₀,W,δ,st,q⟩=>Lp st q λH2 c k st2 _ q2=>by
  cases c with
  |true=>rw[if_pos rfl]at q2 ⊢;exact q2 H2 (Same.refl _)
  |false=>rw[if_neg Bool.false_ne_true]at q2 ⊢;exact⟨W₀,H₀,W,δ,st2,q2⟩
theorem A1(ha:DT X xw a ga):DT X xw (.UnaryOp .Not a pos) (λδ=>(ga δ).bind λk=>.ok (!k)):=
 PT.weak (U4 ha) λσ H Q ⟨W₀,H₀,W,δ,st,q⟩=>Lp st q λH2 c k st2 _ q2=>q2 H2 (Same.refl _)
def MZ(x:Res D)(y:Res D):Res D:=x.bind λk=>match k with
 | .bl true=>y
 | .bl false=>.ok (.bl false)
 |_=>.stuck
theorem Fp{op:D->Res D}(st:StHas X.K W₀ H₀ W H σ δ)(q:RE X.K xw W H ((fa δ).bind op) Q)(h:∀ H2 d v,Same H H2->WL W H2->StHas X.K W₀ H₀ W H2 σ δ->Has X.K W H2 d v->fa δ= .ok d->RE X.K xw W H2 (op d) Q->R v H2):
  AZ X.K xw fa σ H λx H1=>R x H1:=by
 refine⟨W₀,H₀,W,δ,st,?_⟩
 cases h1:fa δ with
 |stuck=>rw[h1]at q;exact q
 |ex c fs=>rw[h1]at q;exact q
 |ok d=>
  rw[h1]at q
  intro v H1 k1 hv
  exact h H1 d v k1 (st.fr.wl.same k1) (st.same k1) hv h1 (RE.same (r:=op d) q k1)
theorem C0{op}(h:DE X xw a fa):DE X xw (.BoolOp op [a] pos) fa:=J4 h
theorem UZ(ha:DE X xw a fa)(hb:DE X xw (.BoolOp .And (b::rest) pos) fb):DE X xw (.BoolOp .And (a::b::rest) pos) (λδ=>MZ (fa δ) (fb δ)):=
 PE.weak (A4 ha hb) λσ H Q ⟨W₀,H₀,W,δ,st,q⟩=>Fp st q λH2 d v k w st2 hv _ q2=>by
  split at q2
  .rw[Has]at hv
   exact⟨true,hv,by rw[if_pos rfl];exact⟨W₀,H₀,W,δ,st2,q2⟩⟩
  .rw[Has]at hv
   exact⟨false,hv,by rw[if_neg Bool.false_ne_true];exact q2.bl⟩
  .exact q2.elim
variable {fs:Ca->Res (List D)}
theorem SZ:DA X xw [] (λ_=>.ok []):=PA.weak Vf λσ H Q ⟨W₀,H₀,W,δ,st,q⟩=>q [] H (Same.refl H) HasL.nil
def VE(x:Res D)(r:Res (List D)):Res (List D):=x.bind λd=>r.bind λds=>.ok (d::ds)
theorem FS(ha:DE X xw a fa)(hr:DA X xw es fs)(hs:starEach (a::es) X.env=(false,eval a X.env)::starEach es X.env:=by rfl):DA X xw (a::es) (λδ=>VE (fa δ) (fs δ)):=
 PA.weak (Ic ha hr hs) λσ H Q ⟨W₀,H₀,W,δ,st,q⟩=>by
  refine⟨W₀,H₀,W,δ,st,?_⟩
  unfold VE at q
  dsimp only at q
  cases h1:fa δ with
  |stuck=>rw[h1]at q;exact q
  |ex c fs=>rw[h1]at q;exact q
  |ok d=>
   rw[h1]at q
   intro v H1 k1 hv
   refine⟨W₀,H₀,W,δ,st.same k1,?_⟩
   have q':RA X.K xw W H ((fs δ).bind λds=>.ok (d::ds)) Q:=q
   cases h2:fs δ with
   |stuck=>rw[h2]at q';exact q'
   |ex c gs=>rw[h2]at q';exact λH2 k2=>q' H2 (k1.trans k2)
   |ok ds=>
    rw[h2]at q'
    intro vs H2 k2 hvs
    have q2:RA X.K xw W H (.ok (d::ds)) Q:=q'
    exact q2 (v::vs) H2 (k1.trans k2) (HasL.cons (hv.same k2 (st.fr.wl.same k1)) hvs)
theorem Dh{op:List D->Res D}{R:List V->Hp->Prop}(st:StHas X.K W₀ H₀ W H σ δ)(q:RE X.K xw W H ((fs δ).bind op) Q)(h:∀ H2 ds vs,Same H H2->WL W H2->StHas X.K W₀ H₀ W H2 σ δ->HasL X.K W H2 ds vs->fs δ= .ok ds->RE X.K xw W H2 (op ds) Q->R vs H2):
  tDA X.K xw fs σ H λx H1=>R x H1:=by
 refine⟨W₀,H₀,W,δ,st,?_⟩
 cases h1:fs δ with
 |stuck=>rw[h1]at q;exact q
 |ex c gs=>rw[h1]at q;exact q
 |ok d=>
  rw[h1]at q
  intro v H1 k1 hv
  exact h H1 d v k1 (st.fr.wl.same k1) (st.same k1) hv h1 (RE.same (r:=op d) q k1)
def Qg(ds:List D):Res D:=@ite (Res D) (ds.length<=1000) (propDecidable _) (.ok (.tup ds)) .stuck
theorem PF:(1000:Nat)<=sizeLine:=by rw[sizeLine_eq];decide
theorem I0{x1}(h:DA X xw es fs):DE X xw (.Tuple es x1 pos) (λδ=>(fs δ).bind Qg):=
 PE.weak (IP h) λσ H Q ⟨W₀,H₀,W,δ,st,q⟩=>Dh st q λH2 ds vs k w st2 hv _ q2=>by
  unfold Qg at q2
  split at q2
  .rename_i hz
   exact⟨by rw[<-hv.length];exact le_trans hz PF,λp hp=>q2.newT w hp hv⟩
  .exact q2.elim
def Cf(ds:List D):Res (List D):=@ite (Res (List D)) (ds.length<=1000) (propDecidable _) (.ok ds) .stuck
theorem K0(h:DA X xw es fs):DF X xw (.List es pos) (λδ=>(fs δ).bind Cf):=
 PE.weak (F4 h) λσ H Q ⟨W₀,H₀,W,δ,st,q⟩=>by
  dsimp only at q
  refine⟨W₀,H₀,W,δ,st,?_⟩
  cases h1:fs δ with
  |stuck=>rw[h1]at q;exact q
  |ex c gs=>rw[h1]at q;exact q
  |ok ds=>
   rw[h1]at q
   intro vs H1 k1 hv
   have q':RF X.K xw W H (Cf ds) Q:=q
   unfold Cf at q'
   split at q'
   .rename_i hz
    exact⟨by rw[<-hv.length];exact le_trans hz PF,λp hp=>q' p vs H1 k1 hp hv⟩
   .exact q'.elim
def Ki:D->D->Res D
 | .tup ds,.int i=>match Ar ds i with
  |some d=>.ok d
  |none=>.stuck
 | .lst ds,.int i=>match Ar ds i with
  |some d=>.ok d
  |none=>.stuck
 | .str z,.int i=>@ite (Res D) (z.length<=sizeLine) (propDecidable _) (match Ar z.cps.toList i with
  |some c=>.ok (.str ⟨#[c]⟩)
  |none=>.stuck) .stuck
 |_,_=>.stuck
theorem ME(r:HasL K W H ds xs)(h:Ar ds i=some d):∃ x,Ar xs i=some x/\Has K W H d x:=by
 unfold Ar at h ⊢
 rw[r.length]at h
 cases e:SY xs.length i with
 |none=>rw[e]at h;cases h
 |some j=>
  rw[e]at h
  obtain⟨x,h1,h2⟩:=r.get (show ds[j]? =some d from h)
  exact⟨x,h1,h2⟩
theorem B7(ha:DP X xw a fa)(hb:DP X xw b fb)(hs:Ln b:=by intro _ _;rfl):DE X xw (.Subscript a b pos) (λδ=>(fa δ).bind λx=>(fb δ).bind λy=>Ki x y):=
 PE.weak (K8 E2 ha hb hs) λσ H Q ⟨W₀,H₀,W,δ,st,q⟩=>Pl st q λH2 d e v u k w hv hu _ _ q2=>by
  unfold Ki at q2
  split at q2
  .split at q2
   .rename_i d' hd
    obtain⟨p,xs,e1,sq,r⟩:=hv.tup
    obtain⟨x,h1,h2⟩:=ME r hd
    exact .inr (.inl ⟨p,xs,_,x,e1,hu.int,sq,h1,q2 x H2 (Same.refl _) h2⟩)
   .exact q2.elim
  .split at q2
   .rename_i d' hd
    obtain⟨p,xs,e1,sq,r⟩:=hv.lst
    obtain⟨x,h1,h2⟩:=ME r hd
    exact .inl ⟨p,xs,_,x,e1,hu.int,sq,h1,q2 x H2 (Same.refl _) h2⟩
   .exact q2.elim
  .split at q2
   .rename_i hz
    split at q2
    .rename_i cc hc
     exact .inr (.inr ⟨_,_,cc,hv.str,hu.int,hz,hc,q2.str⟩)
    .exact q2.elim
   .exact q2.elim
  .exact q2.elim
def DO(X:Cx)(xw:XW)(e:Option Expr)(f:Ca->Res (Option Int)):Prop:=PO X e (λσ H Q=>∃ W₀ H₀ W δ,StHas X.K W₀ H₀ W H σ δ/\match f δ with
 | .ok o=>∀ H',Same H H'->Q o H'
 | .ex c fs=>∀ H',Same H H'->xw c fs H'
 | .stuck=>False)
theorem PO.weak{X:Cx}{e:Option Expr}{t t':TO}(h:PO X e t)(k:∀ σ H Q,t' σ H Q->t σ H Q):PO X e t':=λpins s σ H Q I q=>h pins s σ H Q I (k σ H Q q)
theorem SS:DO X xw none (λ_=>.ok none):=PO.weak VW λσ H Q ⟨_,_,_,_,_,q⟩=>q H (Same.refl H)
def Os:D->Res (Option Int)
 | .int i=>.ok (some i)
 |_=>.stuck
theorem US(h:DE X xw e f):DO X xw (some e) (λδ=>(f δ).bind Os):=PO.weak (WW h) λσ H Q ⟨W₀,H₀,W,δ,st,q⟩=>by
 dsimp only at q
 refine⟨W₀,H₀,W,δ,st,?_⟩
 cases h1:f δ with
 |stuck=>rw[h1]at q;exact q
 |ex c fs=>rw[h1]at q;exact q
 |ok d=>
  rw[h1]at q
  intro v H1 k1 hv
  cases d with
  |int i=>rw[Has]at hv;exact⟨i,hv,q H1 k1⟩
  |_=>exact q.elim
def cutD(xs:List D)(lo hi:Option Int):List D:=(xs.drop (HT.sIx xs.length 0 lo)).take (HT.sIx xs.length xs.length hi-HT.sIx xs.length 0 lo)
theorem CS(r:HasL K W H ds xs)(lo hi:Option Int):HasL K W H (cutD ds lo hi) (UH xs lo hi):=by
 unfold cutD UH
 rw[r.length]
 exact(r.drop _).take _
def whole(n:Nat)(lo hi:Option Int):Prop:=HT.sIx n 0 lo=0/\HT.sIx n n hi=n
instance {n:Nat}{lo hi:Option Int}:Decidable (whole n lo hi):=inferInstanceAs (Decidable (_/\_))
theorem UG{op:D->Option Int->Option Int->Res α}{R:V->Option Int->Option Int->Hp->Prop}{G:Hp->Res α->Prop}(st:StHas X.K W₀ H₀ W H σ δ)(hex:∀ H c gs,G H (.ex c gs)->∀ H',Same H H'->xw c gs H')(hst:∀ H,G H .stuck->False)(hG:∀ H H' r,Same H H'->G H r->G H' r)(q:G H ((fa δ).bind λx=>(fl δ).bind λl=>(fh δ).bind λu=>op x l u))(h:∀ H2 d v l u,Same H H2->WL W H2->HasT X.K W H2 d v->G H2 (op d l u)->R v l u H2):
  RX X.K xw fa σ H λx H1=>(λσ H Q=>∃ W₀ H₀ W δ,StHas X.K W₀ H₀ W H σ δ/\match fl δ with
 | .ok o=>∀ H',Same H H'->Q o H'
 | .ex c fs=>∀ H',Same H H'->xw c fs H'
 | .stuck=>False:TO) σ H1 λl H2=>(λσ H Q=>∃ W₀ H₀ W δ,StHas X.K W₀ H₀ W H σ δ/\match fh δ with
 | .ok o=>∀ H',Same H H'->Q o H'
 | .ex c fs=>∀ H',Same H H'->xw c fs H'
 | .stuck=>False:TO) σ H2 λu H3=>R x l u H3:=by
 refine⟨W₀,H₀,W,δ,st,?_⟩
 cases h1:fa δ with
 |stuck=>rw[h1]at q;exact hst _ q
 |ex c fs=>rw[h1]at q;exact hex _ _ _ q
 |ok d=>
  rw[h1]at q
  intro v H1 k1 hv
  refine⟨W₀,H₀,W,δ,st.same k1,?_⟩
  have q':G H ((fl δ).bind λl=>(fh δ).bind λu=>op d l u):=q
  cases h2:fl δ with
  |stuck=>rw[h2]at q';exact hst _ q'
  |ex c fs=>rw[h2]at q';exact λH2 k2=>hex _ _ _ q' H2 (k1.trans k2)
  |ok l=>
   rw[h2]at q'
   intro H2 k2
   refine⟨W₀,H₀,W,δ,(st.same k1).same k2,?_⟩
   have q2:G H ((fh δ).bind λu=>op d l u):=q'
   cases h3:fh δ with
   |stuck=>rw[h3]at q2;exact hst _ q2
   |ex c fs=>rw[h3]at q2;exact λH3 k3=>hex _ _ _ q2 H3 ((k1.trans k2).trans k3)
   |ok u=>
    rw[h3]at q2
    intro H3 k3
    have w1:=st.fr.wl.same k1
    exact h H3 d v l u ((k1.trans k2).trans k3) (st.fr.wl.same ((k1.trans k2).trans k3)) (hv.same (k2.trans k3) w1) (hG _ _ _ ((k1.trans k2).trans k3) q2)
def N6(d:D)(lo hi:Option Int):Res (List D):=match d with
 | .lst ds=>.ok (cutD ds lo hi)
 |_=>.stuck
theorem M0(ha:DP X xw a fa)(hl:DO X xw lo fl)(hh:DO X xw hi fh):DF X xw (.Subscript a (.Slice lo hi none p2) pos) (λδ=>(fa δ).bind λx=>(fl δ).bind λl=>(fh δ).bind λu=>N6 x l u):=
 PE.weak (FP OX ha hl hh) λσ H Q ⟨W₀,H₀,W,δ,st,q⟩=>UG (G:=λH r=>RF X.K xw W H r Q) st (λ_ _ _ q=>q) (λ_ q=>q) (λ_ _ _ k q=>RF.same q k) q λH2 d v l u k w hv q2=>by
  unfold N6 at q2
  split at q2
  .obtain⟨a1,xs,e1,sq,r⟩:=hv.lst
   exact⟨a1,xs,e1,sq,λp hp=>q2 p _ H2 (Same.refl _) hp (CS r l u)⟩
  .exact q2.elim
end
inductive Out where
 |nx (δ:Ca)|rt (d:D)|bk (δ:Ca)|ct (δ:Ca)|ex (c:Str) (fs:List D)|stuck
structure Step(W:WS)(H:Hp)(W':WS)(H':Hp):Prop where
 keep:Mj W H H'
 new:∀ b,W' b->W b\/H b=none
variable{W1:WS}{H2:Hp}
section
variable {W2:WS}
theorem Step.refl:Step W H W H:=⟨λ_ _ e _=>e,λ_ z=>.inl z⟩
theorem Step.same(k:Same H H1):Step W H W H1:=⟨Same.keep k,λ_ z=>.inl z⟩
theorem Step.trans(a:Step W H W1 H1)(b:Step W1 H1 W2 H2):Step W H W2 H2:=by
 refine⟨λc o e n=>b.keep c o (a.keep c o e n) λz=>?_,λc z=>?_⟩
 .rcases a.new c z with q|q
  .exact n q
  .rw[e]at q;cases q
 .rcases b.new c z with q|q
  .exact a.new c q
  .by_cases hw:W c
   .exact .inl hw
   .right
    cases e:H c with
    |none=>rfl
    |some o=>rw[a.keep c o e hw]at q;cases q
end
section
variable (K:Frag)(xw:XW)
def RS(W₀:WS)(H₀:Hp)(W:WS)(H:Hp)(o:Out)(Dn:Ends):Prop:=match o with
 | .nx δ=>∀ W' H' σ,Step W H W' H'->StHas K W₀ H₀ W' H' σ δ->Dn.nx σ H'
 | .bk δ=>∀ W' H' σ,Step W H W' H'->StHas K W₀ H₀ W' H' σ δ->Dn.bk σ H'
 | .ct δ=>∀ W' H' σ,Step W H W' H'->StHas K W₀ H₀ W' H' σ δ->Dn.ct σ H'
 | .rt d=>∀ v H',Same H₀ H'->Has K W₀ H' d v->Dn.rt v H'
 | .ex c fs=>∀ H',Same H₀ H'->xw c fs H'
 | .stuck=>False
def SX(g:Ca->Out):TS:=λDn σ H=>∃ W₀ H₀ W δ,StHas K W₀ H₀ W H σ δ/\RS K xw W₀ H₀ W H (g δ) Dn
end
def DS(X:Cx)(xw:XW)(st:Stmt)(g:Ca->Out):Prop:=PS X st (SX X.K xw g)
def FK(X:Cx)(xw:XW)(sts:List Stmt)(g:Ca->Out):Prop:=PSs X sts (SX X.K xw g)
variable{t':TS}{st:Stmt}
theorem PS.weak{t:TS}(h:PS X st t)(k:∀ Dn σ H,t' Dn σ H->t Dn σ H):PS X st t':=λpins s σ H Dn I q=>h pins s σ H Dn I (k Dn σ H q)
theorem PSs.weak{st:List Stmt}{t:TS}(h:PSs X st t)(k:∀ Dn σ H,t' Dn σ H->t Dn σ H):PSs X st t':=λpins s σ H Dn I q=>h pins s σ H Dn I (k Dn σ H q)
variable{Dn:Ends}
section
variable {o:Out}
theorem RS.step(h:RS K xw W₀ H₀ W H o Dn)(k:Step W H W1 H1):RS K xw W₀ H₀ W1 H1 o Dn:=by
 cases o with
 |nx δ=>exact λW' H' σ k' st=>h W' H' σ (k.trans k') st
 |bk δ=>exact λW' H' σ k' st=>h W' H' σ (k.trans k') st
 |ct δ=>exact λW' H' σ k' st=>h W' H' σ (k.trans k') st
 |rt d=>exact h
 |ex c fs=>exact h
 |stuck=>exact h
end
def Qk(r:Res α)(k:α->Out):Out:=match r with
 | .ok a=>k a
 | .ex c fs=>.ex c fs
 | .stuck=>.stuck
def Jm(o:Out)(g:Ca->Out):Out:=match o with
 | .nx δ=>g δ
 |o=>o
variable{vs:List V}{k:Nat}{g:Ca->Out}{pos':Pos}{ff fi:Ca->Res (List D)}
section
variable {sts:List Stmt}{g1 g2:Ca->Out}
theorem FT:FK X xw [] .nx:=PSs.weak KG λDn σ H ⟨W₀,H₀,W,δ,st,q⟩=>q W H σ Step.refl st
theorem LL(h1:DS X xw st g1)(h2:FK X xw sts g2):FK X xw (st::sts) (λδ=>Jm (g1 δ) g2):=PSs.weak (Fj h1 h2) λDn σ H ⟨W₀,H₀,W,δ,st,q⟩=>by
 refine⟨W₀,H₀,W,δ,st,?_⟩
 dsimp only at q
 cases h:g1 δ with
 |nx δ'=>
  rw[h]at q
  exact λW' H' σ' k st'=>⟨W₀,H₀,W',δ',st',RS.step (o:=g2 δ') q k⟩
 |bk δ'=>rw[h]at q;exact q
 |ct δ'=>rw[h]at q;exact q
 |rt d=>rw[h]at q;exact q
 |ex c fs=>rw[h]at q;exact q
 |stuck=>rw[h]at q;exact q
theorem GT(h1:DS X xw st g1):FK X xw [st] g1:=Cm h1
theorem Kj{k:D->Out}(st:StHas X.K W₀ H₀ W H σ δ)(q:RS X.K xw W₀ H₀ W H (Qk (f δ) k) Dn)(h:∀ H2 d v,StHas X.K W₀ H₀ W H2 σ δ->Has X.K W H2 d v->RS X.K xw W₀ H₀ W H2 (k d) Dn->R v H2):AZ X.K xw f σ H R:=by
 refine⟨W₀,H₀,W,δ,st,?_⟩
 cases h1:f δ with
 |stuck=>rw[h1]at q;exact q
 |ex c fs=>rw[h1]at q;exact λH' k'=>q H' (st.fr.ext.trans k')
 |ok d=>
  rw[h1]at q
  exact λv H1 k1 hv=>h H1 d v (st.same k1) hv (RS.step (o:=k d) q (Step.same k1))
theorem X0(he:DE X xw e f):DS X xw (.Return (some e) pos) (λδ=>Qk (f δ) λd=>.rt d):=PS.weak (Us he) λDn σ H ⟨W₀,H₀,W,δ,st,q⟩=>
 Kj st q λH2 d v st2 hv q2=>q2 v H2 st2.fr.ext (Has.keep (λ_ _ e _=>e) st2.fr.wl (λb z=>.inl (st2.fr.sub b z)) hv)
theorem ET(i:Nat)(hN:X.N[i]? =some x:=by rfl)(hv:Kq X.env.scope x:=by first|exact Or.inl rfl|exact Or.inr (Or.inl rfl)|exact Or.inr (Or.inr rfl))(hd:(x==("__debug__":Str))=false:=by decide)(hcd:(x==("__classdict__":Str))=false:=by decide):DS X xw (.Return (some (.Name x pos')) pos) (λδ=>Qk (Ga i δ) λd=>.rt d):=PS.weak (Us (Zc hN hv hd hcd)) λDn σ H ⟨W₀,H₀,W,δ,st,q⟩=>by
 have up:∀ b,W₀ b->W b\/H b=none:=λb z=>.inl (st.fr.sub b z)
 unfold Ga at q
 dsimp only at q
 split at q
 .rename_i d h
  obtain⟨v,e,r⟩:=st.at' i _ h
  exact⟨v,e,q v H st.fr.ext (Has.keep (λ_ _ e _=>e) st.fr.wl up r)⟩
 .rename_i ds h
  obtain⟨v,e,a,xs,r1,r2,r3,r4,r5⟩:=st.at' i _ h
  refine⟨v,e,q v H st.fr.ext ?_⟩
  rw[Has]
  refine⟨a,xs,r1,.inl ⟨r4,λz=>?_⟩,HasL.keep (λ_ _ e _=>e) st.fr.wl up r5⟩
  obtain⟨ys,z',_⟩:=st.fr.wl0 a z
  rw[r3]at z';cases z'
 .exact q.elim
theorem Y0(i:Nat)(hN:X.N.Nodup)(he:DE X xw e f)(hi:X.N[i]? =some x:=by rfl)(hx:Cy X.env.scope x:=by first|exact Or.inl rfl|exact Or.inr rfl)(hs:swapsWith e (some (.Name x pos')) pos.line X.env=pure false:=by rfl)(hf:X.fn x=true\/X.env.scope.names.lookup x=some .local:=by first|exact .inl rfl|exact .inr rfl|assumption):DS X xw (.Assign [.Name x pos'] e pos) (λδ=>Qk (f δ) λd=>.nx (δ.set i (some (.d d)))):=
 PS.weak (Vs hN hi hx he hs hf) λDn σ H ⟨W₀,H₀,W,δ,st,q⟩=>Kj st q λH2 d v st2 hv q2=>q2 W H2 _ Step.refl (st2.set hv)
theorem Xz{i:Nat}(st:StHas X.K W₀ H₀ W H σ δ)(q:RS X.K xw W₀ H₀ W H (Qk (ff δ) λds=>.nx (δ.set i (some (.o ds)))) Dn):
  tDF X.K xw ff σ H λx H1=>Bv i x σ H1 Dn.nx:=by
 refine⟨W₀,H₀,W,δ,st,?_⟩
 cases h1:ff δ with
 |stuck=>rw[h1]at q;exact q
 |ex c fs=>rw[h1]at q;exact λH' k'=>q H' (st.fr.ext.trans k')
 |ok ds=>
  rw[h1]at q
  intro a xs H1 k n r
  have st1:=(st.same k).own (i:=i) n r
  refine q _ _ _ ⟨λb o e nb=>?_,λb z=>z.elim .inl λz=>.inr (by rw[z];exact Same.free k n)⟩ st1
  rw[Ha (Pa (k b o e) n)];exact k b o e
theorem U0(i:Nat)(hN:X.N.Nodup)(he:DF X xw e ff)(hi:X.N[i]? =some x:=by rfl)(hx:Cy X.env.scope x:=by first|exact Or.inl rfl|exact Or.inr rfl)(hs:swapsWith e (some (.Name x pos')) pos.line X.env=pure false:=by rfl)(hf:X.fn x=true\/X.env.scope.names.lookup x=some .local:=by first|exact .inl rfl|exact .inr rfl|assumption):DS X xw (.Assign [.Name x pos'] e pos) (λδ=>Qk (ff δ) λds=>.nx (δ.set i (some (.o ds)))):=
 PS.weak (Vs hN hi hx he hs hf) λDn σ H ⟨W₀,H₀,W,δ,st,q⟩=>Xz st q
def ifO(c:Res Bool)(a b:Out):Out:=Qk c λk=>if k=true then a else b
variable {as bs:List Stmt}
theorem D7(hc:DT X xw c ga)(ha:FK X xw as g1)(hb:FK X xw bs g2):DS X xw (.If c as bs pos) (λδ=>ifO (ga δ) (g1 δ) (g2 δ)):=PS.weak (N8 hc ha hb) λDn σ H ⟨W₀,H₀,W,δ,st,q⟩=>by
 refine⟨W₀,H₀,W,δ,st,?_⟩
 unfold ifO at q
 dsimp only at q
 cases h1:ga δ with
 |stuck=>rw[h1]at q;exact q
 |ex c fs=>rw[h1]at q;exact λH' k'=>q H' (st.fr.ext.trans k')
 |ok k=>
  rw[h1]at q
  intro H1 k1
  have q':RS X.K xw W₀ H₀ W H (if k=true then g1 δ else g2 δ) Dn:=q
  cases k with
  |true=>rw[if_pos rfl]at q' ⊢;exact⟨W₀,H₀,W,δ,st.same k1,q'.step (Step.same k1)⟩
  |false=>rw[if_neg Bool.false_ne_true]at q' ⊢;exact⟨W₀,H₀,W,δ,st.same k1,q'.step (Step.same k1)⟩
def tDG(K:Frag)(t:D->Ca->Res Ca):TG:=λv σ H Q=>∃ W₀ H₀ W δ d,StHas K W₀ H₀ W H σ δ/\Has K W H d v/\match t d δ with
 | .ok δ'=>∀ σ',StHas K W₀ H₀ W H σ' δ'->Q σ' H
 |_=>False
def DG(X:Cx)(tg:Expr)(t:D->Ca->Res Ca):Prop:=PG X tg (tDG X.K t)
theorem PG.weak{X:Cx}{tg:Expr}{t t':TG}(h:PG X tg t)(k:∀ v σ H Q,t' v σ H Q->t v σ H Q):PG X tg t':=λpins s σ H v u Q I r q=>h pins s σ H v u Q I r (k v σ H Q q)
def Gb(i:Nat)(d:D)(δ:Ca):Res Ca:=.ok (δ.set i (some (.d d)))
theorem MS(i:Nat)(hN:X.N.Nodup)(hi:X.N[i]? =some x:=by rfl)(hx:Cy X.env.scope x:=by first|exact Or.inl rfl|exact Or.inr rfl)(hf:X.fn x=true\/X.env.scope.names.lookup x=some .local:=by first|exact .inl rfl|exact .inr rfl|assumption):
  DG X (.Name x pos) (Gb i):=PG.weak (MW hN hi hx hf) λv σ H Q ⟨W₀,H₀,W,δ,d,st,hv,q⟩=>q _ (st.set hv)
def Sb0(K:Frag)(t:List D->Ca->Res Ca):SR:=λvs σ H Q=>∃ W₀ H₀ W δ ds,StHas K W₀ H₀ W H σ δ/\HasL K W H ds vs/\match t ds δ with
 | .ok δ'=>∀ σ',StHas K W₀ H₀ W H σ' δ'->Q σ' H
 |_=>False
def Q6(X:Cx)(tgs:List Expr)(t:List D->Ca->Res Ca):Prop:=PGs X tgs (Sb0 X.K t)
theorem PGs.weak{X:Cx}{tg:List Expr}{t t':SR}(h:PGs X tg t)(k:∀ v σ H Q,t' v σ H Q->t v σ H Q):PGs X tg t':=λpins s σ H v u Q I r q=>h pins s σ H v u Q I r (k v σ H Q q)
def Gc(ds:List D)(δ:Ca):Res Ca:=match ds with
 | []=>.ok δ
 |_=>.stuck
def Sa(t:D->Ca->Res Ca)(r:List D->Ca->Res Ca)(ds:List D)(δ:Ca):Res Ca:=match ds with
 |d::ds=>(t d δ).bind λδ'=>r ds δ'
 | []=>.stuck
variable {tgs:List Expr}{t:D->Ca->Res Ca}{ts:List D->Ca->Res Ca}
theorem NS:Q6 X [] Gc:=PGs.weak NW λvs σ H Q ⟨W₀,H₀,W,δ,ds,st,hv,q⟩=>by
 unfold Gc at q
 cases ds with
 |nil=>rw[HasL]at hv;exact⟨hv,q σ st⟩
 |cons=>exact q.elim
theorem FL(h1:DG X tg t)(h2:Q6 X tgs ts)(hs:(assignEach (tg::tgs) X.env).map (·.2)=assign tg X.env::(assignEach tgs X.env).map (·.2):=by rfl):Q6 X (tg::tgs) (Sa t ts):=
 PGs.weak (JP h1 h2 hs) λvs σ H Q ⟨W₀,H₀,W,δ,ds,st,hv,q⟩=>by
  unfold Sa at q
  cases ds with
  |nil=>exact q.elim
  |cons d ds=>
   rw[HasL]at hv
   obtain⟨x,r,e,h,hr⟩:=hv
   refine⟨x,r,e,W₀,H₀,W,δ,d,st,h,?_⟩
   dsimp only at q
   cases h1:t d δ with
   |stuck=>rw[h1]at q;exact q
   |ex c fs=>rw[h1]at q;exact q
   |ok δ'=>
    rw[h1]at q
    exact λσ' st'=>⟨W₀,H₀,W,δ',ds,st',hr,q⟩
def Hc(n:Nat)(ts:List D->Ca->Res Ca)(d:D)(δ:Ca):Res Ca:=match d with
 | .tup ds=>if ds.length=n then ts ds δ else .stuck
 |_=>.stuck
theorem N0(hc:X.calm=true)(h:Q6 X tgs ts)(hn:(assignEach tgs X.env).length=n:=by rfl)(hst:(assignEach tgs X.env).findIdx? (·.1)=none:=by rfl):DG X (.Tuple tgs k pos) (Hc n ts):=
 PG.weak (N4 hc h hn hst) λv σ H Q ⟨W₀,H₀,W,δ,d,st,hv,q⟩=>by
  unfold Hc at q
  cases d with
  |tup ds=>
   dsimp only at q
   split at q
   .rename_i hl
    split at hl
    .rename_i hl'
     rw[Has]at hv
     obtain⟨a,xs,e,sq,r⟩:=hv
     refine⟨a,xs,e,sq,by rw[<-r.length];exact hl',W₀,H₀,W,δ,ds,st,r,?_⟩
     rw[hl]
     exact q
    .cases hl
   .exact q.elim
  |_=>exact q.elim
theorem R0(he:DE X xw e f)(hg:DG X tg t)(hs:swapsWithSole [tg] e pos.line X.env=pure false:=by rfl)(hw:swappedStores [tg] e X.env=pure none:=by rfl)(h1:(assignEach [tg] X.env).map (·.2)= [assign tg X.env]:=by rfl):DS X xw (.Assign [tg] e pos) (λδ=>Qk (f δ) λd=>match t d δ with| .ok δ'=>.nx δ'|_=>.stuck):=
 PS.weak (Ts he hg hs hw h1) λDn σ H ⟨W₀,H₀,W,δ,st,q⟩=>Kj st q λH2 d v st2 hv q2=>by
  refine⟨W₀,H₀,W,δ,d,st2,hv,?_⟩
  split at q2
  .exact λσ' st'=>q2 W H2 σ' Step.refl st'
  .exact q2.elim
def GK(K:Frag)(W:WS)(H:Hp)(J:It)(ds:List D):Prop:=∀ W' H2,Step W H W' H2->WL W' H2->
 (∀ i d,ds[i]? =some d->J.go i H2/\∀ x H3,J.yld i H2 x H3->Same H2 H3/\Has K W' H3 d x)/\J.stop ds.length H2
def tDI(K:Frag)(xw:XW)(f:Ca->Res (List D)):TI:=λσ H R=>∃ W₀ H₀ W δ,StHas K W₀ H₀ W H σ δ/\match f δ with
 | .ok ds=>∀ J H',Same H H'->GK K W H' J ds->R J H'
 | .ex c fs=>∀ H',Same H H'->xw c fs H'
 | .stuck=>False
def DI(X:Cx)(xw:XW)(tg iter:Expr)(f:Ca->Res (List D)):Prop:=PI X tg iter (tDI X.K xw f)
theorem PI.weak{X:Cx}{tg:Expr}{t t':TI}(h:PI X tg iter t)(k:∀ σ H R,t' σ H R->t σ H R):PI X tg iter t':=λpins s σ H R I q=>h pins s σ H R I (k σ H R q)
theorem SqL.lr{a:Addr}(h:LR K W H a xs)(k:Step W H W' H2)(w:WL W H):LR K W' H2 a xs:=h.keep k.keep w k.new
theorem B2{a:Addr}(w:WL W H)(h:LR K W H a xs)(r:HasL K W H ds xs):GK K W H (Itl K a) ds:=by
 intro W' H2 k w2
 have h2:=(SqL.lr h k w).sq
 refine⟨λi d e=>?_,xs,h2,by rw[r.length];exact le_refl _⟩
 obtain⟨x,e1,hx⟩:=r.get e
 refine⟨⟨xs,x,h2,e1⟩,λy H3 z=>?_⟩
 obtain⟨rfl,z⟩:=z
 have:y=x:=by
  have q:=z xs h2
  rw[e1]at q;exact(Option.some.inj q).symm
 subst this
 exact⟨Same.refl _,Has.keep k.keep w k.new hx⟩
theorem C2{a:Addr}(w:WL W H)(h:SqT K H a xs)(r:HasL K W H ds xs):GK K W H (Itt K a) ds:=by
 intro W' H2 k w2
 have h2:=Et k.keep w h
 refine⟨λi d e=>?_,xs,h2,by rw[r.length];exact le_refl _⟩
 obtain⟨x,e1,hx⟩:=r.get e
 refine⟨⟨xs,x,h2,e1⟩,λy H3 z=>?_⟩
 obtain⟨rfl,z⟩:=z
 have:y=x:=by
  have q:=z xs h2
  rw[e1]at q;exact(Option.some.inj q).symm
 subst this
 exact⟨Same.refl _,Has.keep k.keep w k.new hx⟩
def Wh(lo:Int)(n:Nat):List D:=(range n).map λ(i:Nat)=>D.int (lo+i)
theorem HN(lo:Int)(n:Nat):GK K W H (Itr lo n) (Wh lo n):=by
 intro W' H2 k w2
 unfold Wh
 refine⟨λi d e=>?_,by simp[Itr]⟩
 rw[getElem?_map]at e
 have hi:i<n:=by
  refine Nat.lt_of_not_le λz=>?_
  rw[getElem?_eq_none (by simpa using z)]at e;cases e
 rw[getElem?_range hi]at e
 have e':D.int (lo+(i:Nat))=d:=Option.some.inj e
 subst e'
 refine⟨hi,λx H3 z=>?_⟩
 obtain⟨rfl,rfl⟩:=z
 exact⟨Same.refl _,by rw[Has]⟩
def Fo(ds:List D):Res (List D):=match ds with
 | [.int j]=>@ite (Res (List D)) (-(2^62)<=j/\j<2^62) (propDecidable _) (.ok (Wh 0 j.toNat)) .stuck
 |_=>.stuck
def LA(ds:List D):Res (List D):=match ds with
 | [.int i,.int j]=>@ite (Res (List D)) ((-(2^62)<=i/\i<2^62)/\ -(2^62)<=j/\j<2^62) (propDecidable _) (.ok (Wh i (j-i).toNat)) .stuck
 |_=>.stuck
theorem HasL.one(h:HasL K W H [.int i] vs):vs= [.int i]:=by
 rw[HasL]at h
 obtain⟨x,r,rfl,h1,h2⟩:=h
 rw[HasL]at h2
 rw[Has]at h1
 rw[h1,h2]
theorem HasL.two{j:Int}(h:HasL K W H [.int i,.int j] vs):vs= [.int i,.int j]:=by
 rw[HasL]at h
 obtain⟨x,r,rfl,h1,h2⟩:=h
 rw[Has]at h1
 rw[h1,h2.one]
variable {fs:Ca->Res (List D)}{p:Pos}
theorem YH(hm:X.mg "range"=none)(ha:DA X xw [a] fs)(hg:Gl X "range":=by rfl)(hs:starEach [a] X.env= [(false,eval a X.env)]:=by rfl):DI X xw tg (.Call (.Name "range" p) [a] [] pos) (λδ=>(fs δ).bind Fo):=
 PI.weak (JJ hg hm ha hs) λσ H R ⟨W₀,H₀,W,δ,st,q⟩=>by
  refine⟨W₀,H₀,W,δ,st,?_⟩
  dsimp only at q
  cases h1:fs δ with
  |stuck=>rw[h1]at q;exact q
  |ex c fs=>rw[h1]at q;exact q
  |ok ds=>
   rw[h1]at q
   intro vs H1 k1 hv
   dsimp only[Res.bind]at q
   unfold Fo at q
   split at q
   .rename_i ds' hq
    split at hq
    .rename_i j
     split at hq
     .rename_i hj
      have e':Wh 0 j.toNat=ds':=by cases hq;rfl
      subst e'
      exact⟨j,hv.one,hj.1,hj.2,q _ H1 k1 (HN 0 _)⟩
     .cases hq
    .cases hq
   .rename_i hq
    split at hq
    .split at hq<;>cases hq
    .cases hq
   .exact q.elim
theorem ZH(hm:X.mg "range"=none)(ha:DA X xw [a,b] fs)(hg:Gl X "range":=by rfl)(hs:starEach [a,b] X.env= [(false,eval a X.env),(false,eval b X.env)]:=by rfl)(hs2:starEach [b] X.env= [(false,eval b X.env)]:=by rfl):
  DI X xw tg (.Call (.Name "range" p) [a,b] [] pos) (λδ=>(fs δ).bind LA):=
 PI.weak (KJ hg hm ha hs hs2) λσ H R ⟨W₀,H₀,W,δ,st,q⟩=>by
  refine⟨W₀,H₀,W,δ,st,?_⟩
  dsimp only at q
  cases h1:fs δ with
  |stuck=>rw[h1]at q;exact q
  |ex c fs=>rw[h1]at q;exact q
  |ok ds=>
   rw[h1]at q
   intro vs H1 k1 hv
   dsimp only[Res.bind]at q
   unfold LA at q
   split at q
   .rename_i ds' hq
    split at hq
    .rename_i i j
     split at hq
     .rename_i hj
      have e':Wh i (j-i).toNat=ds':=by cases hq;rfl
      subst e'
      exact⟨i,j,hv.two,⟨hj.1.1,hj.1.2,hj.2.1,hj.2.2⟩,q _ H1 k1 (HN i _)⟩
     .cases hq
    .cases hq
   .rename_i hq
    split at hq
    .split at hq<;>cases hq
    .cases hq
   .exact q.elim
def Ng(t:D->Ca->Res Ca)(body:Ca->Out):List D->Ca->Out
 | [],δ=>.nx δ
 |d::ds,δ=>match t d δ with
  | .ok δ'=>match body δ' with
   | .nx δ2=>Ng t body ds δ2
   | .ct δ2=>Ng t body ds δ2
   | .bk δ2=>.nx δ2
   | .rt d=>.rt d
   | .ex c fs=>.ex c fs
   | .stuck=>.stuck
  |_=>.stuck
theorem S0(hp:PassesOwn (model X.prog X.w) X.A X.env X.xe)(hc:X.calm=true)(hi:DI X xw tg iter fi)(hg:DG X tg t)(hb:FK X xw sts g)(hs:∀ x,foldedSetIterable iter X.env x=pure x:=by intro _;rfl):DS X xw (.For tg iter sts [] pos) (λδ=>Qk (fi δ) λds=>Ng t g ds δ):=
 PS.weak (S4 hp hc hi hg hb hs) λDn σ H ⟨W₀,H₀,W,δ,st,q⟩=>by
  refine⟨W₀,H₀,W,δ,st,?_⟩
  dsimp only at q
  cases h1:fi δ with
  |stuck=>rw[h1]at q;exact q
  |ex c fs=>rw[h1]at q;exact λH' k'=>q H' (st.fr.ext.trans k')
  |ok ds=>
   rw[h1]at q
   intro J H1 k1 it
   have q1:RS X.K xw W₀ H₀ W H1 (Ng t g ds δ) Dn:=RS.step (o:=Ng t g ds δ) q (Step.same k1)
   refine⟨λi m σ' H'=>∃ W' δ',m=ds.length-i/\i<=ds.length/\StHas X.K W₀ H₀ W' H' σ' δ'/\Step W H1 W' H'/\RS X.K xw W₀ H₀ W' H' (Ng t g (ds.drop i) δ') Dn,
    ⟨_,W,δ,rfl,zero_le _,st.same k1,Step.refl,q1⟩,?_⟩
   rintro i m σ' H' ⟨W',δ',rfl,hi,st',k',q'⟩
   obtain⟨items,stop⟩:=it W' H' k' st'.fr.wl
   by_cases hl:i<ds.length
   .right
    have e:ds[i]? =some ds[i]:=getElem?_eq_getElem hl
    obtain⟨go,yld⟩:=items i _ e
    have ed:ds.drop i=ds[i]::ds.drop (i+1):=List.drop_eq_getElem_cons hl
    rw[ed]at q'
    unfold Ng at q'
    refine⟨go,λσ2 H2=>∃ W2 δ2,StHas X.K W₀ H₀ W2 H2 σ2 δ2/\Step W H1 W2 H2/\RS X.K xw W₀ H₀ W2 H2 (Ng t g (ds.drop (i+1)) δ2) Dn,λσ2 H2 ⟨W2,δ2,a1,a2,a3⟩=>⟨ds.length-(i+1),by omega,W2,δ2,rfl,hl,a1,a2,a3⟩,λx H3 z=>?_⟩
    obtain⟨k3,hx⟩:=yld x H3 z
    refine⟨W₀,H₀,W',δ',ds[i],st'.same k3,hx,?_⟩
    cases h2:t ds[i] δ' with
    |stuck=>rw[h2]at q';exact q'
    |ex c fs=>rw[h2]at q';exact q'
    |ok δ2=>
     rw[h2]at q'
     intro σ2 st2
     refine⟨W₀,H₀,W',δ2,st2,?_⟩
     dsimp only at q'
     have kk:Step W' H' W' H3:=Step.same k3
     cases h3:g δ2 with
     |nx δ3=>rw[h3]at q';exact λW3 H4 σ3 k4 st3=>⟨W3,δ3,st3,(k'.trans kk).trans k4,RS.step (o:=Ng t g (ds.drop (i+1)) δ3) q' (kk.trans k4)⟩
     |ct δ3=>rw[h3]at q';exact λW3 H4 σ3 k4 st3=>⟨W3,δ3,st3,(k'.trans kk).trans k4,RS.step (o:=Ng t g (ds.drop (i+1)) δ3) q' (kk.trans k4)⟩
     |bk δ3=>rw[h3]at q';exact λW3 H4 σ3 k4 st3=>q' W3 H4 σ3 (kk.trans k4) st3
     |rt d=>rw[h3]at q';exact q'
     |ex c fs=>rw[h3]at q';exact q'
     |stuck=>rw[h3]at q';exact q'
   .left
    have ei:i=ds.length:=by omega
    subst ei
    rw[List.drop_length]at q'
    exact⟨stop,q' W' H' σ' Step.refl st'⟩
def Ie(c:Ca->Res Bool)(body:Ca->Out):Nat->Ca->Out
 |0,_=>.stuck
 |n+1,δ=>match c δ with
  | .ok true=>match body δ with
   | .nx δ2=>Ie c body n δ2
   | .ct δ2=>Ie c body n δ2
   | .bk δ2=>.nx δ2
   | .rt d=>.rt d
   | .ex c fs=>.ex c fs
   | .stuck=>.stuck
  | .ok false=>.nx δ
  | .ex c fs=>.ex c fs
  | .stuck=>.stuck
theorem KL(n:Nat)(hp:PassesOwn (model X.prog X.w) X.A X.env X.xe)(hc:DT X xw c ga)(hb:FK X xw sts g):DS X xw (.While c sts [] pos) (λδ=>Ie ga g n δ):=
 PS.weak (MP hp hc hb) λDn σ H ⟨W₀,H₀,W,δ,st,q⟩=>by
  refine⟨λm σ' H'=>∃ W' δ',StHas X.K W₀ H₀ W' H' σ' δ'/\RS X.K xw W₀ H₀ W' H' (Ie ga g m δ') Dn,⟨n,W,δ,st,q⟩,?_⟩
  rintro m σ' H' ⟨W',δ',st',q'⟩
  cases m with
  |zero=>exact q'.elim
  |succ m=>
   unfold Ie at q'
   refine⟨W₀,H₀,W',δ',st',?_⟩
   cases h1:ga δ' with
   |stuck=>rw[h1]at q';exact q'
   |ex c fs=>rw[h1]at q';exact λH2 k2=>q' H2 (st'.fr.ext.trans k2)
   |ok k=>
    rw[h1]at q'
    intro H2 k2
    cases k with
    |false=>rw[if_neg Bool.false_ne_true];exact q' W' H2 σ' (Step.same k2) (st'.same k2)
    |true=>
     rw[if_pos rfl]
     refine⟨λσ3 H3=>∃ W3 δ3,StHas X.K W₀ H₀ W3 H3 σ3 δ3/\RS X.K xw W₀ H₀ W3 H3 (Ie ga g m δ3) Dn,λσ3 H3 z=>⟨m,lt_succ_self m,z⟩,W₀,H₀,W',δ',st'.same k2,?_⟩
     dsimp only at q'
     have kk:Step W' H' W' H2:=Step.same k2
     cases h3:g δ' with
     |nx δ3=>rw[h3]at q';exact λW3 H4 σ3 k4 st3=>⟨W3,δ3,st3,RS.step (o:=Ie ga g m δ3) q' (kk.trans k4)⟩
     |ct δ3=>rw[h3]at q';exact λW3 H4 σ3 k4 st3=>⟨W3,δ3,st3,RS.step (o:=Ie ga g m δ3) q' (kk.trans k4)⟩
     |bk δ3=>rw[h3]at q';exact λW3 H4 σ3 k4 st3=>q' W3 H4 σ3 (kk.trans k4) st3
     |rt d=>rw[h3]at q';exact q'
     |ex c fs=>rw[h3]at q';exact q'
     |stuck=>rw[h3]at q';exact q'
end
def noex:Res α->Res α
 | .ok a=>.ok a
 |_=>.stuck
def Ke(t:D->Ca->Res Ca)(c:Ca->Res Bool)(fe:Ca->Res D):List D->Ca->Res (List D)
 | [],_=>.ok []
 |d::ds,δ=>match t d δ with
  | .ok δ'=>(noex (c δ')).bind λk=>if k=true then(noex (fe δ')).bind λx=>(Ke t c fe ds δ').bind λr=>.ok (x::r) else Ke t c fe ds δ'
  |_=>.stuck
abbrev Ql:XW:=λ_ _ _=>False
section
variable {a:Addr}
theorem StHas.acc(h:StHas K W₀ (Jb H₀ a (.lst xs)) W H σ δ)(ha:H a=some (.lst xs))(hW:W a):StHas K W₀ (Jb H₀ a (.lst ys)) W (Jb H a (.lst ys)) σ δ:=by
 have kk:Mj W H (Jb H a (.lst ys)):=λb o e n=>by
  rw[Ha (λz=>n (by rw[z];exact hW))];exact e
 have hw:∀ b,W b->W b\/H b=none:=λb z=>.inl z
 have fr':FrOk W₀ (Jb H₀ a (.lst ys)) W (Jb H a (.lst ys)):=by
  refine⟨λb o e=>?_,h.fr.sub,λb z=>?_,λb z=>?_⟩
  .by_cases hb:b=a
   .subst hb;rw[Na]at e ⊢;exact e
   .rw[Ha hb]at e ⊢
    exact h.fr.ext b o (by rw[Ha hb];exact e)
  .by_cases hb:b=a
   .rw[hb];exact⟨_,Na,trivial⟩
   .rw[Ha hb];exact h.fr.wl b z
  .by_cases hb:b=a
   .rw[hb];exact⟨_,Na,trivial⟩
   .have:=h.fr.wl0 b z
    rw[Ha hb]at this ⊢;exact this
 refine⟨fr',h.len,λj s e=>?_,h.ap⟩
 obtain⟨v,h1,h2⟩:=h.at' j s e
 refine⟨v,h1,?_⟩
 cases s with
 |d x=>exact Has.keep kk h.fr.wl hw h2
 |o ds'=>
  obtain⟨b,zs,e',g1,g2,g3,g4⟩:=h2
  have hb:b≠a:=λz=>by
   rw[z,Na]at g2;cases g2
  rw[Ha hb]at g2
  exact⟨b,zs,e',g1,by rw[Ha hb];exact g2,by rw[Ha hb];exact g3,HasL.keep kk h.fr.wl hw g4⟩
 |q ks' ds'=>
  obtain⟨b,zs,e',g1,g2,g3,g4,g5⟩:=h2
  have hb:b≠a:=λz=>by
   rw[z,Na]at g2;cases g2
  rw[Ha hb]at g2
  exact⟨b,zs,e',g1,by rw[Ha hb];exact g2,by rw[Ha hb];exact g3,g4,HasL.keep kk h.fr.wl hw g5⟩
theorem StHas.block(n:Nat)(h:StHas K W₀ H₀ W H σ δ)(ha:H a=none):StHas K W₀ (Jb H₀ a (.lst [])) (λb=>W b\/b=a) (Jb H a (.lst [])) (replicate n none++σ) (replicate n none++δ):=by
 have hw:∀ b,(W b\/b=a)->W b\/H b=none:=λb z=>z.elim .inl λz=>.inr (by rw[z];exact ha)
 have k:Same H (Jb H a (.lst [])):=Xc ha
 have kk:Mj W H (Jb H a (.lst [])):=Same.keep k
 have ha0:H₀ a=none:=Same.free h.fr.ext ha
 have fr':FrOk W₀ (Jb H₀ a (.lst [])) (λb=>W b\/b=a) (Jb H a (.lst [])):=by
  refine⟨λb o e=>?_,λb z=>.inl (h.fr.sub b z),λb z=>z.elim (h.fr.wl.same k b) λz=>by rw[z];exact⟨_,Na,trivial⟩,h.fr.wl0.same (Xc ha0)⟩
  by_cases hb:b=a
  .subst hb;rw[Na]at e ⊢;exact e
  .rw[Ha hb]at e ⊢
   exact h.fr.ext b o e
 have idx:∀ {α:Type} (l:List (Option α)) (j:Nat) (x:α),(replicate n none++l)[j]? =some (some x)->n<=j/\l[j-n]? =some (some x):=λl j x e=>by
  by_cases hj:j<n
  .rw[getElem?_append_left (by simpa using hj),List.getElem?_replicate]at e
   split at e<;>cases e
  .refine⟨Nat.le_of_not_lt hj,?_⟩
   rw[getElem?_append_right (by simpa using hj),length_replicate]at e;exact e
 have back:∀ {α:Type} (l:List (Option α)) (j:Nat) (x:Option α),n<=j->l[j-n]? =some x->(replicate n none++l)[j]? =some x:=λl j x hj e=>by
  rw[getElem?_append_right (by simpa using hj),length_replicate];exact e
 refine⟨fr',by simp[h.len],λj s e=>?_,λi j s1 s2 b hij os ot e1 e2 e3 e4=>?_⟩
 .obtain⟨hj,e⟩:=idx _ _ _ e
  obtain⟨v,h1,h2⟩:=h.at' _ s e
  refine⟨v,back _ _ _ hj h1,?_⟩
  cases s with
  |d x=>exact Has.keep kk h.fr.wl hw h2
  |o ds'=>
   obtain⟨b,ys,e',g1,g2,g3,g4⟩:=h2
   have hb:b≠a:=Pa g3 ha
   exact⟨b,ys,e',.inl g1,by rw[Ha hb];exact g2,k _ _ g3,HasL.keep kk h.fr.wl hw g4⟩
  |q ks' ds'=>
   obtain⟨b,ys,e',g1,g2,g3,g4,g5⟩:=h2
   have hb:b≠a:=Pa g3 ha
   exact⟨b,ys,e',.inl g1,by rw[Ha hb];exact g2,k _ _ g3,g4,HasL.keep kk h.fr.wl hw g5⟩
 .obtain⟨hi,e1⟩:=idx _ _ _ e1
  obtain⟨hj,e2⟩:=idx _ _ _ e2
  obtain⟨_,e3⟩:=idx _ _ _ e3
  obtain⟨_,e4⟩:=idx _ _ _ e4
  exact h.ap (i-n) (j-n) s1 s2 b (by omega) os ot e1 e2 e3 e4
end
variable{r:List V->Hp->VK->Prop}{op:D->Res D}{P:Program}{mg:Str->Option Value}{base:Heap}{m:List D->Res D}{fd:FuncData}{ps:List Str}{id:String}
section
variable {t:D->Ca->Res Ca}{gc:Ca->Res Bool}{fe:Ca->Res D}
def De(n:Nat)(t:D->Ca->Res Ca)(gc:Ca->Res Bool)(fe:Ca->Res D)(δ:Ca)(ds:List D):Res (List D):=@ite (Res (List D)) (ds.length<=100000) (propDecidable _) (noex (Ke t gc fe ds (replicate n none++δ))) .stuck
def R6(X:Cx)(ifs:List Expr)(g:Ca->Res Bool):Prop:=J6 X ifs (R5 X.K Ql g)
theorem IT:R6 X [] (λ_=>.ok true):=λpins s σ H Q I ⟨_,_,_,_,_,q⟩=>ZW pins s σ H Q I (q H (Same.refl H))
theorem JT(h:DT X Ql c gc):R6 X [c] gc:=AX h
theorem Ru{Nc:Nat}(q:tDF X.K xw (λδ=>(fi δ).bind λds=>De Nc t gc fe δ ds) σ H Q):
  NQ Nc (tDI X.K xw fi) (tDG X.K t) (R5 X.K Ql gc) (AZ X.K Ql fe) σ H Q:=by
 obtain⟨W₀,H₀,W,δ,st,q⟩:=q
 refine⟨W₀,H₀,W,δ,st,?_⟩
 dsimp only at q
 cases h1:fi δ with
 |stuck=>rw[h1]at q;exact q
 |ex c fs=>rw[h1]at q;exact q
 |ok ds=>
  rw[h1]at q
  intro J H1 k1 it a ha
  have q1:RF X.K xw W H (De Nc t gc fe δ ds) Q:=q
  unfold De at q1
  split at q1
  case isFalse=>exact q1.elim
  rename_i hlen
  have st1:=st.same k1
  cases hc:Ke t gc fe ds (replicate Nc none++δ) with
  |stuck=>rw[hc]at q1;exact q1.elim
  |ex c fs=>rw[hc]at q1;exact q1.elim
  |ok all=>
  rw[hc]at q1
  have q2:∀ a xs H1,Same H H1->H1 a=none->HasL X.K W H1 all xs->Q (.ref a) (Jb H1 a (.lst xs)):=q1
  refine⟨λi m xs σ' H'=>∃ δ' acc rest,m=ds.length-i/\i<=ds.length/\StHas X.K W₀ (Jb H₀ a (.lst xs)) (λb=>W b\/b=a) H' σ' δ'/\H' a=some (.lst xs)/\(∀ b o,H1 b=some o->H' b=some o)/\
    HasL X.K (λb=>W b\/b=a) H' acc xs/\Ke t gc fe (ds.drop i) δ'=.ok rest/\acc++rest=all/\xs.length<=i,
   ⟨_,replicate Nc none++δ,[],all,rfl,zero_le _,st1.block Nc ha,Na,λb o e=>by rw[Ha (Pa e ha)];exact e,HasL.nil,hc,rfl,zero_le _⟩,?_⟩
  rintro i m xs σ' H' ⟨δ',acc,rest,rfl,hi,st',hxs,ks,hacc,hrest,hall,hxl⟩
  refine⟨hxs,?_⟩
  have k':Step W H1 (λb=>W b\/b=a) H':=⟨λb o e _=>ks b o e,λb z=>z.elim .inl λz=>.inr (by rw[z];exact ha)⟩
  obtain⟨items,stop⟩:=it _ H' k' st'.fr.wl
  by_cases hl:i<ds.length
  .right
   have e:ds[i]? =some ds[i]:=getElem?_eq_getElem hl
   obtain⟨go,yld⟩:=items i _ e
   have ed:ds.drop i=ds[i]::ds.drop (i+1):=List.drop_eq_getElem_cons hl
   rw[ed]at hrest
   unfold Ke at hrest
   refine⟨go,λx H3 z=>?_⟩
   obtain⟨k3,hx⟩:=yld x H3 z
   refine⟨W₀,_,_,δ',ds[i],st'.same k3,hx,?_⟩
   cases h2:t ds[i] δ' with
   |stuck=>rw[h2]at hrest;cases hrest
   |ex c fs=>rw[h2]at hrest;cases hrest
   |ok δ2=>
    rw[h2]at hrest
    dsimp only at hrest
    intro σ2 st2
    refine⟨W₀,_,_,δ2,st2,?_⟩
    cases h3:gc δ2 with
    |stuck=>rw[h3]at hrest;cases hrest
    |ex c fs=>rw[h3]at hrest;cases hrest
    |ok k=>
     rw[h3]at hrest
     intro H4 k4
     cases k with
     |false=>
      rw[if_neg Bool.false_ne_true]
      have hr':Ke t gc fe (ds.drop (i+1)) δ2=.ok rest:=hrest
      exact⟨ds.length-(i+1),by omega,δ2,acc,rest,rfl,hl,st2.same k4,k4 _ _ (k3 _ _ hxs),λb o e=>k4 _ _ (k3 _ _ (ks b o e)),(hacc.same k3 st'.fr.wl).same k4 (st'.fr.wl.same k3),hr',hall,by omega⟩
     |true=>
      rw[if_pos rfl]
      have hr':(noex (fe δ2)).bind (λx=>(Ke t gc fe (ds.drop (i+1)) δ2).bind λr=>.ok (x::r))=.ok rest:=hrest
      refine⟨W₀,_,_,δ2,st2.same k4,?_⟩
      cases h5:fe δ2 with
      |stuck=>rw[h5]at hr';cases hr'
      |ex c fs=>rw[h5]at hr';cases hr'
      |ok y=>
       rw[h5]at hr'
       intro v H5 k5 hv
       have hr2:(Ke t gc fe (ds.drop (i+1)) δ2).bind (λr=>.ok (y::r))=.ok rest:=hr'
       cases h6:Ke t gc fe (ds.drop (i+1)) δ2 with
       |stuck=>rw[h6]at hr2;cases hr2
       |ex c fs=>rw[h6]at hr2;cases hr2
       |ok r=>
        rw[h6]at hr2
        have er:y::r=rest:=by cases hr2;rfl
        have h5a:H5 a=some (.lst xs):=k5 _ _ (k4 _ _ (k3 _ _ hxs))
        have w3:=st'.fr.wl.same k3
        have w4:=w3.same k4
        have w5:=w4.same k5
        have acc5:=((hacc.same k3 st'.fr.wl).same k4 w3).same k5 w4
        have kk:Mj (λb=>W b\/b=a) H5 (Jb H5 a (.lst (xs++ [v]))):=λb o e n=>by
         rw[Ha (λz=>n (.inr z))];exact e
        have sz:sizeLine=16777216:=sizeLine_eq
        refine⟨h5a,by omega,ds.length-(i+1),by omega,δ2,acc++ [y],r,rfl,hl,((st2.same k4).same k5).acc h5a (.inr rfl),Na,λb o e=>?_,HasL.keep kk w5 (λb z=>.inl z) (acc5.snoc hv),h6,?_,?_⟩
        .rw[Ha (Pa e ha)];exact k5 _ _ (k4 _ _ (k3 _ _ (ks b o e)))
        .rw[append_assoc];show acc++(y::r)=all;rw[er];exact hall
        .rw[length_append,length_singleton];omega
  .left
   have ei:i=ds.length:=by omega
   subst ei
   rw[List.drop_length]at hrest
   unfold Ke at hrest
   have er:rest= []:=by cases hrest;rfl
   subst er
   rw[append_nil]at hall
   subst hall
   refine⟨stop,?_⟩
   have hm:(λb=>if b=a then none else H' b:Hp) a=none:=if_pos rfl
   have eu:Jb (λb=>if b=a then none else H' b:Hp) a (.lst xs)=H':=by
    funext b
    by_cases hb:b=a
    .rw[hb,Na,hxs]
    .rw[Ha hb,if_neg hb]
   have r:=q2 a xs (λb=>if b=a then none else H' b) (λb o e=>by
    have e1:=k1 b o e
    show(if b=a then none else H' b)=some o
    rw[if_neg (Pa e1 ha)];exact ks b o e1) hm (HasL.keep (W:=λb=>W b\/b=a) (W':=W) (λb o e n=>by show(if b=a then none else H' b)=some o;rw[if_neg (λz=>n (.inr z))];exact e) st'.fr.wl (λb z=>.inl (.inl z)) hacc)
   rw[eu]at r
   exact r
theorem LS(Nc Nx:List Str)(c:CompOk X scope Nc Nx)(hcalm:X.calm=true)(hi:DI X xw tg iter fi)(hY:∀ (C:Addr) (fp:List Addr) (pins:List (Addr×Obj)) (s:Shared) (H:Hp),DG (Tb X scope Nc Nx C fp pins s H) tg t/\R6 (Tb X scope Nc Nx C fp pins s H) ifs gc/\DE (Tb X scope Nc Nx C fp pins s H) Ql elt fe)(hs:∀ x,foldedSetIterable iter X.env x=pure x:=by intro _;rfl):
  DF X xw (.ListComp elt [⟨tg,iter,ifs,0⟩] scope pos) (λδ=>(fi δ).bind λds=>De Nc.length t gc fe δ ds):=
 PE.weak (CW (g:=tDG X.K t) (tt:=R5 X.K Ql gc) (te:=AZ X.K Ql fe) c hcalm hi hY hs) λσ H Q q=>Ru q
theorem CT(i:Nat)(hN:X.N.Nodup)(Nc Nx:List Str)(c:CompOk X scope Nc Nx)(hcalm:X.calm=true)(hi:DI X xw tg iter fi)(hY:∀ (C:Addr) (fp:List Addr) (pins:List (Addr×Obj)) (s:Shared) (H:Hp),DG (Tb X scope Nc Nx C fp pins s H) tg t/\R6 (Tb X scope Nc Nx C fp pins s H) ifs gc/\DE (Tb X scope Nc Nx C fp pins s H) Ql elt fe)(hiN:X.N[i]? =some x:=by rfl)(hx:Cy X.env.scope x:=by first|exact Or.inl rfl|exact Or.inr rfl)(hsw:swapsWith (.ListComp elt [⟨tg,iter,ifs,0⟩] scope pos) (some (.Name x py)) spos.line X.env=pure true:=by rfl)(hf:X.fn x=true\/X.env.scope.names.lookup x=some .local:=by first|exact .inl rfl|exact .inr rfl|assumption)(hs:∀ x,foldedSetIterable iter X.env x=pure x:=by intro _;rfl):
  DS X xw (.Assign [.Name x py] (.ListComp elt [⟨tg,iter,ifs,0⟩] scope pos) spos) (λδ=>Qk ((fi δ).bind λds=>De Nc.length t gc fe δ ds) λds=>.nx (δ.set i (some (.o ds)))):=
 PS.weak (YW (g:=tDG X.K t) (tt:=R5 X.K Ql gc) (te:=AZ X.K Ql fe) c hcalm hi hY hN hiN hx hsw hf hs) λDn σ H ⟨W₀,H₀,W,δ,st,q⟩=>Ru (Xz st q)
def Hy(i:Nat)(δ:Ca)(r:Res D):Out:=match δ[i]? with
 |some (some (.o ds))=>@ite Out (ds.length<=100000) (propDecidable _) (Qk r λd=>.nx (δ.set i (some (.o (ds++ [d]))))) .stuck
 |_=>.stuck
theorem BI(i:Nat){p1 p3:Pos}(he:DE X xw e f)(hN:X.N[i]? =some x:=by rfl)(hv:Kq X.env.scope x:=by first|exact Or.inl rfl|exact Or.inr (Or.inl rfl)|exact Or.inr (Or.inr rfl))(hd:(x==("__debug__":Str))=false:=by decide)(hcd:(x==("__classdict__":Str))=false:=by decide)(hsE:starEach [e] X.env=(false,eval e X.env)::starEach [] X.env:=by rfl)(hbase:attributeBase (.Name x p1) "append" X.env (eval (.Name x p1) X.env)=eval (.Name x p1) X.env:=by rfl)(hfew:((backTo p3 (starEach [e] X.env)).all (λx=> !x.1)&&(backToKw p3 (keywordEach [] X.env)).all (λx=>x.1.isSome)
   &&decide (([e]:List Expr).length+([]:List Keyword).length+(if([]:List Keyword).isEmpty then 0 else 1)<30))=true:=by rfl)(hline:(p2.endLine==p3.line)=true:=by rfl)(hplain:(backTo p3 (starEach [] X.env)).any (·.1)=false:=by rfl)(hsw:swapsWith (.Call (.Attribute (.Name x p1) "append" p2) [e] [] p3) none pos.line X.env=pure false:=by rfl):
  DS X xw (.Expr (.Call (.Attribute (.Name x p1) "append" p2) [e] [] p3) pos) (λδ=>Hy i δ (f δ)):=
 PS.weak (Do (VY PySem.F.plainAttrs_list PySem.F.slot_list_append PySem.F.type_list_append Mv (Zc hN hv hd hcd) (Ic he Vf hsE) hbase hfew hline hsE hplain) hsw) λDn σ H ⟨W₀,H₀,W,δ,st,q⟩=>by
  unfold Hy at q
  dsimp only at q
  split at q
  .rename_i ds h
   split at q
   .rename_i hlen
    obtain⟨v,e1,a,xs,rfl,r2,r3,r4,r5⟩:=st.at' i _ h
    refine⟨_,e1,.inl ⟨rfl,xs,.of r4⟩,?_⟩
    refine Kj st q λH2 d u st2 hu q2=>?_
    obtain⟨v',e1',a',ys,e',r2',r3',r4',r5'⟩:=st2.at' i _ h
    rw[e1]at e1'
    cases e1'
    cases e'
    have sz:sizeLine=16777216:=sizeLine_eq
    refine⟨a,ys,u,rfl,rfl,r4',?_,?_⟩
    .rw[<-r5'.length];omega
    .refine q2 W _ σ ⟨λb o e n=>?_,λ_ z=>.inl z⟩ (st2.change h e1 r4' r2' (r5'.snoc hu))
     rw[Ha (λz=>n (by rw[z];exact r2'))];exact e
   .exact q.elim
  .exact q.elim
def O6(K:Frag)(n:Nat)(m:List D->Res D):Sp:=λvs H Q _=>vs.length=n/\∃ W ds,WL W H/\HasL K W H ds vs/\match m ds with
 | .ok d=>∀ v H',Same H H'->Has K W H' d v->Q v H'
 |_=>False
structure Fn(P:Program)(w:World)(K:Frag)(mg:Str->Option Value)(base:Heap)(k:Nat)(x:Str)(n:Nat)(m:List D->Res D):Prop where
 ex:∃ f fd ps,FnOk P w K mg base Po k f fd ps (O6 K n m)/\mg x=some (.ref f)/\keepIn K (.ref f)=true/\Binds K fd ps []
theorem Fn.mono(F:Fn P w K mg base j x n m)(h:j<=k):Fn P w K mg base k x n m:=by
 obtain⟨f,fd,ps,a,b⟩:=F.ex
 exact⟨f,fd,ps,a.mono h,b⟩
def Ob(n:Nat)(ds:List D):Ca:=ds.map (λd=>some (.d d))++replicate (n-ds.length) none
def Pg(n:Nat)(g:Ca->Out)(ds:List D):Res D:=match g (Ob n ds) with
 | .rt d=>.ok d
 | .nx _=>.ok .non
 |_=>.stuck
theorem Ij{N:List Str}(w:WL W H)(r:HasL K W H ds vs):StHas K W H W H (L2.start N vs) (Ob N.length ds):=by
 have hl:=r.length
 have idx:∀ {α:Type} (l:List α) (j:Nat) (x:α) (m:Nat),(l.map some++replicate m none)[j]? =some (some x)->l[j]? =some x:=λl j x m e=>by
  by_cases hj:j<l.length
  .rw[getElem?_append_left (by simpa using hj),getElem?_map]at e
   cases q:l[j]? with
   |none=>rw[q]at e;cases e
   |some z=>rw[q]at e;cases e;rfl
  .rw[getElem?_append_right (by simpa using hj),List.getElem?_replicate]at e
   split at e<;>cases e
 have eS:Ob N.length ds=(ds.map S.d).map some++replicate (N.length-ds.length) none:=by
  unfold Ob;rw[map_map];rfl
 refine⟨⟨Same.refl _,λ_ z=>z,w,w⟩,?_,λi s e=>?_,λi j s1 s2 a _ os ot e1 _ _ _=>?_⟩
 .unfold L2.start Ob;simp[hl]
 .rw[eS]at e
  have e':=idx _ _ _ _ e
  rw[getElem?_map]at e'
  cases q:ds[i]? with
  |none=>rw[q]at e';cases e'
  |some d=>
   rw[q]at e'
   cases e'
   obtain⟨x,h1,h2⟩:=r.get q
   refine⟨x,?_,h2⟩
   unfold L2.start
   have hi:i<vs.length:=(List.getElem?_eq_some_iff.mp h1).1
   rw[getElem?_append_left (by simpa using hi),getElem?_map,h1];rfl
 .rw[eS]at e1
  have e':=idx _ _ _ _ e1
  rw[getElem?_map]at e'
  cases q:ds[i]? with
  |none=>rw[q]at e';cases e'
  |some d=>rw[q]at e';cases e';exact os
theorem ZT{fa:Addr}{N:List Str}(F:Fun K x qual st fa fd)(S:FnScope N ps (Da st))(hm:mg x=some (.ref fa))(hb:Binds K fd ps [])(body:∀ (cdv:Value) (A:Around) (outer:List Env) (s:Shared) (H:Hp) (E:XK),Room k (A.deeper (envOfC qual (Da st) s.heap.objs.size fa cdv))->
   FK (Kk Po P w K mg base N qual (Da st) fa cdv A outer s H E).nox Ql (Fb st) g):Fn P w K mg base (k+1) x ps.length (Pg N.length g):=by
 refine⟨fa,fd,ps,F.ok S (λvs H Q E h=>h.1) (λcdv A outer s H vs Q E hr h=>?_),hm,F.kp,hb⟩
 obtain⟨hl,W,ds,hw,hd,q⟩:=h
 refine⟨_,body cdv A outer s H E hr,W,H,W,Ob N.length ds,Ij hw hd,?_⟩
 unfold Pg at q
 cases h:g (Ob N.length ds) with
 |rt d=>rw[h]at q;exact λv H' k hv=>q v H' k hv
 |nx δ=>rw[h]at q;exact λW' H' σ' k st'=>q .non H' st'.fr.ext (by rw[Has])
 |bk δ=>rw[h]at q;exact q.elim
 |ct δ=>rw[h]at q;exact q.elim
 |ex c fs=>rw[h]at q;exact q.elim
 |stuck=>rw[h]at q;exact q.elim
def Wa(n:Nat)(m:List D->Res D)(ds:List D):Res D:=if ds.length=n then noex (m ds) else .stuck
theorem HS{a:Expr}{fs:Ca->Res (List D)}{p:Pos}(F:Fn X.prog X.w X.K X.mg X.base k x n m)(hr:Room k X.A)(ha:DA X xw (a::es) fs)(hg:Gl X x:=by rfl)(hdb:(x==("__debug__":Str))=false:=by decide)(he:starEach (a::es) X.env=(false,eval a X.env)::starEach es X.env:=by rfl)(hpl:(backTo pos (starEach es X.env)).any (·.1)=false:=by rfl):
  DE X xw (.Call (.Name x p) (a::es) [] pos) (λδ=>(fs δ).bind λds=>Wa n m ds):=by
 obtain⟨fa,fd,ps,G,hm,hk,hb⟩:=F.ex
 refine PE.weak (Co G hr hg hm hk hb .nil UY ha hdb he hpl) λσ H Q ⟨W₀,H₀,W,δ,st,q⟩=>?_
 refine Dh st q λH2 ds vs k w st2 hv _ q2=>?_
 unfold Wa at q2
 split at q2
 .rename_i hn
  rw[append_nil]
  refine⟨by rw[<-hv.length];exact hn,W,ds,w,hv,?_⟩
  cases h:m ds with
  |ok d=>rw[h]at q2;exact q2
  |ex c fs=>rw[h]at q2;exact q2
  |stuck=>rw[h]at q2;exact q2
 .exact q2.elim
theorem WH{a:Expr}{fa:Ca->Res D}{p:Pos}(hc:Rg X (.builtin id) r)(hop:∀ W H d v Q,WL W H->HasT X.K W H d v->RE X.K xw W H (op d) Q->r [v] H Q)(hm:X.mg x=none)(hv:bootBuiltins x=some (.builtin id))(ha:DP X xw a fa)(hg:Gl X x)(hn:x≠"__name__")(hdb:(x==("__debug__":Str))=false)(he:starEach [a] X.env=(false,eval a X.env)::starEach [] X.env)(hpl:(backTo pos (starEach [] X.env)).any (·.1)=false):DE X xw (.Call (.Name x p) [a] [] pos) (λδ=>(fa δ).bind op):=
 PE.weak (Dj hc hg hm hv (Ic ha Vf he) hn hdb he hpl) λσ H Q ⟨W₀,H₀,W,δ,st,q⟩=>Qh st q λH2 d v k w st2 hv _ q2=>hop W H2 d v Q w hv q2
theorem So{a:Expr}{fa:Ca->Res D}{p:Pos}(hc:Rg X (.type id) r)(hop:∀ W H d v Q,WL W H->HasT X.K W H d v->RE X.K xw W H (op d) Q->r [v] H Q)(hm:X.mg x=none)(hv:bootBuiltins x=some (.type id))(ha:DP X xw a fa)(hg:Gl X x)(hn:x≠"__name__")(hdb:(x==("__debug__":Str))=false)(he:starEach [a] X.env=(false,eval a X.env)::starEach [] X.env)(hpl:(backTo pos (starEach [] X.env)).any (·.1)=false):DE X xw (.Call (.Name x p) [a] [] pos) (λδ=>(fa δ).bind op):=
 PE.weak (Rv hc hg hm hv (Ic ha Vf he) hn hdb he hpl) λσ H Q ⟨W₀,H₀,W,δ,st,q⟩=>Qh st q λH2 d v k w st2 hv _ q2=>hop W H2 d v Q w hv q2
def Yj:D->Res D
 | .tup ds=>.ok (.int ds.length)
 | .lst ds=>.ok (.int ds.length)
 | .str z=>@ite (Res D) (z.length<=sizeLine) (propDecidable _) (.ok (.int z.length)) .stuck
 |_=>.stuck
variable {p:Pos}
theorem YZ(hm:X.mg "len"=none)(ha:DP X xw a fa)(hg:Gl X "len":=by rfl)(he:starEach [a] X.env=(false,eval a X.env)::starEach [] X.env:=by rfl)(hpl:(backTo pos (starEach [] X.env)).any (·.1)=false:=by rfl):
  DE X xw (.Call (.Name "len" p) [a] [] pos) (λδ=>(fa δ).bind Yj):=
 WH UK (λW H d v Q w hv q=>by
  unfold Yj at q
  split at q
  .obtain⟨p,xs,e,sq,r⟩:=hv.tup
   rw[e]
   exact⟨_,xs.length,rfl,.inr ⟨xs,sq,rfl⟩,by rw[<-r.length];exact q.int⟩
  .obtain⟨p,xs,e,sq,r⟩:=hv.lst
   rw[e]
   exact⟨_,xs.length,rfl,.inl ⟨xs,sq,rfl⟩,by rw[<-r.length];exact q.int⟩
  .split at q
   .rename_i hz
    rw[hv.str]
    exact⟨_,_,rfl,⟨hz,rfl⟩,q.int⟩
   .exact q.elim
  .exact q.elim) hm PySem.boot_len ha hg (by decide) (by decide) he hpl
def tyD:D->Option String
 | .non=>some "NoneType"
 | .bl _=>some "bool"
 | .int _=>some "int"
 | .str _=>some "str"
 | .tup _=>some "tuple"
 | .lst _=>some "list"
 | .dct _ _=>some "dict"
 | .exc _ _=>none
 | .obj _ _ _=>none
def IU(T C:String):Bool:=T==C||(T=="bool"&&C=="int")
def Im(C:String)(d:D):Res D:=match tyD d with
 |some T=>.ok (.bl (IU T C))
 |none=>.stuck
def Ur(C:String):Prop:=∀ (K:Frag),∀ T∈ ["NoneType","bool","int","str","tuple","list","dict"],kitOne K (.type T) (.type C)=some (IU T C)
theorem JU:Ur "int":=by intro K T hT;simp only[mem_cons,not_mem_nil,or_false]at hT;rcases hT with rfl|rfl|rfl|rfl|rfl|rfl|rfl<;>kernel_rfl
theorem Mz:Ur "bool":=by intro K T hT;simp only[mem_cons,not_mem_nil,or_false]at hT;rcases hT with rfl|rfl|rfl|rfl|rfl|rfl|rfl<;>kernel_rfl
theorem Yo:Ur "tuple":=by intro K T hT;simp only[mem_cons,not_mem_nil,or_false]at hT;rcases hT with rfl|rfl|rfl|rfl|rfl|rfl|rfl<;>kernel_rfl
theorem TK{C:String}(hC:Ur C):Rg X (.builtin "isinstance") (λxs H Q=>∃ W d x T,xs= [x,.ty C]/\HasT X.K W H d x/\tyD d=some T/\Q (.bl (IU T C)) H):=by
 intro pins s σ H xs us Q I r h
 obtain⟨W,d,x,T,rfl,hd,ht,q⟩:=h
 obtain⟨u,u2,rfl,rx,rc⟩:=r.two
 obtain rfl:u2=Value.type C:=rc
 have hk:=hC X.K T (by cases d<;>cases ht<;>simp)
 have fin:∀ tk,EP X pins σ Q (.bool (IU T C)) {s with toks:=tk}:=λtk=>⟨.bl _,H,I.tok tk,rfl,q⟩
 cases d with
 |non=>
  cases ht
  have:=hd.non;subst this
  cases (show u=Value.none from rx)
  exact kia_one PySem.W.kitx_none I.kIn True.intro hk (λz=>nomatch z) fin
 |bl b=>
  cases ht
  have:=hd.bl;subst this
  cases (show u=Value.bool b from rx)
  exact kia_one PySem.W.kitx_bool I.kIn True.intro hk (λz=>nomatch z) fin
 |int b=>
  cases ht
  have:=hd.int;subst this
  obtain⟨t,rfl⟩:=(show ∃ t,u=Value.int b t from rx)
  exact kia_one PySem.W.kitx_int I.kIn True.intro hk (λz=>nomatch z) fin
 |str b=>
  cases ht
  have:=hd.str;subst this
  obtain⟨t,rfl⟩:=(show ∃ t,u=Value.str b t from rx)
  exact kia_one PySem.W.kitx_str I.kIn True.intro hk (λz=>nomatch z) fin
 |tup ds=>
  cases ht
  obtain⟨a,xs,rfl,sq,_⟩:=hd.tup
  cases (show u=Value.ref a from rx)
  obtain⟨its,_,⟨o,h1,h2,_⟩,_⟩:=I.tuple sq
  exact kia_one PySem.W.kitx_tuple I.kIn ⟨o,h1,h2⟩ hk (λz=>nomatch z) fin
 |lst ds=>
  cases ht
  obtain⟨a,xs,rfl,sq,_⟩:=hd.lst
  cases (show u=Value.ref a from rx)
  obtain⟨its,_,⟨o,n,h1,h2,_⟩,_⟩:=I.list sq
  exact kia_one PySem.W.kitx_list I.kIn ⟨o,h1,h2⟩ hk (λz=>nomatch z) fin
 |dct ks ds=>
  cases ht
  rcases hd with hd|⟨_,_,_,z,_⟩
  .rw[Has]at hd
   obtain⟨a,kvs,rfl,⟨ob,ea⟩,_⟩:=hd
   cases (show u=Value.ref a from rx)
   obtain⟨_,_,_,vs,_,p⟩:=(show ObjOk X.prog X.w H s.heap a (.frz ob (.dK kvs)) from I.hok a _ ea)
   obtain⟨o,es,ep,h1,h2,_⟩:=p
   exact kia_one PySem.W.kitx_dict I.kIn ⟨o,h1,h2.1⟩ hk (λz=>nomatch z) fin
  .cases z
 |exc c ds=>cases ht
 |obj c k ds=>cases ht
theorem XZ{C:String}{c:Str}(hC:Ur C)(hbc:bootBuiltins c=some (.type C))(hm:X.mg "isinstance"=none)(hmc:X.mg c=none)(ha:DP X xw a fa)(hg:Gl X "isinstance":=by rfl)(hgc:Gl X c:=by rfl)(hcn:c≠"__name__":=by decide)(hcd:(c==("__debug__":Str))=false:=by decide)(he:starEach [a, .Name c p2] X.env=(false,eval a X.env)::starEach [.Name c p2] X.env:=by rfl)(he2:starEach [.Name c p2] X.env=(false,eval (.Name c p2) X.env)::starEach [] X.env:=by rfl)(hpl:(backTo pos (starEach [.Name c p2] X.env)).any (·.1)=false:=by rfl):
  DE X xw (.Call (.Name "isinstance" p) [a, .Name c p2] [] pos) (λδ=>(fa δ).bind (Im C)):=
 PE.weak (Dj (TK hC) hg hm (by decide +kernel) (Ic ha (Ic (Lx (v:=.ty C) hgc hmc hbc rfl hcn hcd) Vf he2) he) (by decide) (by decide) he hpl) λσ H Q ⟨W₀,H₀,W,δ,st,q⟩=>Qh st q λH2 d v k w st2 hv _ q2=>by
  unfold Im at q2
  split at q2
  .rename_i T hT
   exact⟨W,d,v,T,rfl,hv,hT,q2.bl⟩
  .exact q2.elim
end
def kD(d:D):Ca->Res D:=λ_=>.ok d
def b1(op:α->Res β)(f:Ca->Res α):Ca->Res β:=λδ=>(f δ).bind op
def b2(op:D->D->Res D)(f g:Ca->Res D):Ca->Res D:=λδ=>(f δ).bind λx=>(g δ).bind λy=>op x y
def b3(op:D->Option Int->Option Int->Res β)(f:Ca->Res D)(g h:Ca->Res (Option Int)):Ca->Res β:=λδ=>(f δ).bind λx=>(g δ).bind λl=>(h δ).bind λu=>op x l u
def tR(f:Ca->Res D):Ca->Res Bool:=λδ=>(f δ).bind Gr
def Um(a b:Ca->Res Bool):Ca->Res Bool:=λδ=>LZ (a δ) (b δ)
def Pk(a b:Ca->Res Bool):Ca->Res Bool:=λδ=>orB (a δ) (b δ)
def Gi(a:Ca->Res Bool):Ca->Res Bool:=λδ=>(a δ).bind λk=>.ok (!k)
def X5(a b:Ca->Res D):Ca->Res D:=λδ=>MZ (a δ) (b δ)
def Qa:Ca->Res (List D):=λ_=>.ok []
def Aa(f:Ca->Res D)(fs:Ca->Res (List D)):Ca->Res (List D):=λδ=>VE (f δ) (fs δ)
def Qm:Ca->Res (Option Int):=λ_=>.ok none
def Bf(f:Ca->Res (List D)):Ca->Res D:=λδ=>(f δ).bind λds=>.ok (.lst ds)
def Fc(n:Nat)(t:D->Ca->Res Ca)(gc:Ca->Res Bool)(fe:Ca->Res D)(fi:Ca->Res (List D)):Ca->Res (List D):=λδ=>(fi δ).bind λds=>De n t gc fe δ ds
def Ab(g1 g2:Ca->Out):Ca->Out:=λδ=>Jm (g1 δ) g2
def Jc(i:Nat)(f:Ca->Res D):Ca->Out:=λδ=>Qk (f δ) λd=>.nx (δ.set i (some (.d d)))
def Sh(i:Nat)(f:Ca->Res (List D)):Ca->Out:=λδ=>Qk (f δ) λds=>.nx (δ.set i (some (.o ds)))
def Dg(c:Ca->Res Bool)(a b:Ca->Out):Ca->Out:=λδ=>ifO (c δ) (a δ) (b δ)
def Kf(t:D->Ca->Res Ca)(g:Ca->Out)(fi:Ca->Res (List D)):Ca->Out:=λδ=>Qk (fi δ) λds=>Ng t g ds δ
def QD(n:Nat)(c:Ca->Res Bool)(g:Ca->Out):Ca->Out:=λδ=>Ie c g n δ
def Xs(i:Nat)(f:Ca->Res D):Ca->Out:=λδ=>Hy i δ (f δ)
def Rb(f:Ca->Res D):Ca->Out:=λδ=>Qk (f δ) λd=>.rt d
def JH(t:D->Ca->Res Ca)(δ:Ca)(d:D):Out:=match t d δ with
 | .ok δ'=>.nx δ'
 |_=>.stuck
def OD(t:D->Ca->Res Ca)(f:Ca->Res D):Ca->Out:=λδ=>Qk (f δ) (JH t δ)
section
variable {p:Pos}{t:D->Ca->Res Ca}{fs:Ca->Res (List D)}
theorem ZS(he:DE X xw e f)(hg:DG X tg t)(hs:swapsWithSole [tg] e pos.line X.env=pure false:=by rfl)(hw:swappedStores [tg] e X.env=pure none:=by rfl)(h1:(assignEach [tg] X.env).map (·.2)= [assign tg X.env]:=by rfl):DS X xw (.Assign [tg] e pos) (OD t f):=
 PS.weak (R0 he hg hs hw h1) λDn σ H ⟨W₀,H₀,W,δ,st,q⟩=>⟨W₀,H₀,W,δ,st,by
  change RS X.K xw W₀ H₀ W H (Qk (f δ) (JH t δ)) Dn at q
  dsimp only
  cases hf:f δ with
  |stuck=>rw[hf]at q;exact q
  |ex c fs=>rw[hf]at q;exact q
  |ok d=>
   rw[hf]at q
   have q':RS X.K xw W₀ H₀ W H (JH t δ d) Dn:=q
   unfold JH at q'
   show RS X.K xw W₀ H₀ W H (match t d δ with| .ok δ'=>.nx δ'|_=>.stuck) Dn
   cases ht:t d δ with
   |ok δ'=>rw[ht]at q';exact q'
   |ex c fs=>rw[ht]at q';exact q'
   |stuck=>rw[ht]at q';exact q'⟩
theorem Ov{op:D->Res (List D)}(st:StHas X.K W₀ H₀ W H σ δ)(q:RF X.K xw W H ((fa δ).bind op) Q)(h:∀ H2 d v,Same H H2->WL W H2->StHas X.K W₀ H₀ W H2 σ δ->HasT X.K W H2 d v->fa δ= .ok d->RF X.K xw W H2 (op d) Q->R v H2):
  RX X.K xw fa σ H λx H1=>R x H1:=by
 refine⟨W₀,H₀,W,δ,st,?_⟩
 cases h1:fa δ with
 |stuck=>rw[h1]at q;exact q
 |ex c fs=>rw[h1]at q;exact q
 |ok d=>
  rw[h1]at q
  intro v H1 k1 hv
  exact h H1 d v k1 (st.fr.wl.same k1) (st.same k1) hv h1 (RF.same (r:=op d) q k1)
def Qd:D->Res (List D)
 | .tup ds=>.ok ds
 | .lst ds=>.ok ds
 |_=>.stuck
theorem XH(hm:X.mg "list"=none)(ha:DP X xw a fa)(hg:Gl X "list":=by rfl)(he:starEach [a] X.env=(false,eval a X.env)::starEach [] X.env:=by rfl)(hpl:(backTo pos (starEach [] X.env)).any (·.1)=false:=by rfl):
  DF X xw (.Call (.Name "list" p) [a] [] pos) (b1 Qd fa):=
 PE.weak (Rv Dw hg hm (by decide +kernel) (Ic ha Vf he) (by decide) (by decide) he hpl) λσ H Q ⟨W₀,H₀,W,δ,st,q⟩=>Ov st q λH2 d v k w st2 hv _ q2=>by
  unfold Qd at q2
  split at q2
  .obtain⟨p,xs,e,sq,r⟩:=hv.tup
   rw[e]
   exact⟨p,xs,rfl,.inr sq,λl hl=>q2 l xs H2 (Same.refl _) hl r⟩
  .obtain⟨p,xs,e,sq,r⟩:=hv.lst
   rw[e]
   exact⟨p,xs,rfl,.inl sq,λl hl=>q2 l xs H2 (Same.refl _) hl r⟩
  .exact q2.elim
def Se:D->Res D
 | .tup ds=>.ok (.tup ds)
 | .lst ds=>.ok (.tup ds)
 |_=>.stuck
theorem EL(hm:X.mg "tuple"=none)(ha:DP X xw a fa)(hg:Gl X "tuple":=by rfl)(he:starEach [a] X.env=(false,eval a X.env)::starEach [] X.env:=by rfl)(hpl:(backTo pos (starEach [] X.env)).any (·.1)=false:=by rfl):
  DE X xw (.Call (.Name "tuple" p) [a] [] pos) (b1 Se fa):=
 So Qt (λW H d v Q w hv q2=>by
  unfold Se at q2
  split at q2
  .obtain⟨p,xs,e,sq,r⟩:=hv.tup
   rw[e]
   exact⟨p,xs,rfl,.inr ⟨sq,q2 _ H (Same.refl _) (by rw[Has];exact⟨p,xs,rfl,sq,r⟩)⟩⟩
  .obtain⟨p,xs,e,sq,r⟩:=hv.lst
   rw[e]
   exact⟨p,xs,rfl,.inl ⟨sq,λl hl=>q2.newT w hl r⟩⟩
  .exact q2.elim) hm (by decide +kernel) ha hg (by decide) (by decide) he hpl
theorem Tu{op:List D->Res D}(hc:Rg X (.builtin id) r)(hop:∀ W H ds vs Q,WL W H->HasL X.K W H ds vs->RE X.K xw W H (op ds) Q->r vs H Q)(hm:X.mg x=none)(hv:bootBuiltins x=some (.builtin id))(ha:DA X xw (a::es) fs)(hg:Gl X x)(hn:x≠"__name__")(hdb:(x==("__debug__":Str))=false)(he:starEach (a::es) X.env=(false,eval a X.env)::starEach es X.env)(hpl:(backTo pos (starEach es X.env)).any (·.1)=false):DE X xw (.Call (.Name x p) (a::es) [] pos) (b1 op fs):=
 PE.weak (Dj hc hg hm hv ha hn hdb he hpl) λσ H Q ⟨W₀,H₀,W,δ,st,q⟩=>Dh st q λH2 ds vs k w st2 hv _ q2=>hop W H2 ds vs Q w hv q2
def YN:List D->Res D
 | [.int i,.int j]=>.ok (.int (max i j))
 |_=>.stuck
def ZI:List D->Res D
 | [.int i,.int j]=>.ok (.int (min i j))
 |_=>.stuck
theorem JS{b:Expr}(hc:X.calm=true)(hm:X.mg "max"=none)(ha:DA X xw [a,b] fs)(hg:Gl X "max":=by rfl)(he:starEach [a,b] X.env=(false,eval a X.env)::starEach [b] X.env:=by rfl)(hpl:(backTo pos (starEach [b] X.env)).any (·.1)=false:=by rfl):
  DE X xw (.Call (.Name "max" p) [a,b] [] pos) (b1 YN fs):=
 Tu (PH hc) (λW H ds vs Q w hv q=>by
  unfold YN at q
  split at q
  .rename_i i j
   refine⟨i,j,hv.two,?_⟩
   have e:(if j>i then j else i)=max i j:=by split<;>omega
   rw[e]
   exact q.int
  .exact q.elim) hm (by decide +kernel) ha hg (by decide) (by decide) he hpl
theorem KS{b:Expr}(hc:X.calm=true)(hm:X.mg "min"=none)(ha:DA X xw [a,b] fs)(hg:Gl X "min":=by rfl)(he:starEach [a,b] X.env=(false,eval a X.env)::starEach [b] X.env:=by rfl)(hpl:(backTo pos (starEach [b] X.env)).any (·.1)=false:=by rfl):
  DE X xw (.Call (.Name "min" p) [a,b] [] pos) (b1 ZI fs):=
 Tu (QH hc) (λW H ds vs Q w hv q=>by
  unfold ZI at q
  split at q
  .rename_i i j
   refine⟨i,j,hv.two,?_⟩
   have e:(if j<i then j else i)=min i j:=by split<;>omega
   rw[e]
   exact q.int
  .exact q.elim) hm (by decide +kernel) ha hg (by decide) (by decide) he hpl
def Gb0(K:Frag)(tl:TE):TI:=λσ H R=>tl σ H λx H1=>∃ a,x=.ref a/\(((∃ xs,SqL K H1 a xs)/\R (Itl K a) H1)\/((∃ xs,SqT K H1 a xs)/\R (Itt K a) H1))
theorem O4{l:Expr}{tl:TE}(hl:PE X l tl):PI X tg l (Gb0 X.K tl):=by
 intro pins s σ H R I h
 refine thn (hl pins s σ H _ I h) λv s1 ⟨x,H1,I1,r1,q1⟩=>?_
 obtain⟨a,e,q1⟩:=q1
 subst e
 cases r1
 rcases q1 with⟨⟨xs,hq⟩,q⟩|⟨⟨xs,hq⟩,q⟩
 .obtain⟨its,rv,p,hz⟩:=I1.list hq
  refine wpAny_pyIter_list p.isList ?_
  refine⟨s1.heap.objs.size,[s1.heap.objs.size],_,_,H1,rfl,I1.kept (t':=s1.toks) λb o e=>get?_push_of_some _ e,YJ a _,⟨_,get?_push_size _ rfl,rfl,rfl⟩,λb hb=>?_,q⟩
  have e:b=s1.heap.objs.size:=by simpa using hb
  subst e
  exact I1.fpOk (le_refl _) (I1.hok.fresh (le_refl _))
 .obtain⟨its,rv,p,hz⟩:=I1.tuple hq
  refine wpAny_pyIter_tuple (show s1.heap.IsTuple a its.toArray from p) ?_
  refine⟨s1.heap.objs.size,[s1.heap.objs.size],_,_,H1,rfl,I1.kept (t':=s1.toks) λb o e=>get?_push_of_some _ e,FE a _,⟨_,get?_push_size _ rfl,rfl,rfl⟩,λb hb=>?_,q⟩
  have e:b=s1.heap.objs.size:=by simpa using hb
  subst e
  exact I1.fpOk (le_refl _) (I1.hok.fresh (le_refl _))
theorem O0(h:DE X xw e f):DI X xw tg e (b1 Qd f):=PI.weak (O4 h) λσ H R ⟨W₀,H₀,W,δ,st,q⟩=>by
 refine⟨W₀,H₀,W,δ,st,?_⟩
 simp only[b1]at q
 cases h1:f δ with
 |stuck=>rw[h1]at q;exact q
 |ex c fs=>rw[h1]at q;exact q
 |ok d=>
  rw[h1]at q
  intro v H1 k1 hv
  cases d with
  |lst ds=>
   rw[Has]at hv
   obtain⟨a,xs,e,sq,r⟩:=hv
   exact⟨a,e,.inl ⟨⟨xs,sq.sq⟩,q _ H1 k1 (B2 (st.fr.wl.same k1) sq r)⟩⟩
  |tup ds=>
   rw[Has]at hv
   obtain⟨a,xs,e,sq,r⟩:=hv
   exact⟨a,e,.inr ⟨⟨xs,sq⟩,q _ H1 k1 (C2 (st.fr.wl.same k1) sq r)⟩⟩
  |_=>exact q.elim
theorem GL(h:Heap)(hb:sysModules<h.objs.size):ObjOk P w H (h.push {cls:=.type "dict",data:=.dict #[]}) h.objs.size (.dK []):=
 ⟨zero_le _,beq_eq_false_iff_ne.mpr (Ne.symm (ne_of_lt hb)),[],.nil,Heap.DictOf.new h⟩
end
def Js(d:D):Res D:=match d with
 | .non=>.ok (.bl false)
 |_=>.ok (.bl true)
theorem ML{j pos'}(ha:DP X xw a fa):DT X xw (.Compare a [.IsNot] [.Constant .none j pos'] pos) (tR (b1 Js fa)):=
 DE.t_of (f:=b1 Js fa) (PT.weak (T4 (AW ha)) λσ H Q q=>by
  obtain⟨W₀,H₀,W,δ,st,q⟩:=q
  exact Qh st q λH2 d v k w st2 hv _ q2=>by
   unfold Js at q2
   split at q2
   .rw[hv.non];exact q2.bl
   .rename_i hd
    rw[decide_eq_false (hv.isN hd)];exact q2.bl)
theorem Hm(hr:Room k A):A.units+40<cLine:=by have:=hr.units;omega
theorem BM{fa:Addr}{N:List Str}(F:Fun K x qual st fa fd)(S:FnScope N ps (Da st))(body:∀ (cdv:Value) (A:Around) (outer:List Env) (s:Shared) (H:Hp) (E:XK),Room k (A.deeper (envOfC qual (Da st) s.heap.objs.size fa cdv))->
   FK (Kk Po P w K mg base N qual (Da st) fa cdv A outer s H E).nox Ql (Fb st) g):FnOk P w K mg base Po (k+1) fa fd ps (O6 K ps.length (Pg N.length g)):=by
 refine F.ok S (λvs H Q E h=>h.1) (λcdv A outer s H vs Q E hr h=>?_)
 obtain⟨hl,W,ds,hw,hd,q⟩:=h
 refine⟨_,body cdv A outer s H E hr,W,H,W,Ob N.length ds,Ij hw hd,?_⟩
 unfold Pg at q
 cases h:g (Ob N.length ds) with
 |rt d=>rw[h]at q;exact λv H' k hv=>q v H' k hv
 |nx δ=>rw[h]at q;exact λW' H' σ' k st'=>q .non H' st'.fr.ext (by rw[Has])
 |bk δ=>rw[h]at q;exact q.elim
 |ct δ=>rw[h]at q;exact q.elim
 |ex c fs=>rw[h]at q;exact q.elim
 |stuck=>rw[h]at q;exact q.elim
def YG(K:Frag):Sp:=λvs H Q _=>∃ (a:Addr) (ns:List Int),vs= [.ref a]/\SqL K H a (ns.map V.int)/\ns.length<=63/\∀ H',Q (.bl true) H'
theorem Z2{f:Addr}(G:FnOk P w K mg base Po k f fd ps (O6 K 1 m))(h:∀ ns:List Int,ns.length<=63->m [.lst (ns.map D.int)]=.ok (.bl true)):FnOk P w K mg base Po k f fd ps (YG K):=by
 refine G.imp λvs H Q E q=>?_
 obtain⟨a,ns,rfl,sq,hl,q⟩:=q
 refine⟨rfl,λ_=>False,[.lst (ns.map D.int)],λb z=>z.elim,HasL.cons ?_ HasL.nil,?_⟩
 .rw[Has]
  refine⟨a,_,rfl,?_,HasL.ints⟩
  rcases sq with(z|z)|z
  .exact .inl ⟨z,λz=>z⟩
  .exact .inr (.inl z)
  .exact .inr (.inr z)
 .rw[h ns hl]
  intro v H' k hv
  rw[Has]at hv
  rw[hv]
  exact q H'
end L3
namespace L3
open PySem
variable{prog:Program}{w:World}{A:Around}{E Q:Value->Shared->Prop}{s:Shared}{it:Addr}{i:Nat}{items:Array Value}{x:Value}
theorem YC{t:Addr}(hi:s.heap.IsTupleIter it t i)(ht:s.heap.IsTuple t items)(hx:items[i]? =some x)(hQ:∀ h',h'.IsTupleIter it t (i+1)->SameBut it s.heap h'->Q x {s with heap:=h'}):wpAny (model prog w) A (Builtin.SmallTypes.nextOf (.ref it)) Q E s:=by
 obtain⟨o,h1,h2,h3⟩:=id hi
 obtain⟨u,g1,g2,m,g3⟩:=ht
 unfold Builtin.SmallTypes.nextOf
 refine wpAny_bind (wpAny_callSpecial?_slot (name:=Str.ofString "__next__") hi.typeIs F.slot_tuple_iterator_next (wpAny_call_entry F.slot_tuple_iterator_next hi.typeIs F.entry_tuple_iterator_next ?_ (F.args_tuple_iterator_next_1 _)))
 show wpAny _ _ (field (.ref it) 0 >>= _) _ _ s;refine wpAny_bind (wpAny_field h1 h3 (x:=.ref t) rfl ?_)
 show wpAny _ _ (if(Value.ref t==Value.none)=true then _ else _) _ _ s;rw[if_neg (show ¬ ((Value.ref t==Value.none)=true) from Bool.false_ne_true)]
 show wpAny _ _ (field (.ref it) 1 >>= _) _ _ s;refine wpAny_bind (wpAny_field h1 h3 (x:=.int i 0) rfl ?_)
 show wpAny _ _ (seqItems? (.ref t) >>= _) _ _ s;refine wpAny_bind (wpAny_seqItems g1 g3 ?_)
 simp only[Int.toNat_natCast,hx]
 refine wpAny_bind (wpAny_setField h1 h3 (by simp) (wpAny_pure ⟨x,rfl,wpAny_pure (hQ _ ⟨_,get?_update_self _ h1 (Obj.isFreed_of_fields (Obj.data_mapFields h3 _)),(Obj.cls_mapFields ..).trans h2,?_⟩ (SameBut.update ..))⟩))
 rw[Obj.data_mapFields h3];simp[rawInt]
theorem CJ{t:Addr}(hh:A.handled=none)(hi:s.heap.IsTupleIter it t i)(ht:s.heap.IsTuple t items)(hx:items[i]? =none)(hE:∀ h' e,Heap.ExtBut it s.heap h'->(∃ o,h'.get? e=some o/\o.cls=.type "StopIteration")->E (.ref e) {s with heap:=h'}):wpAny (model prog w) A (Builtin.SmallTypes.nextOf (.ref it)) Q E s:=by
 obtain⟨o,h1,h2,h3⟩:=id hi
 obtain⟨u,g1,g2,m,g3⟩:=ht
 unfold Builtin.SmallTypes.nextOf
 refine wpAny_bind (wpAny_callSpecial?_slot (name:=Str.ofString "__next__") hi.typeIs F.slot_tuple_iterator_next (wpAny_call_entry F.slot_tuple_iterator_next hi.typeIs F.entry_tuple_iterator_next ?_ (F.args_tuple_iterator_next_1 _)))
 show wpAny _ _ (field (.ref it) 0 >>= _) _ _ s;refine wpAny_bind (wpAny_field h1 h3 (x:=.ref t) rfl ?_)
 show wpAny _ _ (if(Value.ref t==Value.none)=true then _ else _) _ _ s;rw[if_neg (show ¬ ((Value.ref t==Value.none)=true) from Bool.false_ne_true)]
 show wpAny _ _ (field (.ref it) 1 >>= _) _ _ s;refine wpAny_bind (wpAny_field h1 h3 (x:=.int i 0) rfl ?_)
 show wpAny _ _ (seqItems? (.ref t) >>= _) _ _ s;refine wpAny_bind (wpAny_seqItems g1 g3 ?_)
 simp only[Int.toNat_natCast,hx]
 refine wpAny_bind (wpAny_rule (wpAny_bind (wpAny_setField h1 h3 (by simp) ?_)));show wpAny _ _ (newExc (.type "StopIteration") [] >>= _) _ _ _
 refine wpAny_bind ?_;simp only[newExc,newTuple]
 refine wpAny_bind (wpAny_newObj_type ?_ (by size_fits));refine wpAny_bind (m:=firstArgMember _ _) (wpAny_of_eq (a:=Value.none) (by first|rfl|(simp only[firstArgMember];rfl)) ?_)
 refine wpAny_newObj_type ?_ (by size_fits);simp only[raiseNew]
 refine wpAny_bind (wpAny_handled ?_);first|rw[show A.in1.handled=none from hh]|rw[hh]
 refine wpAny_bind (wpAny_pure (wpAny_throw (hE _ _ (((SameBut.update ..).extBut.push _).push _) ⟨_,get?_push_size _ rfl,rfl⟩)))
theorem Q0(hh:A.handled=none)(it t:Addr)(hne:t≠it)(items:Array Value):Draws prog w A it [it,t] items.size (λi v=>items[i]? =some v) (λi h=>h.IsTupleIter it t i/\h.IsTuple t items) where
 live:=λ_ _ st=>let ⟨o,ho,_⟩:=st.1;⟨o,ho⟩
 frame:=λ_ _ _ st hk=>⟨let ⟨o,e,r⟩:=st.1;⟨o,hk it (by simp) o e,r⟩,let ⟨o,e,r⟩:=st.2;⟨o,hk t (by simp) o e,r⟩⟩
 item:=λi s Q E hi st hQ=>YC st.1 st.2 (x:=items[i]) (by simp[hi]) λh' z hs=>hQ _ h' s.toks (by simp[hi]) ⟨z,let ⟨o,e,r⟩:=st.2;⟨o,hs.extBut _ _ hne e,r⟩⟩ hs
 done:=λs Q E st hE=>CJ hh st.1 st.2 (by simp) hE
structure ZA(z TI TO i1 i2:Addr)(f1 f2:List Addr):Prop where
 a1:TI≠z
 a2:TO≠z
 a3:TI≠TO
 m1:i1∈f1
 m2:i2∈f2
 z1:z∉f1
 z2:z∉f2
 o1:TO∉f1
 o2:TO∉f2
 t1:TI∉f1
 t2:TI∉f2
 x1:i2∉f1
 x2:i1∉f2
variable{z i1 i2:Addr}{k:Nat}{a b:Value}
section
variable {TI TO:Addr}{f1 f2:List Addr}{n1 n2:Nat}{P1 P2:Nat->Value->Prop}{S1 S2:Nat->Heap->Prop}
end
def IsSq(tup:Bool)(h:Heap)(l:Addr)(xs:Array Value):Prop:=match tup with
 |true=>h.IsTuple l xs
 |false=>h.IsList l xs
def itO(tup:Bool)(l:Addr):Obj:=match tup with
 |true=> {cls:=.type "tuple_iterator",data:=.fields #[.ref l,.int 0 0]}
 |false=> {cls:=.type "list_iterator",data:=.fields #[.ref l,.int 0 0]}
def SqI(tup:Bool)(h:Heap)(i l:Addr)(k:Nat):Prop:=match tup with
 |true=>h.IsTupleIter i l k
 |false=>h.IsListIter i l k
variable{i l:Addr}{h':Heap}
theorem SqI.at'{tup:Bool}{h:Heap}(q:SqI tup h i l k)(f:∀ o,h.get? i=some o->h'.get? i=some o):SqI tup h' i l k:=by
 cases tup with
 |true=>obtain⟨o,e,r⟩:=q;exact⟨o,f o e,r⟩
 |false=>obtain⟨o,e,r⟩:=q;exact⟨o,f o e,r⟩
theorem SqI.rec{tup:Bool}{h:Heap}(q:SqI tup h i l k):∃ o vs,h.get? i=some o/\o.data=.fields vs:=by
 cases tup with
 |true=>obtain⟨o,e,_,r⟩:=q;exact⟨o,_,e,r⟩
 |false=>obtain⟨o,e,_,r⟩:=q;exact⟨o,_,e,r⟩
variable{xs:Array Value}
theorem IsSq.lt{tup:Bool}{h:Heap}(q:IsSq tup h l xs):l<h.objs.size:=by
 cases tup with
 |true=>obtain⟨o,e,_⟩:=q;exact lt_size e
 |false=>obtain⟨o,e,_⟩:=q;exact lt_size e
theorem JL(hh:A.handled=none)(tup:Bool)(it l:Addr)(hne:l≠it)(xs:Array Value):Draws prog w A it [it,l] xs.size (λi v=>xs[i]? =some v) (λi h=>SqI tup h it l i/\IsSq tup h l xs):=by
 cases tup with
 |true=>exact Q0 hh it l hne xs
 |false=>exact Draws.list hh it l hne xs
theorem Vx{tup:Bool}(q:IsSq tup s.heap l xs)(h:Q (.ref s.heap.objs.size) {s with heap:=s.heap.push (itO tup l)}):
  wpAny (model prog w) A (pyIter (.ref l)) Q E s:=by
 cases tup with
 |true=>exact wpAny_pyIter_tuple q h
 |false=>exact wpAny_pyIter_list q h
section
variable {TI TO l1 l2:Addr}{t1 t2:Bool}{ys:Array Value}{y:Value}
end
open PySem.Spec PyProof.Rows L2
def PR(t:Bool)(K:Frag)(H:Hp)(l:Addr)(xs:List V):Prop:=match t with
 |true=>SqT K H l xs
 |false=>SqL K H l xs
variable{xs:List V}{X:Cx}{H:Hp}{t':Nat}{ch:List Addr}
section
variable {pins:List (Addr×Obj)}{σ:L2.St}
theorem Sw(I:Inv X pins σ H s){t:Bool}(h:PR t X.K H l xs):∃ its:List Value,Vals xs its/\IsSq t s.heap l its.toArray/\xs.length<=sizeLine:=by
 cases t with
 |true=>obtain⟨its,r,p,z⟩:=I.tuple h;exact⟨its,r,p,z⟩
 |false=>obtain⟨its,r,p,z⟩:=I.list h;exact⟨its,r,p.isList,z⟩
theorem NC(I:Inv X pins σ H s){t:Bool}{ys:List V}(h:PR t X.K H l xs)(h':PR t X.K H l ys):xs=ys:=by
 cases t with
 |true=>exact I.tuple_inj h h'
 |false=>exact I.list_inj h h'
theorem Gv{n:Addr}{its:List Value}(I:Inv X pins σ H s)(hf:∀ b∈ch,Wm X pins H b)(k:∀ b o,b∉ch->s.heap.get? b=some o->h'.get? b=some o)(hn:s.heap.objs.size<=n)(r:Vals xs its)(hz:xs.length<=sizeLine)(new:IsTup h' n its.toArray):Inv X pins σ (Jb H n (.tup xs)) {s with heap:=h',toks:=t'}:=by
 have hfree:=I.hok.fresh hn
 have nch:∀ b u,H b=some u->b∉ch:=λb u e m=>by rw[(hf b m).1]at e;cases e
 have nn:∀ b o,s.heap.get? b=some o->b≠n:=λb o e=>ne_of_lt (lt_of_lt_of_le (lt_size e) hn)
 refine I.step (g':=s.gens) (d':=s.drawn) (ch:=ch) (λb hb=>⟨(hf b hb).2.2.2.1,(hf b hb).2.1,(hf b hb).2.2.2.2.1,(hf b hb).2.2.2.2.2⟩) (λb o _ _ hc e _=>k b o hc e) (λb o _ _ hc e _=>⟨o.slots,k b o hc e⟩)
  (λb o hc e q=>by rw[Ha (nn b o e)];exact q) (λb o hc e=>⟨o,k b o hc e⟩) (λb ys e=>by rw[Ha (Pa e hfree)];exact e) (λb o u e=>by rw[Ha (Pa e hfree)];exact e)
  (λb ps e=>⟨#[],by rw[Ha (Pa e hfree),e];simp⟩) (λm hm=>?_) (λb u e=>?_) I.bare
 .obtain⟨o,es,ep,ho,q⟩:=hm
  exact⟨o,es,ep,k _ o (λz=>(hf _ z).2.1 rfl) ho,q⟩
 .by_cases hb:b=n
  .subst hb
   rw[Na]at e;cases e
   exact⟨hz,its,r,new⟩
  .rw[Ha hb]at e
   refine(I.hok b u e).stay (λc v hc q=>k c v ?_ q) (λc q=>by rw[Ha (Pa q hfree)];exact q) λc ys q=>by rw[Ha (Pa q hfree)];exact q
   rcases hc with z|z
   .rw[z];exact nch b u e
   .exact nch c _ z
theorem Hv(I:Inv X pins σ H s)(hf:∀ b∈ch,Wm X pins H b)(k:∀ b o,b∉ch->s.heap.get? b=some o->h'.get? b=some o):Inv X pins σ H {s with heap:=h',toks:=t'}:=by
 have nch:∀ b u,H b=some u->b∉ch:=λb u e m=>by rw[(hf b m).1]at e;cases e
 refine I.step (g':=s.gens) (d':=s.drawn) (ch:=ch) (λb hb=>⟨(hf b hb).2.2.2.1,(hf b hb).2.1,(hf b hb).2.2.2.2.1,(hf b hb).2.2.2.2.2⟩) (λb o _ _ hc e _=>k b o hc e) (λb o _ _ hc e _=>⟨o.slots,k b o hc e⟩)
  (λ_ _ _ _ q=>q) (λb o hc e=>⟨o,k b o hc e⟩) (λ_ _ e=>e) (λ_ _ _ e=>e) (λb ps e=>⟨#[],by rw[e];simp⟩) (λm hm=>?_) (λb u e=>?_) I.bare
 .obtain⟨o,es,ep,ho,q⟩:=hm
  exact⟨o,es,ep,k _ o (λz=>(hf _ z).2.1 rfl) ho,q⟩
 .refine(I.hok b u e).stay (λc v hc q=>k c v ?_ q) (λ_ q=>q) λ_ _ q=>q
  rcases hc with z|z
  .rw[z];exact nch b u e
  .exact nch c _ z
end
variable{a b:Expr}{xw:XW}{pos:Pos}{K:Frag}
section
variable {elts:List Expr}{kt:Nat}{pt p:Pos}{fs:Ca->Res (List D)}
def DN:D->Option (List D)
 | .tup ds=>some ds
 | .lst ds=>some ds
 |_=>none
theorem O5{W:WS}{d:D}{v:V}{ds:List D}(w:WL W H)(h:Has K W H d v)(e:DN d=some ds):
  ∃ t l xs,v=.ref l/\HasL K W H ds xs/\∀ W' H2,Step W H W' H2->PR t K H2 l xs:=by
 cases d with
 |tup es=>
  cases e
  rw[Has]at h
  obtain⟨a,xs,e1,sq,r⟩:=h
  exact⟨true,a,xs,e1,r,λW' H2 k=>Et k.keep w sq⟩
 |lst es=>
  cases e
  rw[Has]at h
  obtain⟨a,xs,e1,sq,r⟩:=h
  exact⟨false,a,xs,e1,r,λW' H2 k=>(sq.keep k.keep w k.new).sq⟩
 |_=>cases e
end
variable{i:Int}
section
variable {α β:Type}
theorem Hb(a:α)(k:α->Out):Qk (.ok a) k=k a:=rfl
theorem RO(c:Str)(fs:List D)(k:α->Out):Qk (.ex c fs) k=.ex c fs:=rfl
theorem Bb(δ:Ca)(g:Ca->Out):Jm (.nx δ) g=g δ:=rfl
theorem Fi(d:D)(g:Ca->Out):Jm (.rt d) g=.rt d:=rfl
theorem seqO_ex(c:Str)(fs:List D)(g:Ca->Out):Jm (.ex c fs) g=.ex c fs:=rfl
theorem Ub(c:Bool)(a b:Out):ifO (.ok c) a b=if c=true then a else b:=rfl
theorem Nn(c:Bool)(y:Res Bool):LZ (.ok c) y=if c=true then y else .ok false:=rfl
theorem Jl(c:Bool)(y:Res Bool):orB (.ok c) y=if c=true then .ok true else y:=rfl
theorem Za(c:Bool):Gr (.bl c)=.ok c:=rfl
theorem Ff(i j:Int):Aq (.int i) (.int j)=.ok (.bl (i==j)):=by simp[Aq,Lb,Gg]
theorem SC(i j:Int):Y7 (.int i) (.int j)=.ok (.bl (decide (i<j))):=rfl
theorem Wo(i j:Int):LF (.int i) (.int j)=.ok (.bl (decide (j<i))):=rfl
theorem GM(i j:Int):PY (.int i) (.int j)=.ok (.bl (decide (j<=i))):=rfl
theorem Jd(i j:Int):Je (.int i) (.int j)=.ok (.int (i+j)):=rfl
theorem Wx(i j:Int):UA (.int i) (.int j)=.ok (.int (i-j)):=rfl
theorem Fs(i:Int):Yw (.int i)=.ok (.int (-i)):=rfl
theorem WU(i j:Int):Kd (.int i) (.int j)=@ite (Res D) (0<j) (propDecidable _) (.ok (.int (i%j))) .stuck:=rfl
theorem ZL(i j:Int):Hk (.int i) (.int j)=@ite (Res D) (0<j/\j<1073741824) (propDecidable _) (.ok (.int (i / j))) .stuck:=rfl
theorem TU(i j:Int):YN [.int i,.int j]=.ok (.int (max i j)):=rfl
theorem VF(i j:Int):ZI [.int i,.int j]=.ok (.int (min i j)):=rfl
theorem A3(ds:List D):Yj (.tup ds)=.ok (.int ds.length):=rfl
theorem Dp(ds:List D):Yj (.lst ds)=.ok (.int ds.length):=rfl
theorem Bt(ds:List D):Qd (.lst ds)=.ok ds:=rfl
theorem QQ(ds:List D):Se (.lst ds)=.ok (.tup ds):=rfl
theorem Ao(i:Int):Os (.int i)=.ok (some i):=rfl
theorem Ra(d:D)(ds:List D):VE (.ok d) (.ok ds)=.ok (d::ds):=rfl
theorem Bc(a:α):noex (.ok a)=.ok a:=rfl
theorem Ta(x:D)(l:Ca):Ea 0 (some (.d x)::l)=.ok x:=rfl
theorem Ya(n:Nat)(a:Option S)(l:Ca):Ea (n+1) (a::l)=Ea n l:=by simp[Ea]
theorem Oa(x:D)(l:Ca):Ga 0 (some (.d x)::l)=.ok x:=rfl
theorem Oe(x:List D)(l:Ca):Ga 0 (some (.o x)::l)=.ok (.lst x):=rfl
theorem Ua(n:Nat)(a:Option S)(l:Ca):Ga (n+1) (a::l)=Ga n l:=by simp[Ga]
theorem Vb(n:Nat)(m:List D->Res D)(ds:List D)(d:D)(h:m ds=.ok d)(hn:ds.length=n):Wa n m ds=.ok d:=by
 unfold Wa;rw[if_pos hn,h];rfl
theorem V7(ds:List D)(i:Int)(d:D)(h:Ar ds i=some d):Ki (.tup ds) (.int i)=.ok d:=by show(match Ar ds i with|some d=>Res.ok d|none=>Res.stuck)=_;rw[h]
theorem Yr(ds:List D)(i:Int)(d:D)(h:Ar ds i=some d):Ki (.lst ds) (.int i)=.ok d:=by show(match Ar ds i with|some d=>Res.ok d|none=>Res.stuck)=_;rw[h]
theorem Ul{xs:List α}{d:α}(h0:0<=i)(h:xs[i.toNat]? =some d):Ar xs i=some d:=by
 have hl:=(List.getElem?_eq_some_iff.mp h).1
 unfold Ar SY
 rw[if_pos h0,if_pos (by omega)]
 exact h
theorem LK{xs:List α}(h0:0<=i)(h1:i<xs.length):∃ d,Ar xs i=some d/\d∈xs:=by
 have hl:i.toNat<xs.length:=by omega
 exact⟨xs[i.toNat],Ul h0 (getElem?_eq_getElem hl),List.getElem_mem hl⟩
end
section
variable {t:D->Ca->Res Ca}{body:Ca->Out}
theorem Yl(d:D)(ds:List D)(δ δ':Ca)(h:t d δ= .ok δ'):Ng t body (d::ds) δ=(match body δ' with
   | .nx δ2=>Ng t body ds δ2
   | .ct δ2=>Ng t body ds δ2
   | .bk δ2=>.nx δ2
   | .rt d=>.rt d
   | .ex c fs=>.ex c fs
   | .stuck=>.stuck):=by
 rw[Ng,h]
 first|done|rfl|dsimp only
end
variable{fe:Ca->Res D}
section
variable {c:Ca->Res Bool}
theorem Pj(t:D->Ca->Res Ca)(d:D)(ds:List D)(δ δ':Ca)(h:t d δ= .ok δ'):Ke t c fe (d::ds) δ=((noex (c δ')).bind λk=>if k=true then(noex (fe δ')).bind λx=>(Ke t c fe ds δ').bind λr=>.ok (x::r) else Ke t c fe ds δ'):=by
 rw[Ke]
 rw[h]
theorem Yp(p:D->Bool)(f:D->D)(δ:Ca):∀ (ds:List D) (x:Option S),(∀ d∈ds,c (some (.d d)::δ)=.ok (p d)/\(p d=true->fe (some (.d d)::δ)=.ok (f d)))->Ke (Gb 0) c fe ds (x::δ)=.ok ((ds.filter p).map f)
 | [],_,_=>rfl
 |d::ds,x,h=>by
  obtain⟨h1,h2⟩:=h d mem_cons_self
  rw[Pj (Gb 0) d ds (x::δ) (some (.d d)::δ) rfl,h1]
  have ih:=Yp p f δ ds (some (.d d)) λy hy=>h y (mem_cons_of_mem _ hy)
  rw[ih]
  cases hp:p d with
  |false=>rw[filter_cons_of_neg (by rw[hp];exact Bool.false_ne_true)];rfl
  |true=>rw[filter_cons_of_pos hp,h2 hp];rfl
theorem CL(f:D->D)(δ:Ca)(ds:List D)(x:Option S)(h:∀ d∈ds,fe (some (.d d)::δ)=.ok (f d)):Ke (Gb 0) (λ_=>.ok true) fe ds (x::δ)=.ok (ds.map f):=by
 rw[Yp (λ_=>true) f δ ds x λd hd=>⟨rfl,λ_=>h d hd⟩]
 rw[List.filter_eq_self.mpr λ_ _=>rfl]
end
def isT:D->Bool
 | .tup _=>true
 |_=>false
def AM:Out->Res D
 | .rt d=>.ok d
 | .nx _=>.ok .non
 |_=>.stuck
theorem FX(n:Nat)(g:Ca->Out)(ds:List D):Pg n g ds=AM (g (Ob n ds)):=by
 unfold Pg AM
 cases g (Ob n ds)<;>rfl
theorem Ec(d:D):AM (.rt d)=.ok d:=rfl
open SeqAt
structure XE(X:Cx)(xw:XW)(e:Expr)(f:Ca->Res D):Prop where
 h:DE X xw e f
structure XP(X:Cx)(xw:XW)(e:Expr)(f:Ca->Res D):Prop where
 h:DP X xw e f
structure XF(X:Cx)(xw:XW)(e:Expr)(f:Ca->Res (List D)):Prop where
 h:DF X xw e f
structure XT(X:Cx)(xw:XW)(e:Expr)(f:Ca->Res Bool):Prop where
 h:DT X xw e f
structure XW'(X:Cx)(xw:XW)(e:Expr)(f:Ca->Res Bool):Prop where
 h:DW X xw e f
structure XA(X:Cx)(xw:XW)(e:List Expr)(f:Ca->Res (List D)):Prop where
 h:DA X xw e f
structure XO(X:Cx)(xw:XW)(e:Option Expr)(f:Ca->Res (Option Int)):Prop where
 h:DO X xw e f
structure XG(X:Cx)(e:Expr)(f:D->Ca->Res Ca):Prop where
 h:DG X e f
structure XGs(X:Cx)(e:List Expr)(f:List D->Ca->Res Ca):Prop where
 h:Q6 X e f
structure XTs(X:Cx)(e:List Expr)(f:Ca->Res Bool):Prop where
 h:R6 X e f
structure XS(X:Cx)(xw:XW)(e:Stmt)(f:Ca->Out):Prop where
 h:DS X xw e f
structure XSs(X:Cx)(xw:XW)(e:List Stmt)(f:Ca->Out):Prop where
 h:FK X xw e f
structure XI(X:Cx)(xw:XW)(tg e:Expr)(f:Ca->Res (List D)):Prop where
 h:DI X xw tg e f
variable{x:Str}{n:Nat}{st:Stmt}{g:Ca->Out}{tgs:List Expr}{ts:List D->Ca->Res Ca}{o:CmpOp}{op:D->D->Res D}{pos':Pos}
section
variable {e c:Expr}{f fa fb fc:Ca->Res D}{p p2:Pos}{sts as bs:List Stmt}{tg iter elt:Expr}{t:D->Ca->Res Ca}{fs:Ca->Res (List D)}{es rest:List Expr}{ga gb gc:Ca->Res Bool}{g1 g2:Ca->Out}{lo hi:Option Expr}{fl fh:Ca->Res (Option Int)}{fi:Ca->Res (List D)}{scope:Scope}{ifs:List Expr}
theorem Ia(i:Nat)(hN:X.N[i]? =some x:=by rfl)(hv:Kq X.env.scope x:=by first|exact Or.inl rfl|exact Or.inr (Or.inl rfl)|exact Or.inr (Or.inr rfl))(hd:(x==("__debug__":Str))=false:=by decide)(hcd:(x==("__classdict__":Str))=false:=by decide):XE X xw (.Name x pos) (Ea i):=⟨J0 i hN hv hd hcd⟩
theorem La(i:Nat)(hN:X.N[i]? =some x:=by rfl)(hv:Kq X.env.scope x:=by first|exact Or.inl rfl|exact Or.inr (Or.inl rfl)|exact Or.inr (Or.inr rfl))(hd:(x==("__debug__":Str))=false:=by decide)(hcd:(x==("__classdict__":Str))=false:=by decide):XP X xw (.Name x pos) (Ga i):=⟨P0 i hN hv hd hcd⟩
theorem Ka(h:XE X xw e f):XP X xw e f:=⟨DE.p h.h⟩
theorem U9{op}(h:XE X xw a fa):XE X xw (.BoolOp op [a] pos) fa:=⟨C0 h.h⟩
theorem WQ(ha:XT X xw a ga):XW' X xw (.BoolOp .And [a] pos) ga:=⟨MT ha.h⟩
theorem Jt(ha:XT X xw a ga):XW' X xw (.BoolOp .Or [a] pos) ga:=⟨E1 ha.h⟩
theorem GY(h:XW' X xw e ga):XT X xw e ga:=⟨DW.t h.h⟩
theorem F6{j pos'}(ha:XP X xw a fa):XT X xw (.Compare a [.IsNot] [.Constant .none j pos'] pos) (tR (b1 Js fa)):=⟨ML ha.h⟩
theorem Bl(hm:X.mg "list"=none)(ha:XP X xw a fa)(hg:Gl X "list":=by rfl)(he:starEach [a] X.env=(false,eval a X.env)::starEach [] X.env:=by rfl)(hpl:(backTo pos (starEach [] X.env)).any (·.1)=false:=by rfl):
  XF X xw (.Call (.Name "list" p) [a] [] pos) (b1 Qd fa):=⟨XH hm ha.h hg he hpl⟩
theorem Mo(hm:X.mg "tuple"=none)(ha:XP X xw a fa)(hg:Gl X "tuple":=by rfl)(he:starEach [a] X.env=(false,eval a X.env)::starEach [] X.env:=by rfl)(hpl:(backTo pos (starEach [] X.env)).any (·.1)=false:=by rfl):
  XE X xw (.Call (.Name "tuple" p) [a] [] pos) (b1 Se fa):=⟨EL hm ha.h hg he hpl⟩
theorem T9(hc:X.calm=true)(hm:X.mg "max"=none)(ha:XA X xw [a,b] fs)(hg:Gl X "max":=by rfl)(he:starEach [a,b] X.env=(false,eval a X.env)::starEach [b] X.env:=by rfl)(hpl:(backTo pos (starEach [b] X.env)).any (·.1)=false:=by rfl):
  XE X xw (.Call (.Name "max" p) [a,b] [] pos) (b1 YN fs):=⟨JS hc hm ha.h hg he hpl⟩
theorem FZ(hc:X.calm=true)(hm:X.mg "min"=none)(ha:XA X xw [a,b] fs)(hg:Gl X "min":=by rfl)(he:starEach [a,b] X.env=(false,eval a X.env)::starEach [b] X.env:=by rfl)(hpl:(backTo pos (starEach [b] X.env)).any (·.1)=false:=by rfl):
  XE X xw (.Call (.Name "min" p) [a,b] [] pos) (b1 ZI fs):=⟨KS hc hm ha.h hg he hpl⟩
theorem Xi(h:XE X xw e f):XI X xw tg e (b1 Qd f):=⟨O0 h.h⟩
theorem Ib(i:Nat)(hN:X.N.Nodup)(hi:X.N[i]? =some x:=by rfl)(hx:Cy X.env.scope x:=by first|exact Or.inl rfl|exact Or.inr rfl)(hf:X.fn x=true\/X.env.scope.names.lookup x=some .local:=by first|exact .inl rfl|exact .inr rfl|assumption):
  XG X (.Name x pos) (Gb i):=⟨MS i hN hi hx hf⟩
theorem Vi:XGs X [] Gc:=⟨NS⟩
theorem Wb(h1:XG X tg t)(h2:XGs X tgs ts)(hs:(assignEach (tg::tgs) X.env).map (·.2)=assign tg X.env::(assignEach tgs X.env).map (·.2):=by rfl):XGs X (tg::tgs) (Sa t ts):=⟨FL h1.h h2.h hs⟩
theorem Wi(hc:X.calm=true)(h:XGs X tgs ts)(hn:(assignEach tgs X.env).length=n:=by rfl)(hst:(assignEach tgs X.env).findIdx? (·.1)=none:=by rfl):XG X (.Tuple tgs k pos) (Hc n ts):=⟨N0 hc h.h hn hst⟩
theorem Gq:XTs X [] (λ_=>.ok true):=⟨IT⟩
theorem Hq(h:XT X Ql c gc):XTs X [c] gc:=⟨JT h.h⟩
theorem YY(he:XE X xw e f)(hg:XG X tg t)(hs:swapsWithSole [tg] e pos.line X.env=pure false:=by rfl)(hw:swappedStores [tg] e X.env=pure none:=by rfl)(h1:(assignEach [tg] X.env).map (·.2)= [assign tg X.env]:=by rfl):XS X xw (.Assign [tg] e pos) (OD t f):=⟨ZS he.h hg.h hs hw h1⟩
theorem Tc:XSs X xw [] .nx:=⟨FT⟩
theorem Eb(h1:XS X xw st g1):XSs X xw [st] g1:=⟨GT h1.h⟩
theorem Va{j}:XE X xw (.Constant (.int i) j pos) (kD (.int i)):=⟨WZ⟩
theorem IE{i:Bool}{j}:XE X xw (.Constant (.bool i) j pos) (kD (.bl i)):=⟨A7⟩
theorem ER{i:Str}{j}:XE X xw (.Constant (.str i) j pos) (kD (.str i)):=⟨F0⟩
theorem EB{j}:XE X xw (.Constant .none j pos) (kD .non):=⟨B0⟩
theorem Fe(ha:XP X xw a fa)(hb:XP X xw b fb):XE X xw (.BinOp a .Add b pos) (b2 Je fa fb):=⟨TZ ha.h hb.h⟩
theorem HH(ha:XP X xw a fa)(hb:XP X xw b fb):XE X xw (.BinOp a .Sub b pos) (b2 UA fa fb):=⟨G0 ha.h hb.h⟩
theorem Ed(ha:XP X xw a fa)(hb:XP X xw b fb):XE X xw (.BinOp a .Mod b pos) (b2 Kd fa fb):=⟨ZZ ha.h hb.h⟩
theorem Pp(ha:XP X xw a fa)(hb:XP X xw b fb):XE X xw (.BinOp a .FloorDiv b pos) (b2 Hk fa fb):=⟨IS ha.h hb.h⟩
theorem HZ(ha:XP X xw a fa)(hb:XP X xw b fb):XE X xw (.BinOp a .Pow b pos) (b2 NJ fa fb):=⟨D0 ha.h hb.h⟩
theorem GH(ha:XP X xw a fa):XE X xw (.UnaryOp .USub a pos) (b1 Yw fa):=⟨A0 ha.h⟩
theorem R9(ha:XE X xw a fa)(hb:XE X xw (.BoolOp .And (b::rest) pos) fb):XE X xw (.BoolOp .And (a::b::rest) pos) (X5 fa fb):=⟨UZ ha.h hb.h⟩
theorem AR(hc:CmpR X xw o op)(ha:XP X xw a fa)(hb:XP X xw b fb):XE X xw (.Compare a [o] [b] pos) (b2 op fa fb):=⟨VZ hc ha.h hb.h⟩
theorem Af(hc:CmpR X xw o op)(ha:XP X xw a fa)(hb:XP X xw b fb):XT X xw (.Compare a [o] [b] pos) (tR (b2 op fa fb)):=⟨Z0 hc ha.h hb.h⟩
theorem Rl(h:XE X xw e f)(he:∀ whole,isTrue e X.env whole=(do let v <-whole;standAt e.pos;holding [v] (truthy v)):=by intro _;rfl):XT X xw e (tR f):=⟨DE.t h.h he⟩
theorem Nt(ha:XT X xw a ga):XT X xw (.UnaryOp .Not a pos) (Gi ga):=⟨A1 ha.h⟩
theorem EZ(ha:XT X xw a ga)(hb:XW' X xw (.BoolOp .And (b::rest) pos) gb):XW' X xw (.BoolOp .And (a::b::rest) pos) (Um ga gb):=⟨D1 ha.h hb.h⟩
theorem Ay(ha:XT X xw a ga)(hb:XW' X xw (.BoolOp .Or (b::rest) pos) gb):XW' X xw (.BoolOp .Or (a::b::rest) pos) (Pk ga gb):=⟨E7 ha.h hb.h⟩
theorem Xa:XA X xw [] Qa:=⟨SZ⟩
theorem Ba(ha:XE X xw a fa)(hr:XA X xw es fs)(hs:starEach (a::es) X.env=(false,eval a X.env)::starEach es X.env:=by rfl):XA X xw (a::es) (Aa fa fs):=⟨FS ha.h hr.h hs⟩
theorem Vm{x1}(h:XA X xw es fs):XE X xw (.Tuple es x1 pos) (b1 Qg fs):=⟨I0 h.h⟩
theorem Gk(h:XA X xw es fs):XF X xw (.List es pos) (b1 Cf fs):=⟨K0 h.h⟩
theorem Qc(h:XF X xw e fs):XE X xw e (Bf fs):=⟨DF.de h.h⟩
theorem Lj(ha:XP X xw a fa)(hb:XP X xw b fb)(hs:Ln b:=by intro _ _;rfl):XE X xw (.Subscript a b pos) (b2 Ki fa fb):=⟨B7 ha.h hb.h hs⟩
theorem AD:XO X xw none Qm:=⟨SS⟩
theorem BD(h:XE X xw e f):XO X xw (some e) (b1 Os f):=⟨US h.h⟩
theorem G7(ha:XP X xw a fa)(hl:XO X xw lo fl)(hh:XO X xw hi fh):XF X xw (.Subscript a (.Slice lo hi none p2) pos) (b3 N6 fa fl fh):=⟨M0 ha.h hl.h hh.h⟩
theorem Iq(hm:X.mg "len"=none)(ha:XP X xw a fa)(hg:Gl X "len":=by rfl)(he:starEach [a] X.env=(false,eval a X.env)::starEach [] X.env:=by rfl)(hpl:(backTo pos (starEach [] X.env)).any (·.1)=false:=by rfl):
  XE X xw (.Call (.Name "len" p) [a] [] pos) (b1 Yj fa):=⟨YZ hm ha.h hg he hpl⟩
theorem Yv{C:String}{c:Str}{p2:Pos}(hC:Ur C)(hbc:bootBuiltins c=some (.type C))(hm:X.mg "isinstance"=none)(hmc:X.mg c=none)(ha:XP X xw a fa)(hg:Gl X "isinstance":=by rfl)(hgc:Gl X c:=by rfl)(hcn:c≠"__name__":=by decide)(hcd:(c==("__debug__":Str))=false:=by decide)(he:starEach [a, .Name c p2] X.env=(false,eval a X.env)::starEach [.Name c p2] X.env:=by rfl)(he2:starEach [.Name c p2] X.env=(false,eval (.Name c p2) X.env)::starEach [] X.env:=by rfl)(hpl:(backTo pos (starEach [.Name c p2] X.env)).any (·.1)=false:=by rfl):
  XE X xw (.Call (.Name "isinstance" p) [a, .Name c p2] [] pos) (b1 (Im C) fa):=⟨XZ hC hbc hm hmc ha.h hg hgc hcn hcd he he2 hpl⟩
theorem Pb{m:List D->Res D}(F:Fn X.prog X.w X.K X.mg X.base k x n m)(hr:Room k X.A)(ha:XA X xw (a::es) fs)(hg:Gl X x:=by rfl)(hdb:(x==("__debug__":Str))=false:=by decide)(he:starEach (a::es) X.env=(false,eval a X.env)::starEach es X.env:=by rfl)(hpl:(backTo pos (starEach es X.env)).any (·.1)=false:=by rfl):
  XE X xw (.Call (.Name x p) (a::es) [] pos) (b1 (Wa n m) fs):=⟨HS F hr ha.h hg hdb he hpl⟩
theorem Gf(Nc Nx:List Str)(c:CompOk X scope Nc Nx)(hcalm:X.calm=true)(hi:XI X xw tg iter fi)(hY:∀ (C:Addr) (fp:List Addr) (pins:List (Addr×Obj)) (s:Shared) (H:Hp),XG (Tb X scope Nc Nx C fp pins s H) tg t/\XTs (Tb X scope Nc Nx C fp pins s H) ifs gc/\XE (Tb X scope Nc Nx C fp pins s H) Ql elt fe)(hs:∀ x,foldedSetIterable iter X.env x=pure x:=by intro _;rfl):
  XF X xw (.ListComp elt [⟨tg,iter,ifs,0⟩] scope pos) (Fc Nc.length t gc fe fi):=⟨LS Nc Nx c hcalm hi.h (λC fp pins s H=>⟨(hY C fp pins s H).1.h,(hY C fp pins s H).2.1.h,(hY C fp pins s H).2.2.h⟩) hs⟩
theorem ZP(i:Nat){py:Pos}(hN:X.N.Nodup)(Nc Nx:List Str)(c:CompOk X scope Nc Nx)(hcalm:X.calm=true)(hi:XI X xw tg iter fi)(hY:∀ (C:Addr) (fp:List Addr) (pins:List (Addr×Obj)) (s:Shared) (H:Hp),XG (Tb X scope Nc Nx C fp pins s H) tg t/\XTs (Tb X scope Nc Nx C fp pins s H) ifs gc/\XE (Tb X scope Nc Nx C fp pins s H) Ql elt fe){spos:Pos}(hiN:X.N[i]? =some x:=by rfl)(hx:Cy X.env.scope x:=by first|exact Or.inl rfl|exact Or.inr rfl)(hsw:swapsWith (.ListComp elt [⟨tg,iter,ifs,0⟩] scope pos) (some (.Name x py)) spos.line X.env=pure true:=by rfl)(hf:X.fn x=true\/X.env.scope.names.lookup x=some .local:=by first|exact .inl rfl|exact .inr rfl|assumption)(hs:∀ x,foldedSetIterable iter X.env x=pure x:=by intro _;rfl):
  XS X xw (.Assign [.Name x py] (.ListComp elt [⟨tg,iter,ifs,0⟩] scope pos) spos) (Sh i (Fc Nc.length t gc fe fi)):=⟨CT i hN Nc Nx c hcalm hi.h (λC fp pins s H=>⟨(hY C fp pins s H).1.h,(hY C fp pins s H).2.1.h,(hY C fp pins s H).2.2.h⟩) hiN hx hsw hf hs⟩
theorem Yn(hm:X.mg "range"=none)(ha:XA X xw [a] fs)(hg:Gl X "range":=by rfl)(hs:starEach [a] X.env= [(false,eval a X.env)]:=by rfl):XI X xw tg (.Call (.Name "range" p) [a] [] pos) (b1 Fo fs):=⟨YH hm ha.h hg hs⟩
theorem XM(hm:X.mg "range"=none)(ha:XA X xw [a,b] fs)(hg:Gl X "range":=by rfl)(hs:starEach [a,b] X.env= [(false,eval a X.env),(false,eval b X.env)]:=by rfl)(hs2:starEach [b] X.env= [(false,eval b X.env)]:=by rfl):
  XI X xw tg (.Call (.Name "range" p) [a,b] [] pos) (b1 LA fs):=⟨ZH hm ha.h hg hs hs2⟩
theorem Ja(h1:XS X xw st g1)(h2:XSs X xw sts g2):XSs X xw (st::sts) (Ab g1 g2):=⟨LL h1.h h2.h⟩
theorem Ad(he:XE X xw e f):XS X xw (.Return (some e) pos) (Rb f):=⟨X0 he.h⟩
theorem SD(i:Nat)(hN:X.N[i]? =some x:=by rfl)(hv:Kq X.env.scope x:=by first|exact Or.inl rfl|exact Or.inr (Or.inl rfl)|exact Or.inr (Or.inr rfl))(hd:(x==("__debug__":Str))=false:=by decide)(hcd:(x==("__classdict__":Str))=false:=by decide):XS X xw (.Return (some (.Name x pos')) pos) (Rb (Ga i)):=⟨ET i hN hv hd hcd⟩
theorem Bd(i:Nat)(hN:X.N.Nodup)(he:XE X xw e f)(hi:X.N[i]? =some x:=by rfl)(hx:Cy X.env.scope x:=by first|exact Or.inl rfl|exact Or.inr rfl)(hs:swapsWith e (some (.Name x pos')) pos.line X.env=pure false:=by rfl)(hf:X.fn x=true\/X.env.scope.names.lookup x=some .local:=by first|exact .inl rfl|exact .inr rfl|assumption):XS X xw (.Assign [.Name x pos'] e pos) (Jc i f):=⟨Y0 i hN he.h hi hx hs hf⟩
theorem Ko(i:Nat){ff:Ca->Res (List D)}(hN:X.N.Nodup)(he:XF X xw e ff)(hi:X.N[i]? =some x:=by rfl)(hx:Cy X.env.scope x:=by first|exact Or.inl rfl|exact Or.inr rfl)(hs:swapsWith e (some (.Name x pos')) pos.line X.env=pure false:=by rfl)(hf:X.fn x=true\/X.env.scope.names.lookup x=some .local:=by first|exact .inl rfl|exact .inr rfl|assumption):XS X xw (.Assign [.Name x pos'] e pos) (Sh i ff):=⟨U0 i hN he.h hi hx hs hf⟩
theorem Hj(hc:XT X xw c ga)(ha:XSs X xw as g1)(hb:XSs X xw bs g2):XS X xw (.If c as bs pos) (Dg ga g1 g2):=⟨D7 hc.h ha.h hb.h⟩
theorem Kl(hp:PassesOwn (model X.prog X.w) X.A X.env X.xe)(hc:X.calm=true)(hi:XI X xw tg iter fi)(hg:XG X tg t)(hb:XSs X xw sts g)(hs:∀ x,foldedSetIterable iter X.env x=pure x:=by intro _;rfl):XS X xw (.For tg iter sts [] pos) (Kf t g fi):=⟨S0 hp hc hi.h hg.h hb.h hs⟩
theorem HX(n:Nat)(hp:PassesOwn (model X.prog X.w) X.A X.env X.xe)(hc:XT X xw c ga)(hb:XSs X xw sts g):XS X xw (.While c sts [] pos) (QD n ga g):=⟨KL n hp hc.h hb.h⟩
theorem Io(i:Nat){p1 p2 p3:Pos}(he:XE X xw e f)(hN:X.N[i]? =some x:=by rfl)(hv:Kq X.env.scope x:=by first|exact Or.inl rfl|exact Or.inr (Or.inl rfl)|exact Or.inr (Or.inr rfl))(hd:(x==("__debug__":Str))=false:=by decide)(hcd:(x==("__classdict__":Str))=false:=by decide)(hsE:starEach [e] X.env=(false,eval e X.env)::starEach [] X.env:=by rfl)(hbase:attributeBase (.Name x p1) "append" X.env (eval (.Name x p1) X.env)=eval (.Name x p1) X.env:=by rfl)(hfew:((backTo p3 (starEach [e] X.env)).all (λx=> !x.1)&&(backToKw p3 (keywordEach [] X.env)).all (λx=>x.1.isSome)
   &&decide (([e]:List Expr).length+([]:List Keyword).length+(if([]:List Keyword).isEmpty then 0 else 1)<30))=true:=by rfl)(hline:(p2.endLine==p3.line)=true:=by rfl)(hplain:(backTo p3 (starEach [] X.env)).any (·.1)=false:=by rfl)(hsw:swapsWith (.Call (.Attribute (.Name x p1) "append" p2) [e] [] p3) none pos.line X.env=pure false:=by rfl):
  XS X xw (.Expr (.Call (.Attribute (.Name x p1) "append" p2) [e] [] p3) pos) (Xs i f):=⟨BI i he.h hN hv hd hcd hsE hbase hfew hline hplain hsw⟩
end
variable{fa:Addr}{P:Program}{mg:Str->Option Value}{base:Heap}{qual:Str}{fd:FuncData}{ps:List Str}
theorem Ge{N:List Str}(F:Fun K x qual st fa fd)(S:FnScope N ps (Da st))(hm:mg x=some (.ref fa))(hb:Binds K fd ps [])(body:∀ (cdv:Value) (A:Around) (outer:List Env) (s:Shared) (H:Hp) (E:XK),Room k (A.deeper (envOfC qual (Da st) s.heap.objs.size fa cdv))->
   XSs (Kk Po P w K mg base N qual (Da st) fa cdv A outer s H E).nox Ql (Fb st) g):Fn P w K mg base (k+1) x ps.length (Pg N.length g):=
 ZT F S hm hb λcdv A outer s H E hr=>(body cdv A outer s H E hr).h
theorem Q1{N:List Str}(F:Fun K x qual st fa fd)(S:FnScope N ps (Da st))(body:∀ (cdv:Value) (A:Around) (outer:List Env) (s:Shared) (H:Hp) (E:XK),Room k (A.deeper (envOfC qual (Da st) s.heap.objs.size fa cdv))->
   XSs (Kk Po P w K mg base N qual (Da st) fa cdv A outer s H E).nox Ql (Fb st) g):FnOk P w K mg base Po (k+1) fa fd ps (O6 K ps.length (Pg N.length g)):=
 BM F S λcdv A outer s H E hr=>(body cdv A outer s H E hr).h
end L3
namespace L3
open PySem PySem.Spec PyProof.Rows L2
section
variable {t:D->Ca->Res Ca}{body:Ca->Out}
theorem Am(I:Nat->Ca->Prop)(ds:List D)(δ:Ca)(hb:∀ i d δ,ds[i]? =some d->I i δ->∃ δ',t d δ= .ok δ'/\∃ δ2,(body δ'=.nx δ2\/body δ'=.ct δ2)/\I (i+1) δ2)(h:I 0 δ):∃ δ2,Ng t body ds δ= .nx δ2/\I ds.length δ2:=by
 induction ds generalizing I δ with
 |nil=>exact⟨δ,rfl,h⟩
 |cons d ds ih=>
  obtain⟨δ',e1,δ2,e2,h2⟩:=hb 0 d δ rfl h
  obtain⟨δ3,e3,h3⟩:=ih (λi=>I (i+1)) δ2 (λi x δ hx hI=>hb (i+1) x δ (by simpa using hx) hI) h2
  refine⟨δ3,?_,h3⟩
  rw[Yl d ds δ δ' e1]
  rcases e2 with e2|e2<;> · rw[e2];exact e3
end
variable{n:Nat}
section
variable {fe:Ca->Res D}{c:Ca->Res Bool}
theorem Hd{t:D->Ca->Res Ca}{δ:Ca}{ds r:List D}(h:Ke t c fe ds (replicate n none++δ)=.ok r)(hl:ds.length<=100000):De n t c fe δ ds=.ok r:=by
 unfold De
 rw[if_pos hl,h];rfl
end
theorem Px(j:Int)(h0:0<=j)(h:j<100000):Fo [.int j]=.ok (Wh 0 j.toNat):=by
 unfold Fo
 simp only
 rw[if_pos (by omega)]
theorem Ws{lo:Int}{i:Nat}{d:D}(h:(Wh lo n)[i]? =some d):i<n/\d=.int (lo+i):=by
 unfold Wh at h
 rw[getElem?_map]at h
 have hi:i<n:=by
  refine Nat.lt_of_not_le λz=>?_
  rw[getElem?_eq_none (by simpa using z)]at h;cases h
 rw[getElem?_range hi]at h
 exact⟨hi,(Option.some.inj h).symm⟩
theorem Ho(lo:Int)(n:Nat):(Wh lo n).length=n:=by simp[Wh]
theorem PL(ds:List D)(h:∀ d∈ds,Lb 39 d=true):Aq (.lst ds) (.lst [])=.ok (.bl ds.isEmpty):=by
 have hs:Lb 40 (.lst ds)=true:=by rw[Lb,all_eq_true];exact h
 unfold Aq
 rw[hs]
 cases ds<;>simp[Lb,Gg,Ot]
theorem CV(ds:List D)(h:∀ d∈ds,Lb 39 d=true):AG (.lst ds) (.lst [])=.ok (.bl (!ds.isEmpty)):=by
 have hs:Lb 40 (.lst ds)=true:=by rw[Lb,all_eq_true];exact h
 unfold AG
 rw[hs]
 cases ds<;>simp[Lb,Gg,Ot]
theorem MK{α:Type}(xs:List α)(v:α):Ar (xs++ [v]) (-1)=some v:=L2.atI_last xs v
theorem Pq(i:Nat)(δ:Ca)(ds:List D)(d:D)(h:δ[i]? =some (some (.o ds)))(hl:ds.length<=100000):Hy i δ (.ok d)=.nx (δ.set i (some (.o (ds++ [d])))):=by
 unfold Hy
 rw[h]
 show(@ite Out (ds.length<=100000) (propDecidable _) _ _)=_
 rw[if_pos hl];rfl
end L3
namespace L3
open PySem
theorem UX:fillsNumberSlot (.type "tuple") "mul"=pure false:=fillsNumberSlot_seq (id:="tuple.__mul__") (r:=some (.builtin "tuple.__rmul__")) F.slot_tuple_mul.lookup (by decide +kernel) F.slot_tuple_rmul.lookup (by decide +kernel)
theorem U5:seqRepeat? (.type "tuple")=pure (some (.builtin "tuple.__mul__")):=by
 unfold seqRepeat?
 rw[seqSlot_of (T:="tuple") (name:="__mul__") (id:="tuple.__mul__") F.slot_tuple_mul.lookup (by decide +kernel),seqSlot_of (T:="tuple") (name:="__rmul__") (id:="tuple.__rmul__") F.slot_tuple_rmul.lookup (by decide +kernel)];rfl
theorem N9(a:Int)(t:Tok)(l:Addr)(items:Array Value)(n:Nat)(dd:Option Addr)(sl:Array (Option Value)):
  Meets (Builtin.«int.__rmul__» ⟨[.int a t,.ref l],[]⟩) (λ_ R s=>s.heap.get? l=some {cls:=.type "tuple",dict:=dd,data:=.seq items n,slots:=sl}/\R (.ok (.ret Value.notImplemented)) s):=
 .of_wp λprog w A R s h=>by
  obtain⟨hp,g,d,tk,os⟩:=s
  obtain⟨hl,h⟩:=h
  wp_walk
  exact⟨_,rfl,h⟩
theorem T5(l:Addr)(items:Array Value)(n:Nat)(dd:Option Addr)(sl:Array (Option Value))(u:Tok):
  Meets (Builtin.«tuple.__mul__» ⟨[.ref l,.int 1 u],[]⟩) (λ_ R s=>s.heap.get? l=some {cls:=.type "tuple",dict:=dd,data:=.seq items n,slots:=sl}/\R (.ok (.ret (Value.ref l))) s):=
 .of_wp λprog w A R s h=>by
  obtain⟨hp,g,d,tk,os⟩:=s
  obtain⟨hl,h⟩:=h
  wp_walk
  exact⟨_,rfl,h⟩
theorem VX(l:Addr)(items:Array Value)(n:Nat)(dd:Option Addr)(sl:Array (Option Value))(k:Int)(u:Tok)(h0:(decide (k< -2^63)||decide (k>=2^63))=false)(h1:(items.isEmpty||k==1)=false)(h2:(decide (k<=0)||items.isEmpty)=false)(h3:¬ (items.size*k>(2^63-1) / 8))(h4:Builtin.Tuple.tupleTooMany (items.size*k)=false)(h5:((replicate k.toNat items).foldl (· ++ ·) #[]).size<=sizeLine):
  Meets (Builtin.«tuple.__mul__» ⟨[.ref l,.int k u],[]⟩) (λ_ R s=>s.heap.get? l=some {cls:=.type "tuple",dict:=dd,data:=.seq items n,slots:=sl}/\R (.ok (.ret (Value.ref s.heap.objs.size))) {s with heap:=s.heap.push {cls:=.type "tuple",data:=.seq ((replicate k.toNat items).foldl (· ++ ·) #[])}}):=
 .of_wp λprog w A R s h=>by
  obtain⟨hp,g,d,tk,os⟩:=s
  obtain⟨hl,h⟩:=h
  wp_walk
  refine wpAny_ite_false (by rw[h0];rfl) ?_
  wp_walk
  refine wpAny_ite_false (decide_eq_false h3) ?_
  wp_walk
  exact⟨_,rfl,h⟩
open PySem.Spec PyProof.Rows L2 SeqAt
variable{X:Cx}{xw:XW}{a b:Expr}{fa fb:Ca->Res D}{pos:Pos}{K:Frag}{W:WS}{H:Hp}{ds:List D}
section
variable {p:Pos}
theorem VV:OpR X (binaryOp .Mult) (λx y H Q=>∃ l k xs,x=.ref l/\y=.int k/\SqT X.K H l xs/\xs≠ []/\1<=k/\k<=1000/\xs.length<=1000/\(k=1->Q (.ref l) H)/\(k≠1->∀ p,H p=none->Q (.ref p) (Jb H p (.tup (replicate k.toNat xs).flatten)))):=by
 intro pins s σ H x y v u Q I rx ry h
 obtain⟨l,k,xs,rfl,rfl,sq,hne,h1,h2,hl,q1,q2⟩:=h
 cases rx
 obtain⟨t,rfl⟩:=ry
 obtain⟨its,r,⟨⟨cls,dd,data,sl⟩,ho,hc,n,hd⟩,hz⟩:=I.tuple sq
 simp only at hc hd
 subst hc hd
 have hlen:=r.length
 have hi:its≠ []:=λe=>hne (by rw[e]at hlen;exact List.eq_nil_of_length_eq_zero hlen)
 have he:its.toArray.isEmpty=false:=by cases its with
  |nil=>exact absurd rfl hi
  |cons=>simp
 have hsz:(its.toArray.size:Int)*k<=1000000:=by
  rw[size_toArray,<-hlen]
  have h3:(xs.length:Int)*k<=1000*1000:=Int.mul_le_mul (by omega) h2 (by omega) (by decide)
  omega
 have hsz':(its.length:Int)*k<=1000000:=by simpa using hsz
 refine wpAny_binaryOp_repeat_ref (T:="tuple") (U:="int") (by decide) ⟨_,ho,rfl⟩ (λs'=>typeIs_int s' k t) UX F.fills_int_mul F.slot_int_rmul U5 F.slot_int_index.lookup
  (call_meets F.slot_int_rmul (typeIs_int s k t) F.entry_int_rmul (F.args_int_rmul_2 _ _) (N9 k t l its.toArray n dd sl) ⟨ho,rfl,⟨_,ho,rfl⟩,?_⟩)
 by_cases hk:k=1
 .subst hk
  exact call_meets F.slot_tuple_mul ⟨_,ho,rfl⟩ F.entry_tuple_mul (F.args_tuple_mul_2 _ _) (T5 l its.toArray n dd sl t) ⟨ho,⟨.ref l,H,I,rfl,q1 rfl⟩⟩
 .have hfl:(replicate k.toNat its.toArray).foldl (λx1 x2=>x1++x2) #[]=(replicate k.toNat its).flatten.toArray:=by
   have:=Av its k.toNat []
   rw[nil_append]at this
   exact this
  have hfz:(replicate k.toNat its).flatten.length<=sizeLine:=by
   rw[QF,sizeLine_eq]
   have h3:its.length*k.toNat<=1000*1000:=Nat.mul_le_mul (by omega) (by omega)
   rw[Nat.mul_comm];omega
  refine call_meets F.slot_tuple_mul ⟨_,ho,rfl⟩ F.entry_tuple_mul (F.args_tuple_mul_2 _ _) (VX l its.toArray n dd sl k t ?_ ?_ ?_ ?_ ?_ ?_) ⟨ho,?_⟩
  .simp only[Bool.or_eq_false_iff,decide_eq_false_iff_not];omega
  .rw[he];simpa using hk
  .rw[he];simp;omega
  .omega
  .unfold Builtin.Tuple.tupleTooMany
   have:((sizeLine:Nat):Int)=16777216:=by rw[sizeLine_eq];rfl
   rw[this];simp;omega
  .rw[hfl,size_toArray];exact hfz
  .rw[hfl]
   refine⟨.ref s.heap.objs.size,_,I.laid (a:=s.heap.objs.size) (o:=.tup (replicate k.toNat xs).flatten) (t':=s.toks) (λ_ _ e=>get?_push_of_some _ e) (le_refl _) ⟨?_,_,r.rep k.toNat,IsTup.new _ _⟩,rfl,q2 hk _ I.fresh⟩
   rw[QF,sizeLine_eq]
   have h3:xs.length*k.toNat<=1000*1000:=Nat.mul_le_mul (by omega) (by omega)
   rw[Nat.mul_comm];omega
def Vt:D->D->Res D
 | .int i,.int j=>A8 (.int i) (.int j)
 | .tup xs,.int k=>@ite (Res D) (xs≠ []/\1<=k/\k<=1000/\xs.length<=1000) (propDecidable _) (.ok (.tup (replicate k.toNat xs).flatten)) .stuck
 |_,_=>.stuck
theorem ZU(i j:Int):Vt (.int i) (.int j)=@ite (Res D) ((-18446744073709551616<i/\i<18446744073709551616)\/(-18446744073709551616<j/\j<18446744073709551616)) (propDecidable _) (.ok (.int (i*j))) .stuck:=rfl
theorem HasL.rep{xs:List V}(h:HasL K W H ds xs):∀ k:Nat,HasL K W H (replicate k ds).flatten (replicate k xs).flatten
 |0=>by simp[HasL]
 |k+1=>by
  rw[replicate_succ,flatten_cons,replicate_succ,flatten_cons]
  exact h.append (HasL.rep h k)
theorem Qp(ha:XP X xw a fa)(hb:XP X xw b fb):XE X xw (.BinOp a .Mult b pos) (b2 Vt fa fb):=⟨by
 refine Bn (U3.or VV) (λW H d e v u Q w hv hu q=>?_) ha.h hb.h
 unfold Vt at q
 split at q
 .unfold A8 at q
  dsimp only at q
  split at q
  .rename_i hj
   exact .inl ⟨_,_,hv.int,hu.int,hj,q.int⟩
  .exact q.elim
 .split at q
  .rename_i xs k hj
   obtain⟨l,ys,e,sq,r⟩:=hv.tup
   refine .inr ⟨l,k,ys,e,hu.int,sq,?_,hj.2.1,hj.2.2.1,by rw[<-r.length];exact hj.2.2.2,λhk=>?_,λ_ p hp=>q.newT w hp (r.rep _)⟩
   .intro z
    subst z
    exact hj.1 (List.eq_nil_of_length_eq_zero (by simpa using r.length))
   .subst hk
    refine q _ H (Same.refl _) ?_
    rw[Has]
    exact⟨l,ys,rfl,sq,by simpa using r⟩
  .exact q.elim
 .exact q.elim⟩
def Cn:List D->Option (List Int)
 | []=>some []
 | .int i::r=>(Cn r).map (i:: ·)
 |_=>none
end
variable{W₀:WS}{H₀:Hp}{σ:L2.St}{δ:Ca}
section
variable {H':Hp}
theorem StHas.freeze{i:Nat}{a:Addr}(h:StHas K W₀ H₀ W H σ δ)(hi:δ[i]? =some (some (.o ds)))(hs:σ[i]? =some (some (.ref a))):
  StHas K W₀ H₀ (λb=>W b/\b≠a) H σ (δ.set i (some (.d (.lst ds))))/\Has K (λb=>W b/\b≠a) H (.lst ds) (.ref a):=by
 obtain⟨v,h1,b,xs,e',hW,h0,h3,h4⟩:=h.at' i _ hi
 rw[hs]at h1
 cases h1
 cases e'
 have hd:Has K (λb=>W b/\b≠a) H (.lst ds) (.ref a):=by
  rw[Has]
  exact⟨a,xs,rfl,.inl ⟨h3,λz=>z.2 rfl⟩,HasL.keep (λ_ _ e _=>e) h.fr.wl (λb z=>.inl z.1) h4⟩
 exact⟨h.freezeG (owo ds) hi hs hd,hd⟩
end
variable{p2:Pos}{tg c:Expr}
section
variable {p:Pos}{fs:Ca->Res (List D)}
def NZ(op:D->D->Res (List D))(f g:Ca->Res D):Ca->Res (List D):=λδ=>(f δ).bind λx=>(g δ).bind λy=>op x y
def QB:D->D->Res (List D)
 | .lst xs,.lst ys=>@ite (Res (List D)) (xs.length+ys.length<=sizeLine) (propDecidable _) (.ok (xs++ys)) .stuck
 |_,_=>.stuck
theorem NV:OpR X (binaryOp .Add) (λx y H Q=>∃ l b xs zs,x=.ref l/\y=.ref b/\SqL X.K H l xs/\SqL X.K H b zs/\xs.length+zs.length<=sizeLine/\∀ p,H p=none->Q (.ref p) (Jb H p (.lst (xs++zs)))):=by
 intro pins s σ H x y v u Q I rx ry h
 obtain⟨l,b,xs,zs,rfl,rfl,hH,hB,hz,q⟩:=h
 cases rx
 cases ry
 obtain⟨its,r,⟨⟨cls,dd,data,sl⟩,n,e,hc,hd,hs⟩,hz1⟩:=I.list hH
 obtain⟨its2,r2,⟨⟨cls2,dd2,data2,sl2⟩,n2,e2,hc2,hd2,hs2⟩,hz2⟩:=I.list hB
 simp only at hc hd hs hc2 hd2 hs2
 subst hc hd hs hc2 hd2 hs2
 have hl:=r.length
 have hl2:=r2.length
 refine concat_meets ⟨_,e,rfl⟩ ⟨_,e2,rfl⟩ noFill_list_add seq_list_add PySem.F.slot_list_add PySem.F.entry_list_add (PySem.F.args_list_add_2 _ _) (list_addW l b its.toArray its2.toArray n n2 none none sl sl2 (by rw[size_toArray,size_toArray];omega)) ⟨e,e2,?_⟩
 have ea:its.toArray++its2.toArray=(its++its2).toArray:=by simp
 rw[ea]
 exact⟨.ref _,_,I.lnew (t':=s.toks) (r.append r2) (by rw[length_append];omega),rfl,q _ I.fresh⟩
theorem ZJ{op:D->D->Res (List D)}{Q:VK}{R:V->V->Hp->Prop}(st:StHas X.K W₀ H₀ W H σ δ)(q:RF X.K xw W H ((fa δ).bind λx=>(fb δ).bind λy=>op x y) Q)(h:∀ H2 d e v u,Same H H2->WL W H2->HasT X.K W H2 d v->HasT X.K W H2 e u->RF X.K xw W H2 (op d e) Q->R v u H2):
  RX X.K xw fa σ H λx H1=>RX X.K xw fb σ H1 λy H2=>R x y H2:=by
 refine⟨W₀,H₀,W,δ,st,?_⟩
 cases h1:fa δ with
 |stuck=>rw[h1]at q;exact q
 |ex c fs=>rw[h1]at q;exact q
 |ok d=>
  rw[h1]at q
  intro v H1 k1 hv
  refine⟨W₀,H₀,W,δ,st.same k1,?_⟩
  have q':RF X.K xw W H ((fb δ).bind λy=>op d y) Q:=q
  cases h2:fb δ with
  |stuck=>rw[h2]at q';exact q'
  |ex c fs=>rw[h2]at q';exact λH2 k2=>q' H2 (k1.trans k2)
  |ok e=>
   rw[h2]at q'
   intro u H2 k2 hu
   have q2:RF X.K xw W H (op d e) Q:=q'
   exact h H2 d e v u (k1.trans k2) (st.fr.wl.same (k1.trans k2)) (hv.same k2 (st.fr.wl.same k1)) hu (RF.same q2 (k1.trans k2))
theorem NY(ha:XP X xw a fa)(hb:XP X xw b fb):XF X xw (.BinOp a .Add b pos) (NZ QB fa fb):=
 ⟨PE.weak (WY NV ha.h hb.h) λσ H Q ⟨W₀,H₀,W,δ,st,q⟩=>ZJ st q λH2 d e v u k w hv hu q2=>by
  unfold QB at q2
  split at q2
  .split at q2
   .rename_i hz
    obtain⟨a1,xs,e1,s1,r1⟩:=hv.lst
    obtain⟨a2,ys,e2,s2,r2⟩:=hu.lst
    exact⟨a1,a2,xs,ys,e1,e2,s1,s2,by rw[<-r1.length,<-r2.length];exact hz,λp hp=>q2 p _ H2 (Same.refl _) hp (r1.append r2)⟩
   .exact q2.elim
  .exact q2.elim⟩
end
def Ri:D->Bool
 | .non=>true
 | .bl _=>true
 | .int _=>true
 | .str _=>true
 |_=>false
variable{d:D}
theorem Pr{v:V}(h:Has K W H d v)(f:Ri d=true):Mm v=true:=by
 cases d with
 |non=>rw[Has]at h;subst h;rfl
 |bl b=>rw[Has]at h;subst h;rfl
 |int i=>rw[Has]at h;subst h;rfl
 |str x=>rw[Has]at h;subst h;rfl
 |_=>cases f
theorem K1{e:D}{v u:V}(h:Has K W H d v)(g:Has K W H e u)(f:Ri d=true)(f2:Ri e=true):WE v u=Gg d e:=by
 cases d with
 |non=>rw[Has]at h;subst h;cases e<;>first|exact absurd (show false=true from f2) Bool.false_ne_true|(rw[Has]at g;subst g;simp[WE,Gg])
 |bl b=>rw[Has]at h;subst h;cases e<;>first|exact absurd (show false=true from f2) Bool.false_ne_true|(rw[Has]at g;subst g;simp[WE,Gg])
 |int i=>rw[Has]at h;subst h;cases e<;>first|exact absurd (show false=true from f2) Bool.false_ne_true|(rw[Has]at g;subst g;simp[WE,Gg])
 |str x=>rw[Has]at h;subst h;cases e<;>first|exact absurd (show false=true from f2) Bool.false_ne_true|(rw[Has]at g;subst g;simp[WE,Gg])
 |_=>cases f
theorem MC{d:D}{v:V}(h:Has K W H d v)(f:Ri d=true):∀ {ds:List D} {xs:List V},HasL K W H ds xs->ds.all Ri=true->xs.all Mm=true/\inV v xs=ds.any (λy=>Gg y d)
 | [],_,r,_=>by rw[HasL]at r;subst r;exact⟨rfl,rfl⟩
 |e::ds,_,r,fs=>by
  rw[HasL]at r
  obtain⟨x,q,rfl,hx,hq⟩:=r
  rw[all_cons,and_eq_true]at fs
  obtain⟨h1,h2⟩:=MC h f hq fs.2
  refine⟨by rw[all_cons,Pr hx fs.1,h1];rfl,?_⟩
  show(WE x v||inV v q)=(Gg e d||ds.any λy=>Gg y d)
  rw[K1 hx h fs.1 f,h2]
def Ob0(i j:Str):Bool:= !(Builtin.Str.occurrences j i 0 j.length 1).isEmpty
def inB(d:D)(ds:List D):Bool:=ds.any λy=>Gg y d
def QY:D->D->Res D
 | .str i,.str j=>.ok (.bl (Ob0 i j))
 |d,.tup ds=>if(Ri d&&ds.all Ri)=true then .ok (.bl (inB d ds)) else .stuck
 |d,.lst ds=>if(Ri d&&ds.all Ri)=true then .ok (.bl (inB d ds)) else .stuck
 |_,_=>.stuck
section
variable {p:Pos}{e:Expr}{f:Ca->Res D}{fs:Ca->Res (List D)}
theorem CF{v:V}(h:HasT K W H d v)(f:Ri d=true):Has K W H d v:=by
 rcases h with h|⟨ds,_,_,rfl,_⟩
 .exact h
 .cases f
theorem N3:Op2 X xw (λx y H Q=>(∃ i j,x=.str i/\y=.str j/\Q (.bl (!(Builtin.Str.occurrences j i 0 j.length 1).isEmpty)) H)\/rIn X.K false x y H Q) QY:=by
 intro W H d e v u Q w hv hu q
 unfold QY at q
 split at q
 .exact .inl ⟨_,_,hv.str,hu.str,q.bl⟩
 .split at q
  .rename_i hf
   rw[and_eq_true]at hf
   obtain⟨a1,xs,e1,sq,r⟩:=hu.tup
   obtain⟨h1,h2⟩:=MC (CF hv hf.1) hf.1 r hf.2
   exact .inr ⟨a1,xs,e1,.inr sq,Pr (CF hv hf.1) hf.1,h1,by rw[if_neg Bool.false_ne_true,h2];exact q.bl⟩
  .exact q.elim
 .split at q
  .rename_i hf
   rw[and_eq_true]at hf
   obtain⟨a1,xs,e1,sq,r⟩:=hu.lst
   obtain⟨h1,h2⟩:=MC (CF hv hf.1) hf.1 r hf.2
   exact .inr ⟨a1,xs,e1,.inl sq,Pr (CF hv hf.1) hf.1,h1,by rw[if_neg Bool.false_ne_true,h2];exact q.bl⟩
  .exact q.elim
 .exact q.elim
theorem D6(ha:XP X xw a fa)(hb:XP X xw b fb)(hm:behindInMarks .In b=false:=by rfl):XT X xw (.Compare a [.In] [b] pos) (tR (b2 QY fa fb)):=
 ⟨DE.t_of (f:=b2 QY fa fb) (PT.weak (Eo (IJ.or HJ) ha.h hb.h hm) λσ H Q ⟨W₀,H₀,W,δ,st,q⟩=>Pl st q λH2 d e v u k w hv hu _ _ q2=>N3 W H2 d e v u _ w hv hu q2)⟩
variable {lo hi:Option Expr}{fl fh:Ca->Res (Option Int)}
theorem Wz{x:Str}{n:Int}(h1:1<=n)(h2:n<=1000)(h3:x.length<=1000):MulOk x n:=by
 refine⟨?_,λ_ _=>?_,λ_ _=>?_⟩
 .rw[decide_eq_false (by omega),decide_eq_false (by omega)];rfl
 .have:(1000:Int)<=(2^63-1) / n:=by
   rw[Int.le_ediv_iff_mul_le (by omega)]
   omega
  omega
 .have:x.length*n.toNat<=1000*1000:=Nat.mul_le_mul h3 (by omega)
  have hz:(1000000:Nat)<=sizeLine:=by rw[sizeLine_eq];decide
  unfold Builtin.Str.tooLong
  simp
  omega
theorem SV:OpR X (binaryOp .Mult) (λx y H Q=>∃ z n,x=.str z/\y=.int n/\MulOk z n/\Q (.str (PySem.Txt.mul z n)) H):=by
 intro pins s σ H x y v u Q I rx ry h
 obtain⟨z,n,rfl,rfl,hok,q⟩:=h
 obtain⟨t,rfl⟩:=rx
 obtain⟨t',rfl⟩:=ry
 exact PySem.SB.mul hok λt' k=>⟨.str _,H,I.tok _,⟨t',rfl⟩,q⟩
structure GlobT(K:Frag)(mg:Str->Option Value)(x:Str)(xs:List Str):Prop where
 h:∃ (ad:Addr) (o:Obj) (its:Array Value) (n:Nat),mg x=some (.ref ad)/\K.lookup ad=some o/\o.cls=.type "tuple"/\o.data=.seq its n/\its.size<=sizeLine/\Vals (xs.map V.str) its.toList
theorem EX{P:Program}{w:World}{k:Cb}{u:Value}(r:RelV (kV k) u):(Cd P w).is k u=true:=by
 cases k with
 |inl i=>obtain⟨t,rfl⟩:=r;exact Uz P w i t
 |inr x=>obtain⟨t,rfl⟩:=r;exact Vz P w x t
def Pz:D->Option Cb
 | .str x=>some (.inr x)
 | .int i=>some (.inl i)
 |_=>none
end
end L3
namespace L3
open PySem PySem.Spec PyProof.Rows L2 SeqAt
open Builtin Builtin.Str
section
variable {X:Cx}{xw:XW}{pos p p2 apos cpos:Pos}{tg a b c e o:Expr}{es:List Expr}{f fa fb:Ca->Res D}{fs:Ca->Res (List D)}
def Kp:List D->Option (List Str)
 | []=>some []
 | .str x::ds=>(Kp ds).map (x:: ·)
 |_=>none
end
end L3
namespace L3
open PySem PySem.Spec PyProof.Rows L2 SeqAt
variable{X:Cx}{xw:XW}{pos:Pos}{a:Expr}{fa:Ca->Res D}
section
variable {p p2 apos cpos:Pos}{tg b c e o ie:Expr}{es:List Expr}{f fi fb:Ca->Res D}{fs:Ca->Res (List D)}
end
theorem Gz:∀ {ns:List Int} {us:List Value},Vals (ns.map V.int) us->IntsAre us ns
 | [],_,.nil=>.nil
 |n::ns,_,.cons ⟨t,h⟩ r=>by rw[h];exact .cons n t (Gz r)
section
variable {p:Pos}
theorem En{K:Frag}{W:WS}{H:Hp}:∀ {ds:List D} {ns:List Int} {vs:List V},Cn ds=some ns->HasL K W H ds vs->vs=ns.map V.int
 | [],ns,vs,h,r=>by cases h;rw[HasL]at r;exact r
 |d::ds,ns,vs,h,r=>by
  cases d with
  |int x=>
   obtain⟨ys,h1,rfl⟩:=map_eq_some_iff.mp (show(Cn ds).map (x:: ·)=some ns from h)
   rw[HasL]at r
   obtain⟨v,q,rfl,hv,hq⟩:=r
   rw[Has]at hv
   rw[hv,En h1 hq];rfl
  |_=>cases h
end
end L3
namespace HT
open PySem PyProof.Rows
section
open PySem.SeqAt
open PySem.AutoSeq1 (wpAny_loadPart')
open PySem.MeetsSeq PySem.MeetsSeq2 PySem.MeetsSeq3
end
section
variable {prog:Program}{w:World}{A:Around}{E:Value->Shared->Prop}{s:Shared}
end
end HT
namespace L3
open PySem PySem.Spec PyProof.Rows L2 SeqAt
section
variable {X:Cx}{xw:XW}
end
end L3
namespace L3
open PySem
def Rise(xs:Array Nat):Prop:=xs.toList.Pairwise (λa b=>a<b)
variable{xs:Array Nat}{i j:Nat}
theorem Rise.lt(r:Rise xs){a b:Nat}(h:i<j)(ha:xs[i]? =some a)(hb:xs[j]? =some b):a<b:=by
 unfold Rise at r;rw[List.pairwise_iff_getElem]at r
 rw[<-getElem?_toList]at ha hb
 obtain⟨p,e⟩:=List.getElem?_eq_some_iff.mp ha
 obtain⟨q,f⟩:=List.getElem?_eq_some_iff.mp hb
 have z:=r i j p q h
 rw[e,f]at z;exact z
def JY(xs:Array Nat)(j p:Nat):Prop:=p<=xs.size/\(∀ i a,i<p->xs[i]? =some a->a<j)/\∀ i a,p<=i->xs[i]? =some a->j<=a
theorem Ly(r:Rise xs)(j:Nat):∀ (n lo hi:Nat),hi-lo<=n->lo<=hi->hi<=xs.size->(∀ i a,i<lo->xs[i]? =some a->a<j)->(∀ i a,hi<=i->xs[i]? =some a->j<=a)->
  JY xs j (SetTable.below.go xs j n lo hi):=by
 intro n
 induction n with
 |zero=>
  intro lo hi h1 h2 h3 h4 h5
  have:lo=hi:=by omega
  subst this
  exact⟨h3,h4,h5⟩
 |succ n ih=>
  intro lo hi h1 h2 h3 h4 h5
  unfold SetTable.below.go
  by_cases hl:lo<hi
  .rw[if_pos hl];dsimp only
   have hm:(lo+hi) / 2<xs.size:=by omega
   have hg:xs[(lo+hi) / 2]? =some xs[(lo+hi) / 2]:=Array.getElem?_eq_getElem hm
   have hd:xs.getD ((lo+hi) / 2) j=xs[(lo+hi) / 2]:=by simp[getD,hm]
   rw[hd]
   by_cases hc:xs[(lo+hi) / 2]<j
   .rw[if_pos hc]
    refine ih _ _ (by omega) (by omega) h3 (λi a hi' ha=>?_) h5
    rcases lt_or_ge i ((lo+hi) / 2) with q|q
    .exact lt_trans (r.lt q ha hg) hc
    .have:i=(lo+hi) / 2:=by omega
     subst this;rw[hg]at ha;cases ha;exact hc
   .rw[if_neg hc]
    refine ih _ _ (by omega) (by omega) (by omega) h4 (λi a hi' ha=>?_)
    rcases lt_or_ge ((lo+hi) / 2) i with q|q
    .exact le_trans (Nat.le_of_not_lt hc) (le_of_lt (r.lt q hg ha))
    .have:i=(lo+hi) / 2:=by omega
     subst this;rw[hg]at ha;cases ha;exact Nat.le_of_not_lt hc
  .rw[if_neg hl]
   have:lo=hi:=by omega
   subst this
   exact⟨h3,h4,h5⟩
theorem Ky(r:Rise xs)(j:Nat):JY xs j (SetTable.below xs j):=
 Ly r j xs.size 0 xs.size (by omega) (zero_le _) (le_refl _) (λ_ _ h=>absurd h (Nat.not_lt_zero _)) λi a h e=>by
  have:=(Array.getElem?_eq_some_iff.mp e).1;omega
theorem Fz(r:Rise xs)(hj:xs[SetTable.below xs j]? ≠some j):Rise (SetTable.insertAt xs (SetTable.below xs j) j):=by
 obtain⟨h1,h2,h3⟩:=Ky r j
 generalize SetTable.below xs j=p at*
 have strict:∀ i a,p<=i->xs[i]? =some a->j<a:=λi a hi ha=>by
  rcases lt_or_ge j a with q|q
  .exact q
  .have e:a=j:=Nat.le_antisymm q (h3 i a hi ha)
   subst e
   rcases Nat.eq_or_lt_of_le hi with z|z
   .subst z;exact absurd ha hj
   .have hp:p<xs.size:=lt_trans z (Array.getElem?_eq_some_iff.mp ha).1
    have hg:xs[p]? =some xs[p]:=Array.getElem?_eq_getElem hp
    have:=r.lt z hg ha
    have:=h3 p _ (le_refl _) hg
    omega
 unfold Rise at r ⊢
 rw[SetTable.toList_insertAt,List.pairwise_append]
 refine⟨Pairwise.sublist (List.take_sublist _ _) r,pairwise_cons.mpr ⟨λb hb=>?_,Pairwise.sublist (List.drop_sublist _ _) r⟩,λa ha b hb=>?_⟩
 .obtain⟨i,hi,e⟩:=List.mem_iff_getElem.mp hb
  rw[List.getElem_drop]at e
  refine strict (p+i) b (Nat.le_add_right _ _) ?_
  rw[<-getElem?_toList,<-e];exact getElem?_eq_getElem _
 .have hlt:a<j:=by
   obtain⟨i,hi,e⟩:=List.mem_iff_getElem.mp ha
   rw[List.getElem_take]at e
   have hi':i<p:=by rw[length_take]at hi;omega
   refine h2 i a hi' ?_
   rw[<-getElem?_toList,<-e];exact getElem?_eq_getElem _
  rcases mem_cons.mp hb with rfl|hb
  .exact hlt
  .obtain⟨i,hi,e⟩:=List.mem_iff_getElem.mp hb
   rw[List.getElem_drop]at e
   refine lt_trans hlt (strict (p+i) b (Nat.le_add_right _ _) ?_)
   rw[<-getElem?_toList,<-e];exact getElem?_eq_getElem _
structure TOk(txt:Bool)(t:SetTable):Prop where
 led:t.led= !txt
 ok:t.plain=true->Rise t.place/\t.dummies= #[]
variable{txt:Bool}
theorem Fk{t:SetTable}(h:TOk txt t)(n:Nat):TOk txt (t.standIn n):=⟨h.led,λe=>by cases e⟩
theorem Kx{t:SetTable}(h:TOk txt t)(n:Nat):TOk txt (t.orStandIn n):=by
 unfold SetTable.orStandIn;split
 .exact h
 .exact Fk h n
theorem Cz(j:Nat):SetTable.has #[] j=false:=by simp[SetTable.has]
theorem ID{t:SetTable}(hd:t.dummies= #[])(h:Int){d:Option Nat}:∀ (n:Nat) (p:SetTable.Probe),p.dummy=none->SetTable.probe.go t (λ_=>h+1) h n p=some (.empty j d)->t.slot j=.empty/\d=none:=by
 intro n
 induction n with
 |zero=>intro p _ e;cases e
 |succ n ih=>
  intro p hp e
  unfold SetTable.probe.go at e
  split at e
  .rename_i hs
   cases e;exact⟨hs,hp⟩
  .rename_i hs
   unfold SetTable.slot at hs;dsimp only at hs
   split at hs
   .cases hs
   .rw[hd,Cz]at hs;simp at hs
  .rw[if_neg (by simp;omega)]at e
   refine ih _ ?_ e
   unfold SetTable.advance
   split
   .exact hp
   .exact hp
variable{b:Bool}
theorem X4{t:SetTable}(k:TOk txt t){h:Int}(e:t.freeSlot h=some (j,b)):TOk txt (t.put j).1:=by
 refine⟨k.led,λhp=>?_⟩
 obtain⟨r,d⟩:=k.ok hp
 unfold SetTable.freeSlot at e
 split at e
 .rename_i j' d' e'
  obtain⟨z1,z2⟩:=ID d h _ _ rfl e'
  subst z2
  cases e
  show Rise (SetTable.insertAt t.place (SetTable.below t.place j') j')/\(if SetTable.has t.dummies j'=true then _ else t.dummies)= #[]
  refine⟨Fz r λq=>?_,?_⟩
  .unfold SetTable.slot at z1;dsimp only at z1
   rw[if_pos (by rw[q];simp)]at z1;cases z1
  .rw[d,Cz];rfl
 .cases e
theorem YI{t:SetTable}(k:TOk txt t)(es:Array (Int×Value))(h:Int)(x:Value):TOk txt (layNew t es h x).2.1:=by
 unfold layNew
 split
 .rename_i j b e
  exact Kx (X4 k e) _
 .exact Fk k _
theorem OU{m f v:Nat}{l p:Bool}{hs:Array Int}{t:SetTable}{o:Array Nat}(e:SetTable.laid m f v l p hs=some (t,o)):t.led=l/\t.plain=p/\Rise t.place/\t.dummies= #[]:=by
 unfold SetTable.laid at e
 cases hc:SetTable.layClean m hs with
 |none=>rw[hc]at e;cases e
 |some ow=>
  rw[hc]at e
  cases e
  refine⟨rfl,rfl,?_,rfl⟩
  show Pairwise _ (List.map _ (List.filterMap _ (range (m+1)))).toArray.toList
  rw[List.toList_toArray,List.map_filterMap]
  refine Pairwise.filterMap _ (R:=λa b=>a<b) ?_ List.pairwise_lt_range
  intro a a' h b hb b' hb'
  cases h1:ow.getD a none with
  |none=>rw[h1]at hb;cases hb
  |some z=>
   cases h2:ow.getD a' none with
   |none=>rw[h2]at hb';cases hb'
   |some z'=>rw[h1]at hb;rw[h2]at hb';cases hb;cases hb';exact h
theorem PP{t:SetTable}(k:TOk txt t)(es:Array (Int×Value))(n:Nat):TOk txt (relayAll t es n).2.1:=by
 unfold relayAll
 split
 .rename_i t' o e
  dsimp only
  split
  .obtain⟨a1,a2,a3,a4⟩:=OU (show SetTable.laid _ _ _ _ _ _=_ from e)
   exact⟨a1.trans k.led,λ_=>⟨a3,a4⟩⟩
  .exact Fk k _
 .exact Fk k _
theorem JD{α:Type}:∀ (l:List α) (i:Nat) (h:i<l.length),(l[i]::l.eraseIdx i).Perm l
 | [],_,h=>absurd h (Nat.not_lt_zero _)
 |a::l,0,_=>Perm.refl _
 |a::l,i+1,h=>by
  have hi:i<l.length:=by simpa using h
  rw[List.getElem_cons_succ,List.eraseIdx_cons_succ]
  exact(Perm.swap a _ _).trans (Perm.cons a (JD l i hi))
variable{α:Type}
theorem P4(next:Nat->Nat):∀ (n k:Nat) (left:List α) (out:Array α),n=left.length->(pickOrder.go next n k left out).toList.Perm (out.toList++left):=by
 intro n
 induction n with
 |zero=>intro k left out e;have:left= []:=List.length_eq_zero_iff.mp e.symm;subst this;unfold pickOrder.go;simp
 |succ n ih=>
  intro k left out e
  have hl:next k%left.length<left.length:=Nat.mod_lt _ (by omega)
  unfold pickOrder.go
  rw[getElem?_eq_getElem hl]
  dsimp only
  refine(ih _ _ _ (by rw[List.length_eraseIdx_of_lt hl];omega)).trans ?_
  rw[Array.toList_push,append_assoc]
  exact Perm.append_left _ (by simpa using JD left _ hl)
theorem Qs(next:Nat->Nat)(xs:Array α):(pickOrder next xs).toList.Perm xs.toList:=by
 unfold pickOrder;simpa using P4 next xs.size 0 xs.toList #[] (by simp)
def nv:Value->Int
 | .int n _=>n
 |_=>0
def Dy(σ:List Int)(k:Int):List Int:=if k∈σ then σ else σ++ [k]
variable{a:Addr}{o:Obj}{prog:Program}{w:World}{A:Around}{E:Value->Shared->Prop}{s:Shared}{σ:List Int}{k:Int}{es:Array (Int×Value)}{ep:Nat}
def SI(prog:Program)(w:World)(h:Heap)(a:Addr)(σ:List Int):Prop:=
 ∃ o es ep t,h.get? a=some o/\o.ExactSet/\o.data=.set es ep t/\ElemsOf (intKind prog w) es.toList/\(es.toList.map λe=>nv e.2).Perm σ/\es.size<scanBound/\t.fits es.size=true/\TOk (w.params.followText "set-order") t
theorem SI.at'{h h':Heap}(x:SI prog w h a σ)(k:∀ o,h.get? a=some o->h'.get? a=some o):SI prog w h' a σ:=by
 obtain⟨o,es,ep,t,ho,r⟩:=x;exact⟨o,es,ep,t,k o ho,r⟩
theorem RY{v:Value}(h:(intKind prog w).is k v=true):nv v=k:=by
 obtain⟨t,rfl⟩:=Value.isInt_shape (show Value.isInt k v=true from h);rfl
theorem BN(k:Int)(t:Tok):(intKind prog w).is k (.int k t)=true:=by
 show Value.isInt k (.int k t)=true;simp[Value.isInt]
theorem SA{h:Heap}{es':Array (Int×Value)}{t t':SetTable}(ho:h.get? a=some o)(hex:o.ExactSet)(hd:o.data=.set es ep t)(hel:ElemsOf (intKind prog w) es'.toList)(hp:(es'.toList.map λe=>nv e.2).Perm σ)(hb:es'.size<scanBound)(hf:t'.fits es'.size=true)(ht:TOk (w.params.followText "set-order") t'):
  (h.update a (Obj.putSet es' t')).get? a=some {o with data:=.set es' (ep+1) t'}/\SI prog w (h.update a (Obj.putSet es' t')) a σ:=by
 have hg:=get?_update_self (Obj.putSet es' t') ho (by rw[putSet_of es' t' hd];rfl)
 rw[putSet_of es' t' hd]at hg
 exact⟨hg,{o with data:=.set es' (ep+1) t'},es',ep+1,t',hg,hex,rfl,hel,hp,hb,hf,ht⟩
theorem SG{g:Bool->Sem Unit}(hg:∀ (b:Bool) (s₁:Shared) (Q':Unit->Shared->Prop),Q' () s₁->wpAny (model prog w) A (g b) Q' E s₁){es1:Array (Int×Value)}{t t2:SetTable}(ho:s.heap.get? a=some o)(hex:o.ExactSet)(hd:o.data=.set es ep t)(hel:ElemsOf (intKind prog w) es1.toList)(hp:(es1.toList.map λe=>nv e.2).Perm σ)(hb:es1.size<scanBound)(hf:t2.fits es1.size=true)(ht:TOk (w.params.followText "set-order") t2){wd:Bool}{R:Option Bool->Shared->Prop}(h:∀ h',SameBut a s.heap h'->SI prog w h' a σ->R (some true) {s with heap:=h'}):
  wpAny (model prog w) A (storeSet a es1 t2 >>= λ_=>if(!wd&&t2.tooFull)=true then(g (relayAll t2 es1 (SetTable.grown es1.size)).2.2 >>= λ_=>
   storeSet a (relayAll t2 es1 (SetTable.grown es1.size)).1 (relayAll t2 es1 (SetTable.grown es1.size)).2.1 >>= λ_=>pure (some true)) else pure (some true)) R E s:=by
 obtain⟨ho1,hS1⟩:=SA (prog:=prog) (w:=w) ho hex hd hel hp hb hf ht
 have sb:=SameBut.update s.heap a (Obj.putSet es1 t2)
 refine wpAny_bind (wpAny_storeSet_of ho hd (wpAny_ite_split (λ_=>?_) λ_=>wpAny_pure (h _ sb hS1)) (fits_of_scanBound hb))
 have pp:=relayAll_perm t2 es1 (SetTable.grown es1.size)
 have ff:=relayAll_fits t2 es1 (SetTable.grown es1.size)
 have kk:=PP ht es1 (SetTable.grown es1.size)
 generalize relayAll t2 es1 (SetTable.grown es1.size)=R' at pp ff kk ⊢
 obtain⟨es2,t3,g2⟩:=R'
 dsimp only at pp ff kk ⊢
 have hz:es2.size=es1.size:=by rw[<-length_toList,pp.length_eq,length_toList]
 have hb2:es2.size<scanBound:=by rw[hz];exact hb
 refine wpAny_bind (hg _ _ _ (wpAny_bind (wpAny_storeSet_of ho1 rfl (wpAny_pure ?_) (fits_of_scanBound hb2))))
 exact h _ (sb.trans (SameBut.update _ a _)) (SA (prog:=prog) (w:=w) ho1 hex rfl (hel.perm pp) ((pp.map _).trans hp) hb2 ff kk).2
theorem L5{u:Tok}{Q:Bool->Shared->Prop}(hS:SI prog w s.heap a σ)(room:σ.length+1<scanBound)(h:∀ h' b,SameBut a s.heap h'->SI prog w h' a (Dy σ k)->Q b {s with heap:=h'}):wpAny (model prog w) A (setAddHashed a (.int k u) (hashInt k)) Q E s:=by
 obtain⟨o,es,ep,t,ho,hex,hd,hel,hp,hb,hf,ht⟩:=hS
 have hl:es.size=σ.length:=by rw[<-hp.length_eq,length_map,length_toList]
 have hk:(intKind prog w).is k (.int k u)=true:=BN k u
 unfold setAddHashed setAddHashedIn
 refine wpAny_holding (wpAny_bind (wpAny_setState_of ho hd hf ?_));dsimp only
 rw[byScan_of (knd:=intKind prog w) rfl hb hel,if_pos rfl]
 unfold setAddByScan
 refine wpAny_bind (wpAny_bind (wpAny_rule (wpAny_bind (wpAny_setScan_of (knd:=intKind prog w) hk ho hd hf hel ?_))))
 cases hr:List.findIdx? (λe=>(intKind prog w).is k e.2) es.toList with
 |some j=>
  obtain⟨hj,hpj,_⟩:=List.findIdx?_eq_some_iff_getElem.mp hr
  have hm:k∈σ:=hp.mem_iff.mp (mem_map.mpr ⟨es.toList[j],List.getElem_mem hj,RY hpj⟩)
  refine wpAny_pure (wpAny_pure (h s.heap _ (SameBut.refl a s.heap) ?_))
  rw[Dy,if_pos hm];exact⟨o,es,ep,t,ho,hex,hd,hel,hp,hb,hf,ht⟩
 |none=>
  have hm:k∉σ:=λz=>by
   obtain⟨e,he,q⟩:=mem_map.mp (hp.mem_iff.mpr z)
   obtain⟨⟨k',hk',_⟩,_⟩:=hel e he
   have:k'=k:=(RY hk').symm.trans q
   subst this
   have:=List.findIdx?_eq_none_iff.mp hr e he
   rw[hk']at this;cases this
  have pp:=layNew_perm t es (hashInt k) (.int k u)
  have ff:=layNew_fits t es (hashInt k) (.int k u)
  have kk:=YI ht es (hashInt k) (.int k u)
  dsimp only
  generalize layNew t es (hashInt k) (.int k u)=L at pp ff kk ⊢
  obtain⟨es1,t1,wd,gv⟩:=L
  dsimp only at pp ff kk ⊢
  rw[Array.toList_push]at pp
  have hp1:(es1.toList.map λe=>nv e.2).Perm (Dy σ k):=by
   rw[Dy,if_neg hm]
   refine(pp.map _).trans ?_
   rw[map_append]
   exact hp.append_right _
  have hz:es1.size<scanBound:=by rw[<-length_toList,pp.length_eq,length_append,length_toList,hl];exact room
  have gw:∀ (b:Bool) (s₁:Shared) (Q':Unit->Shared->Prop),Q' () s₁->wpAny (model prog w) A (match b with|true=>rule "set.scan.the-table-gave-way"|false=>(pure ():Sem Unit)) Q' E s₁:=λb s₁ Q' q=>by
   cases b
   .exact wpAny_pure q
   .exact wpAny_rule q
  refine wpAny_bind (gw gv _ _ ?_)
  have fin:∀ h',SameBut a s.heap h'->SI prog w h' a (Dy σ k)->wpAny (model prog w) A (pure true) Q E {s with heap:=h'}:=λh' q1 q2=>wpAny_pure (h h' true q1 q2)
  refine wpAny_ite_split (λhpl=>?_) (λhpl=>?_)
  .refine wpAny_bind ?_
   rw[hashByValue_scannable 8 (show(Value.int k u).scannable=true from rfl)]
   refine wpAny_pure ?_
   exact SG gw ho hex hd ((hel.push hk rfl).perm pp) hp1 hz ff kk fin
  .refine wpAny_bind (wpAny_pure ?_)
   exact SG gw ho hex hd ((hel.push hk rfl).perm pp) hp1 hz ff kk fin
namespace F
theorem slot_si_next:Slot "set_iterator" "__next__" "set_iterator.__next__":=
 .of (owner:="set_iterator") (n:="__next__") (by rw[typeLookup_type,builtinLookup_eq_fast];kernel_rfl) (by decide +kernel) (by decide +kernel) (by decide +kernel) (by first|exact .inl (by decide +kernel)|exact .inr (by decide +kernel)) (by rw[isSubtype_type];kernel_rfl)
theorem entry_si_next:entryFor table "set_iterator.__next__"=some Builtin.«set_iterator.__next__» :=entryFor_of_fast (by kernel_rfl)
theorem args_si_next(a:Value):argsOk "set_iterator.__next__" ⟨[a],[]⟩:=by unfold argsOk;kernel_rfl
theorem entry_set_iter:entryFor table "set.__iter__"=some Builtin.«frozenset.__iter__» :=entryFor_alias (id':="frozenset.__iter__") (by kernel_rfl) rfl (by decide +kernel) (by kernel_rfl)
end F
abbrev Km(h:Heap)(I:Addr)(first:Value)(i:Nat)(S:Addr)(n ep:Nat):Prop:=
 h.get? I=some {cls:=.type "set_iterator",dict:=none,data:=.fields #[first,rawInt i,.ref S,rawInt n,rawInt ep],slots:= #[]}
variable{Q:Option (Value×Nat)->Shared->Prop}{I T:Addr}{n slot given:Nat}
section
variable {S:Addr}{t:SetTable}
theorem ZR{src:Source}{Q:Nat->Shared->Prop}(hn:n≠0)(h:∀ k d,k<n->Q k {s with drawn:=d}):wpAny (model prog w) A (choose src n) Q E s:=λΓ p hΓ=>by
 unfold choose
 rw[Sem.wp_choose]
 exact⟨hn,by rw[Sem.wp_pure];exact h _ _ (Nat.mod_lt _ (Nat.pos_of_ne_zero hn))⟩
theorem Mr{α:Type}:∀ (n:Nat) (xs:List α) (s:Shared) {Q:List α->Shared->Prop},n=xs.length->(∀ ys d,ys.Perm xs->Q ys {s with drawn:=d})->wpAny (model prog w) A (drawOrder n xs) Q E s
 |0,xs,s,Q,e,h=>by
  have:xs= []:=List.length_eq_zero_iff.mp e.symm
  subst this
  unfold drawOrder
  exact wpAny_pure (h [] s.drawn (Perm.refl _))
 |n+1,[],s,Q,e,h=>by simp at e
 |n+1,x::xs,s,Q,e,h=>by
  unfold drawOrder
  refine wpAny_bind (ZR (by simp) λk d hk=>?_)
  rw[getElem?_eq_getElem hk]
  dsimp only
  refine wpAny_bind (Mr n _ _ (by rw[List.length_eraseIdx_of_lt hk];omega) λys d' hp=>wpAny_pure ?_)
  exact h _ d' ((Perm.cons _ hp).trans (JD _ _ hk))
theorem Qq{Q:Bool->Shared->Prop}(e:w.params.followText "set-order"=b)(h:Q b s):wpAny (model prog w) A setsByText Q E s:=by
 unfold setsByText
 refine wpAny_bind (wpAny_askSetting (wpAny_pure ?_))
 show Q (w.params.followText "set-order") s
 rw[e];exact h
theorem Sx(bt:w.params.followText "set-order"=true)(ho:s.heap.get? S=some o)(hd:o.data=.set es ep t)(hf:t.fits es.size=true)(h:Q (((pickOrder (w.params.setOrder S ep) es)[given]?).map λe=>(e.2,slot)) s):wpAny (model prog w) A (setNext S slot given ep) Q E s:=by
 unfold setNext
 refine wpAny_bind (wpAny_setState_of ho hd hf ?_);dsimp only
 refine wpAny_bind (Qq bt ?_)
 rw[if_pos rfl]
 rw[if_neg (by simp)]
 refine wpAny_bind ?_
 unfold setWalk
 refine wpAny_bind (wpAny_setState_of ho hd hf ?_);dsimp only
 refine wpAny_bind (Qq bt ?_)
 rw[if_pos rfl]
 exact wpAny_bind (wpAny_askSetting (wpAny_pure (wpAny_pure h)))
theorem Ju(bt:w.params.followText "set-order"=false)(ho:s.heap.get? S=some o)(hd:o.data=.set es ep t)(hf:t.fits es.size=true)(hl:t.led=true)(hp:t.plain=true\/es.size<=1)(h:Q (match es[SetTable.below t.place slot]?,t.place[SetTable.below t.place slot]? with|some (_,x),some j=>some (x,j+1)|_,_=>none) s):
  wpAny (model prog w) A (setNext S slot given ep) Q E s:=by
 unfold setNext
 refine wpAny_bind (wpAny_setState_of ho hd hf ?_);dsimp only
 refine wpAny_bind (Qq bt ?_)
 rw[if_neg (by simp)]
 refine wpAny_ite_split (λhc=>?_) (λ_=>?_)
 .have hc':(!t.plain&&decide (es.size>1))=true:=hc
  rcases hp with q|q
  .rw[q]at hc';cases hc'
  .rw[show decide (es.size>1)=false from decide_eq_false (by omega),Bool.and_false]at hc';cases hc'
 .refine wpAny_bind ?_
  refine wpAny_ite_split (λhc=>?_) (λ_=>wpAny_pure (wpAny_pure h))
  have hc':(!t.led&& !es.isEmpty)=true:=hc
  rw[hl]at hc';cases hc'
theorem Yz{sl:Nat}{Q:Fin->Shared->Prop}(hi:Km s.heap I (rawInt sl) i S es.size ep)(ho:s.heap.get? S=some o)(hd:o.data=.set es ep t)(hf:t.fits es.size=true)(h:wpAny (model prog w) A (setNext S sl i ep >>= λr=>match r with
    |some (x,next)=>setField (.ref I) 0 (rawInt next) >>= λ_=>setField (.ref I) 1 (rawInt ((i:Int)+1)) >>= λ_=>ret x
    |none=>setField (.ref I) 2 .none >>= λ_=>newExc (.type "StopIteration") [] >>= λe=>raiseNew e) Q E s):wpAny (model prog w) A (Builtin.«set_iterator.__next__» ⟨[.ref I],[]⟩) Q E s:=by
 unfold Builtin.«set_iterator.__next__»
 show wpAny _ _ (fieldsOf (.ref I) >>= _) _ _ s
 refine wpAny_bind (wpAny_fieldsOf hi rfl ?_)
 show wpAny _ _ (setEntries S >>= _) _ _ s
 refine wpAny_bind (wpAny_setEntries_of ho hd hf ?_)
 refine wpAny_ite_split (λhc=>absurd hc (by simp)) (λ_=>?_)
 exact h
theorem Zz{Q:Fin->Shared->Prop}(hi:Km s.heap I (.ref T) i S es.size ep)(ho:s.heap.get? S=some o)(hd:o.data=.set es ep t)(hf:t.fits es.size=true){ps:Array Value}(hT:s.heap.get? T=some {cls:=.type "tuple",data:=.seq ps})(h:wpAny (model prog w) A (match ps[i]? with
     |some (.int place _)=>setNextDrawn S place.toNat ep >>= λx=>setField (.ref I) 1 (rawInt ((i:Int)+1)) >>= λ_=>ret x
     |some _=>unsupported "internal:set_iterator"
     |none=>setField (.ref I) 0 (rawInt 0) >>= λ_=>setField (.ref I) 2 .none >>= λ_=>newExc (.type "StopIteration") [] >>= λe=>raiseNew e) Q E s):wpAny (model prog w) A (Builtin.«set_iterator.__next__» ⟨[.ref I],[]⟩) Q E s:=by
 unfold Builtin.«set_iterator.__next__»
 show wpAny _ _ (fieldsOf (.ref I) >>= _) _ _ s
 refine wpAny_bind (wpAny_fieldsOf hi rfl ?_)
 show wpAny _ _ (setEntries S >>= _) _ _ s
 refine wpAny_bind (wpAny_setEntries_of ho hd hf ?_)
 refine wpAny_ite_split (λhc=>absurd hc (by simp)) (λ_=>?_)
 show wpAny _ _ (seqItems? (.ref T) >>= _) _ _ _
 refine wpAny_bind (wpAny_seqItems hT rfl ?_)
 dsimp only
 simp only[Int.toNat_natCast]
 exact h
end
namespace F
theorem slot_si_iter:Slot "set_iterator" "__iter__" "set_iterator.__iter__":=
 .of (owner:="set_iterator") (n:="__iter__") (by rw[typeLookup_type,builtinLookup_eq_fast];kernel_rfl) (by decide +kernel) (by decide +kernel) (by decide +kernel) (by first|exact .inl (by decide +kernel)|exact .inr (by decide +kernel)) (by rw[isSubtype_type];kernel_rfl)
theorem entry_si_iter:entryFor table "set_iterator.__iter__"=some Builtin.«dict_keyiterator.__iter__» :=entryFor_alias (id':="dict_keyiterator.__iter__") (by kernel_rfl) rfl (by decide +kernel) (by kernel_rfl)
theorem args_si_iter(a:Value):argsOk "set_iterator.__iter__" ⟨[a],[]⟩:=by unfold argsOk;kernel_rfl
end F
variable{Q:Value->Shared->Prop}{first:Value}
section
variable {S:Addr}{t:SetTable}
theorem RG(hi:Km s.heap I first i S n ep)(h:Q (.ref I) s):wpAny (model prog w) A (pyIter (.ref I)) Q E s:=
 wpAny_pyIter_slot ⟨_,hi,rfl⟩ F.slot_si_iter (wpAny_call_entry F.slot_si_iter ⟨_,hi,rfl⟩ F.entry_si_iter (wpAny_pure ⟨_,rfl,"set_iterator",_,⟨_,hi,rfl⟩,F.slot_si_next.lookup,h⟩) (F.args_si_iter _))
theorem Xq{Q:Option Value->Shared->Prop}(hi:Km s.heap I first i S n ep)(h:wpAny (model prog w) A.in1 (Builtin.«set_iterator.__next__» ⟨[.ref I],[]⟩) (λf s'=>∃ v,f=.done (.ret v)/\Q (some v) s') (λe s'=>(∃ a o,e=.ref a/\s'.heap.get? a=some o/\o.cls=.type "StopIteration")/\Q none s') s):
  wpAny (model prog w) A (pyNext (.ref I)) Q E s:=by
 unfold pyNext
 refine wpAny_bind (wpAny_attempt (wpAny_callSpecial?_slot (name:=Str.ofString "__next__") ⟨_,hi,rfl⟩ F.slot_si_next (wpAny_call_entry F.slot_si_next ⟨_,hi,rfl⟩ F.entry_si_next (wpAny_mono h (λf s' z=>?_) λe s' z=>?_) (F.args_si_next _))))
 .obtain⟨v,rfl,q⟩:=z
  exact⟨v,rfl,wpAny_pure q⟩
 .obtain⟨⟨a,oe,rfl,ho,hc⟩,q⟩:=z
  exact wpAny_bind (wpAny_isInstance (T:="StopIteration") (b:=true) ⟨oe,ho,hc⟩ isSubtype_stop (wpAny_pure q))
theorem ZY{Q:Fin->Shared->Prop}(hh:A.handled=none)(h:∀ h' e,(∀ b o,s.heap.get? b=some o->h'.get? b=some o)->(∃ o,h'.get? e=some o/\o.cls=.type "StopIteration")->E (.ref e) {s with heap:=h'}):
  wpAny (model prog w) A (newExc (.type "StopIteration") [] >>= λe=>raiseNew e) Q E s:=by
 refine wpAny_bind ?_;simp only[newExc,newTuple]
 refine wpAny_bind (wpAny_newObj_type ?_ (by size_fits));refine wpAny_bind (m:=firstArgMember _ _) (wpAny_of_eq (a:=Value.none) (by first|rfl|(simp only[firstArgMember];rfl)) ?_)
 refine wpAny_newObj_type ?_ (by size_fits);simp only[raiseNew]
 refine wpAny_bind (wpAny_handled ?_);rw[hh]
 exact wpAny_bind (wpAny_pure (wpAny_throw (h _ _ (λb o e=>get?_push_of_some _ (get?_push_of_some _ e)) ⟨_,get?_push_size _ rfl,rfl⟩)))
theorem Kt(hh:A.handled=none)(hne:S≠I)(ord:List Value)(hlen:ord.length=es.size)(sl:Nat->Nat)(hd:o.data=.set es ep t)(hf:t.fits es.size=true)(hN:∀ (A':Around) i (s:Shared) (Q:Option (Value×Nat)->Shared->Prop) (E:Value->Shared->Prop),i<=es.size->s.heap.get? S=some o->Q (ord[i]?.map λx=>(x,sl (i+1))) s->wpAny (model prog w) A' (setNext S (sl i) i ep) Q E s):
  Walks prog w A I [I,S] [I] es.size (λi v=>ord[i]? =some v) (λi h=>Km h I (rawInt (sl i)) i S es.size ep/\h.get? S=some o) where
 sub:=λb hb=>by simp at hb;simp[hb]
 frame:=λ_ _ _ st hk=>⟨hk I (by simp) _ st.1,hk S (by simp) _ st.2⟩
 item:=λi s Q E hi st hQ=>by
  refine Xq st.1 (Yz st.1 st.2 hd hf ?_)
  refine wpAny_bind (hN _ i s _ _ (le_of_lt hi) st.2 ?_)
  have hx:ord[i]? =some (ord[i]'(by omega)):=getElem?_eq_getElem (by omega)
  rw[hx]
  show wpAny _ _ (setField (.ref I) 0 (rawInt (sl (i+1))) >>= _) _ _ _
  refine wpAny_bind (wpAny_setField_rec st.1 (by simp) λh1 a1 c1=>?_)
  refine wpAny_bind (wpAny_setField_rec (s:= {s with heap:=h1}) a1 (by simp) λh2 a2 c2=>?_)
  refine wpAny_pure ⟨_,rfl,hQ _ h2 s.toks hx ⟨?_,?_⟩ λb ob hb e=>?_⟩
  .show h2.get? I=_
   rw[a2];rfl
  .exact c2.extBut _ _ hne (c1.extBut _ _ hne st.2)
  .have hb':b≠I:=λz=>hb (by simp[z])
   exact c2.extBut _ _ hb' (c1.extBut _ _ hb' e)
 done:=λs Q E st hQ=>by
  refine Xq st.1 (Yz st.1 st.2 hd hf ?_)
  refine wpAny_bind (hN _ _ s _ _ (le_refl _) st.2 ?_)
  rw[getElem?_eq_none (by omega)]
  show wpAny _ _ (setField (.ref I) 2 .none >>= _) _ _ _
  refine wpAny_bind (wpAny_setField_rec st.1 (by simp) λh1 a1 c1=>?_)
  refine ZY (by simpa using hh) λh2 e k he=>⟨⟨e,he.choose,rfl,he.choose_spec⟩,hQ h2 s.toks λb ob hb q=>k _ _ (c1.extBut _ _ (λz=>hb (by simp[z])) q)⟩
 self:=λ_ _ _ _ st hQ=>RG st.1 hQ
theorem GE(hh:A.handled=none)(hne:S≠I)(hT:T≠I)(ys:List Nat)(hp:ys.Perm (range es.size))(hd:o.data=.set es ep t)(hf:t.fits es.size=true):
  Walks prog w A I [I,S,T] [I] es.size (λi v=>(ys.map λj=>(es.getD j (0,.none)).2)[i]? =some v)
   (λi h=>Km h I (.ref T) i S es.size ep/\h.get? S=some o/\h.get? T=some {cls:=.type "tuple",data:=.seq (ys.map λ(j:Nat)=>rawInt (j:Int)).toArray}):=by
 have hl:ys.length=es.size:=by rw[hp.length_eq,length_range]
 exact {
 sub:=λb hb=>by simp at hb;simp[hb]
 frame:=λ_ _ _ st hk=>⟨hk I (by simp) _ st.1,hk S (by simp) _ st.2.1,hk T (by simp) _ st.2.2⟩
 item:=λi s Q E hi st hQ=>by
  refine Xq st.1 (Zz st.1 st.2.1 hd hf st.2.2 ?_)
  have hx:ys[i]? =some (ys[i]'(by omega)):=getElem?_eq_getElem (by omega)
  have hm:ys[i]'(by omega)<es.size:=mem_range.mp (hp.mem_iff.mp (List.getElem_mem (by omega)))
  generalize ys[i]'(by omega)=j at hx hm
  rw[show(ys.map λ(j:Nat)=>rawInt (j:Int)).toArray[i]? =some (rawInt j) by simp[hx]]
  show wpAny _ _ (setNextDrawn S j ep >>= _) _ _ _
  refine wpAny_bind ?_
  unfold setNextDrawn
  refine wpAny_bind (wpAny_setState_of st.2.1 hd hf ?_);dsimp only
  refine wpAny_ite_split (λhc=>absurd hc (by simp)) (λ_=>?_)
  rw[Array.getElem?_eq_getElem hm]
  refine wpAny_pure ?_
  refine wpAny_bind (wpAny_setField_rec st.1 (by simp) λh2 a2 c2=>?_)
  refine wpAny_pure ⟨_,rfl,hQ _ h2 s.toks ?_ ⟨?_,?_,?_⟩ λb ob hb e=>c2.extBut _ _ (λz=>hb (by simp[z])) e⟩
  .rw[getElem?_map,hx];simp[getD,hm]
  .show h2.get? I=_
   rw[a2];rfl
  .exact c2.extBut _ _ hne st.2.1
  .exact c2.extBut _ _ hT st.2.2
 done:=λs Q E st hQ=>by
  refine Xq st.1 (Zz st.1 st.2.1 hd hf st.2.2 ?_)
  rw[show(ys.map λ(j:Nat)=>rawInt (j:Int)).toArray[es.size]? =none by simp[hl]]
  show wpAny _ _ (setField (.ref I) 0 (rawInt 0) >>= _) _ _ _
  refine wpAny_bind (wpAny_setField_rec st.1 (by simp) λh1 a1 c1=>?_)
  refine wpAny_bind (wpAny_setField_rec (s:= {s with heap:=h1}) a1 (by simp) λh2 a2 c2=>?_)
  refine ZY (by simpa using hh) λh3 e k he=>⟨⟨e,he.choose,rfl,he.choose_spec⟩,hQ h3 s.toks λb ob hb q=>k _ _ (c2.extBut _ _ (λz=>hb (by simp[z])) (c1.extBut _ _ (λz=>hb (by simp[z])) q))⟩
 self:=λ_ _ _ _ st hQ=>RG st.1 hQ}
end
structure SW(prog:Program)(w:World)(A:Around)(I:Addr)(fp:List Addr)(ord:List Value)(St:Nat->Heap->Prop):Prop where
 W:Walks prog w A I fp [I] ord.length (λi v=>ord[i]? =some v) St
 mem:I∈fp
def Ml(xs:Array Nat):Nat->Nat
 |0=>0
 |i+1=>xs.getD i 0+1
theorem JQ(r:Rise xs)(i:Nat)(hi:i<=xs.size):SetTable.below xs (Ml xs i)=i:=by
 obtain⟨h1,h2,h3⟩:=Ky r (Ml xs i)
 generalize SetTable.below xs (Ml xs i)=p at*
 cases i with
 |zero=>
  cases p with
  |zero=>rfl
  |succ p=>
   have hg:xs[p]? =some xs[p]:=Array.getElem?_eq_getElem (by omega)
   exact absurd (show xs[p]<0 from h2 p _ (lt_succ_self _) hg) (Nat.not_lt_zero _)
 |succ i=>
  simp only[Ml]at h2 h3
  have hgi:xs[i]? =some xs[i]:=Array.getElem?_eq_getElem (by omega)
  have hd:xs.getD i 0=xs[i]:=by simp[getD,show i<xs.size by omega]
  rw[hd]at h2 h3
  rcases Nat.lt_trichotomy p (i+1) with q|q|q
  .have:=h3 i _ (by omega) hgi;omega
  .exact q
  .have hg:xs[i+1]? =some xs[i+1]:=Array.getElem?_eq_getElem (by omega)
   have a:=h2 (i+1) _ q hg
   have b:=r.lt (lt_succ_self i) hgi hg
   omega
theorem ND(h:xs.size<=1):Rise xs:=by
 unfold Rise
 match hx:xs.toList with
 | []=>exact Pairwise.nil
 | [a]=>exact List.pairwise_singleton _ _
 |a::b::l=>have:=congrArg List.length hx;simp at this;omega
section
variable {S:Addr}{t:SetTable}
theorem TJ{Q:Bool->Shared->Prop}(e:w.params.followText "set-order"=b)(ho:s.heap.get? S=some o)(hd:o.data=.set es ep t)(hf:t.fits es.size=true)(h:Q (!b&&(!t.plain&&decide (es.size>1))) s):
  wpAny (model prog w) A (setDrawn S) Q E s:=by
 unfold setDrawn
 refine wpAny_bind (wpAny_setState_of ho hd hf ?_);dsimp only
 exact wpAny_bind (Qq e (wpAny_pure h))
theorem NO{prog:Program}{w:World}{l:List (Int×Value)}(h:ElemsOf (intKind prog w) l):∀ v∈l.map (·.2),∃ n u,v=Value.int n u:=by
 intro v hv
 obtain⟨e,he,rfl⟩:=mem_map.mp hv
 obtain⟨⟨k,hk,_⟩,_⟩:=h e he
 obtain⟨u,q⟩:=Value.isInt_shape (show Value.isInt k e.2=true from hk)
 exact⟨k,u,q⟩
theorem Tx{Q:Fin->Shared->Prop}(hz:∀ (h':Heap) I,h'=s.heap.push {cls:=.type "set_iterator",data:=.fields #[first,rawInt 0,.ref S,rawInt es.size,rawInt ep]}->I=s.heap.objs.size->
   Km h' I first 0 S es.size ep->(∀ b o,s.heap.get? b=some o->h'.get? b=some o)->Q (.done (.ret (.ref I))) {s with heap:=h'})(ho:s.heap.get? S=some o)(hd:o.data=.set es ep t)(hf:t.fits es.size=true):
  wpAny (model prog w) A (setEpoch S >>= λe=>newFields "set_iterator" [first,rawInt 0,.ref S,rawInt es.size,rawInt e] >>= λv=>ret v) Q E s:=by
 refine wpAny_bind (wpAny_setEpoch_of ho hd hf ?_)
 exact wpAny_bind (wpAny_newObj_type (wpAny_pure (hz _ _ rfl rfl (get?_push_size _ rfl) λb o e=>get?_push_of_some _ e)))
theorem MX(hS:SI prog w s.heap S σ)(h:∀ I fp ord St h' d,(∀ A':Around,A'.handled=none->SW prog w A' I fp ord St)->(ord.map nv).Perm σ->(∀ v∈ord,∃ n u,v=Value.int n u)->St 0 h'->(∀ b o,s.heap.get? b=some o->h'.get? b=some o)->s.heap.objs.size<=I->
   (∀ b∈fp,b=S\/s.heap.objs.size<=b)->Q (.ref I) {s with heap:=h',drawn:=d}):wpAny (model prog w) A (pyIter (.ref S)) Q E s:=by
 obtain⟨o,es,ep,t,ho,hex,hd,hel,hp,hb,hf,ht⟩:=hS
 have lS:S<s.heap.objs.size:=lt_size ho
 have hT:s.TypeIs (.ref S) "set":=⟨o,ho,hex.1⟩
 refine wpAny_pyIter_slot hT PySem.F.slot_set_iter (wpAny_call_entry PySem.F.slot_set_iter hT F.entry_set_iter ?_ (PySem.F.args_set_iter_1 _))
 unfold Builtin.«frozenset.__iter__»
 show wpAny _ _ (Builtin.Frozenset.sizeOf S >>= _) _ _ s
 refine wpAny_bind ?_
 unfold Builtin.Frozenset.sizeOf
 refine wpAny_bind (wpAny_setEntries_of ho hd hf (wpAny_pure ?_))
 refine wpAny_bind (TJ rfl ho hd hf ?_)
 have ord1:∀ (ord:Array (Int×Value)),ord.toList.Perm es.toList->((ord.toList.map (·.2)).map nv).Perm σ/\∀ v∈ord.toList.map (·.2),∃ n u,v=Value.int n u:=λord q=>
  ⟨by rw[map_map];exact(q.map _).trans hp,NO (hel.perm q)⟩
 cases hw:(!w.params.followText "set-order"&&(!t.plain&&decide (es.size>1)))
 .rw[if_neg (by simp)]
  refine wpAny_bind (wpAny_pure ?_)
  cases bt:w.params.followText "set-order"
  .have hpl:t.plain=true\/es.size<=1:=by
    rw[bt]at hw
    cases hq:t.plain
    .rw[hq]at hw
     exact .inr (by simpa using hw)
    .exact .inl rfl
   have rr:Rise t.place:=by
    rcases hpl with q|q
    .exact(ht.ok q).1
    .refine ND ?_
     have hf':=hf
     simp only[SetTable.fits,and_eq_true,beq_iff_eq]at hf'
     omega
   have hps:t.place.size=es.size:=by
    have hf':=hf
    simp only[SetTable.fits,and_eq_true,beq_iff_eq]at hf'
    exact hf'.1
   have hl:t.led=true:=by rw[ht.led,bt];rfl
   refine Tx (first:=rawInt 0) (λh' I eh eI hi k=>⟨_,rfl,"set_iterator",_,⟨_,hi,rfl⟩,F.slot_si_next.lookup,?_⟩) ho hd hf
   have hSI:S≠I:=by rw[eI];exact ne_of_lt lS
   have hll:(es.toList.map (·.2)).length=es.size:=by simp
   refine h I [I,S] (es.toList.map (·.2)) (λi h=>Km h I (rawInt (Ml t.place i)) i S es.size ep/\h.get? S=some o) h' s.drawn (λA' hA=>⟨?_,by simp⟩) (ord1 es (Perm.refl _)).1 (ord1 es (Perm.refl _)).2 ⟨hi,k _ _ ho⟩ k (by rw[eI];exact le_refl _) λb hb=>?_
   .rw[hll]
    refine Kt hA hSI _ hll (Ml t.place) hd hf λA'' i s' Q' E' hi' hs' q=>Ju bt hs' hd hf hl hpl ?_
    rw[JQ rr i (by omega)]
    rcases lt_or_ge i es.size with z|z
    .rw[Array.getElem?_eq_getElem z,Array.getElem?_eq_getElem (show i<t.place.size by omega)]
     have e1:(es.toList.map (·.2))[i]? =some (es[i]).2:=by simp[z]
     rw[e1]at q
     have e2:Ml t.place (i+1)=t.place[i]'(by omega)+1:=by simp[Ml,getD,show i<t.place.size by omega]
     rw[e2]at q
     exact q
    .rw[Array.getElem?_eq_none z]
     rw[getElem?_eq_none (by simpa using z)]at q
     exact q
   .simp only[mem_cons,not_mem_nil,or_false]at hb
    rcases hb with z|z
    .exact .inr (by rw[z,eI];exact le_refl _)
    .exact .inl z
  .refine Tx (first:=rawInt 0) (λh' I eh eI hi k=>⟨_,rfl,"set_iterator",_,⟨_,hi,rfl⟩,F.slot_si_next.lookup,?_⟩) ho hd hf
   have hSI:S≠I:=by rw[eI];exact ne_of_lt lS
   have pk:=Qs (w.params.setOrder S ep) es
   have hll:((pickOrder (w.params.setOrder S ep) es).toList.map (·.2)).length=es.size:=by rw[length_map,pk.length_eq,length_toList]
   refine h I [I,S] ((pickOrder (w.params.setOrder S ep) es).toList.map (·.2)) (λi h=>Km h I (rawInt ((0:Nat):Int)) i S es.size ep/\h.get? S=some o) h' s.drawn (λA' hA=>⟨?_,by simp⟩) (ord1 _ pk).1 (ord1 _ pk).2 ⟨hi,k _ _ ho⟩ k (by rw[eI];exact le_refl _) λb hb=>?_
   .rw[hll]
    refine Kt hA hSI _ hll (λ_=>0) hd hf λA'' i s' Q' E' hi' hs' q=>Sx bt hs' hd hf ?_
    have e1:((pickOrder (w.params.setOrder S ep) es).toList.map (·.2))[i]? =((pickOrder (w.params.setOrder S ep) es)[i]?).map (·.2):=by simp
    rw[e1,Option.map_map]at q
    exact q
   .simp only[mem_cons,not_mem_nil,or_false]at hb
    rcases hb with z|z
    .exact .inr (by rw[z,eI];exact le_refl _)
    .exact .inl z
 .rw[if_pos rfl]
  refine wpAny_bind (Mr _ _ _ (by simp) λys d py=>?_)
  have hyl:ys.length=es.size:=by rw[py.length_eq,length_range]
  refine wpAny_bind (wpAny_newTuple ?_ (by rw[length_map,hyl];exact fits_of_scanBound hb))
  generalize hTd:s.heap.push {cls:=.type "tuple",data:=.seq (ys.map λ(j:Nat)=>rawInt (j:Int)).toArray}=h1
  have hT1:h1.get? s.heap.objs.size=some {cls:=.type "tuple",data:=.seq (ys.map λ(j:Nat)=>rawInt (j:Int)).toArray}:=by rw[<-hTd];exact get?_push_size _ rfl
  have k1:∀ b o,s.heap.get? b=some o->h1.get? b=some o:=λb o e=>by rw[<-hTd];exact get?_push_of_some _ e
  have z1:h1.objs.size=s.heap.objs.size+1:=by rw[<-hTd,size_push]
  refine Tx (s:= {s with heap:=h1,drawn:=d}) (first:=.ref s.heap.objs.size) (λh' I eh eI hi k=>⟨_,rfl,"set_iterator",_,⟨_,hi,rfl⟩,F.slot_si_next.lookup,?_⟩) (k1 _ _ ho) hd hf
  have eI':I=s.heap.objs.size+1:=eI.trans z1
  have hSI:S≠I:=by rw[eI'];exact ne_of_lt (Nat.lt_succ_of_lt lS)
  have hTI:s.heap.objs.size≠I:=by rw[eI'];exact ne_of_lt (lt_succ_self _)
  have hll:(ys.map λj=>(es.getD j (0,.none)).2).length=es.size:=by rw[length_map,hyl]
  have hyp:(ys.map λj=>(es.getD j (0,.none)).2).Perm (es.toList.map (·.2)):=by
   refine(py.map _).trans (Perm.of_eq ?_)
   apply List.ext_getElem?
   intro j
   rcases lt_or_ge j es.size with z|z
   .simp[z,getD]
   .rw[getElem?_eq_none (by simpa using z),getElem?_eq_none (by simpa using z)]
  refine h I [I,S,s.heap.objs.size] (ys.map λj=>(es.getD j (0,.none)).2) (λi h=>Km h I (.ref s.heap.objs.size) i S es.size ep/\h.get? S=some o/\h.get? s.heap.objs.size=some {cls:=.type "tuple",data:=.seq (ys.map λ(j:Nat)=>rawInt (j:Int)).toArray}) h' d
   (λA' hA=>⟨?_,by simp⟩) ((hyp.map nv).trans (ord1 es (Perm.refl _)).1) (λv hv=>(ord1 es (Perm.refl _)).2 v (hyp.mem_iff.mp hv)) ⟨hi,k _ _ (k1 _ _ ho),k _ _ hT1⟩ (λb o e=>k _ _ (k1 _ _ e)) (by rw[eI'];exact le_succ _) λb hb=>?_
  .rw[hll]
   exact GE hA hSI hTI ys py hd hf
  .simp only[mem_cons,not_mem_nil,or_false]at hb
   rcases hb with z|z|z
   .exact .inr (by rw[z,eI'];exact le_succ _)
   .exact .inl z
   .exact .inr (by rw[z];exact le_refl _)
end
open Sem (wp)
section
variable {S:Addr}
theorem NM{Q:Bool->Shared->Prop}(hT:s.TypeIs (.ref S) "set")(h:Q false s):wpAny (model prog w) A (Builtin.List.listLengthHint (.ref S)) Q E s:=by
 unfold Builtin.List.listLengthHint
 refine wpAny_bind (wpAny_specialOf hT PySem.F.slot_set_len.lookup ?_)
 generalize hid:("set.__len__":String)=id0
 wp_delta
 rw[show splitId id0=some ("set","__len__") from by subst hid;decide +kernel]
 subst hid
 refine wpAny_bind (wpAny_isInstance (T:="set") (b:=true) hT (by rw[isSubtype_type];kernel_rfl) (wpAny_ite_split (λz=>absurd z (by decide)) λ_=>?_))
 refine wpAny_ite_split (λ_=>wpAny_bind (wpAny_typeOf hT (wpAny_pure h))) λz=>absurd (by decide +kernel) z
theorem WD{Q:List Value->Shared->Prop}(hh:A.handled=none)(hS:SI prog w s.heap S σ)(hz:σ.length<=sizeLine)(h:∀ vs h' d tk,(vs.map nv).Perm σ->(∀ v∈vs,∃ n u,v=Value.int n u)->(∀ b o,s.heap.get? b=some o->h'.get? b=some o)->s.heap.objs.size<h'.objs.size->Q vs {s with heap:=h',drawn:=d,toks:=tk}):
  wpAny (model prog w) A (collect (.ref S)) Q E s:=by
 have hT:s.TypeIs (.ref S) "set":=let ⟨o,_,_,_,ho,hex,_⟩:=hS;⟨o,ho,hex.1⟩
 have lS:S<s.heap.objs.size:=let ⟨_,_,_,_,ho,_⟩:=hS;lt_size ho
 generalize hg:s.heap.push {cls:=.type "list",data:=.seq ([]:List Value).toArray}=h1
 have k1:∀ b o,s.heap.get? b=some o->h1.get? b=some o:=λb o e=>by rw[<-hg];exact get?_push_of_some _ e
 have n1:h1.get? s.heap.objs.size=some {cls:=.type "list",data:=.seq ([]:List Value).toArray}:=by rw[<-hg];exact get?_push_size _ rfl
 have z1:h1.objs.size=s.heap.objs.size+1:=by rw[<-hg,size_push]
 unfold collect
 refine wpAny_bind (wpAny_runValue (codeAny_builtin PySem.F.entry_proto_collect ?_));rw[Around.under_plainId PySem.F.plain_proto_collect _]
 show wpAny _ A.in1 (newList [] >>= λl=>again (.builtin "list.__iadd__" ⟨[l,.ref S],[]⟩)) _ _ s
 refine wpAny_bind (wpAny_newObj_type (wpAny_pure ⟨plainId_quiet PySem.F.plain_list_iadd _,codeAny_builtin PySem.F.entry_list_iadd ?_⟩));rw[Around.under_plainId PySem.F.plain_list_iadd _,hg]
 show wpAny _ A.in1 (Builtin.List.listExtendWith (.ref s.heap.objs.size) (.ref S) (.ref s.heap.objs.size)) _ _ {s with heap:=h1}
 unfold Builtin.List.listExtendWith
 have hT1:Shared.TypeIs {s with heap:=h1} (.ref S) "set":=let ⟨o,ho,c⟩:=hT;⟨o,k1 _ _ ho,c⟩
 refine wpAny_bind (wpAny_typeOf hT1 ?_)
 have e1:Builtin.List.listSameRef (.ref s.heap.objs.size) (.ref S)=false:=by simp[Builtin.List.listSameRef];exact ne_of_gt lS
 rw[if_neg (by rw[e1];decide)]
 refine wpAny_bind (MX (hS.at' λo e=>k1 _ _ e) λI fp ord St h2 d sw po nums st k2 hI hfp=>?_)
 have hT2:Shared.TypeIs {s with heap:=h2,drawn:=d} (.ref S) "set":=let ⟨o,ho,c⟩:=hT1;⟨o,k2 _ _ ho,c⟩
 refine wpAny_bind (wpAny_holding (NM hT2 ?_))
 have hI':s.heap.objs.size+1<=I:=by rw[<-z1];exact hI
 have hnf:s.heap.objs.size∉fp:=λz=>by
  rcases hfp _ z with q|q
  .rw[q]at lS;exact lt_irrefl _ lS
  .have q':s.heap.objs.size+1<=s.heap.objs.size:=by rw[<-z1];exact q
   exact lt_irrefl _ q'
 show wpAny _ A.in1 (rule "list.extend.makes-room" >>= λ_=>Builtin.List.listTouch (.ref s.heap.objs.size) >>= λ_=>again (.builtin "list.extend.loop" ⟨[.ref s.heap.objs.size,.ref I,.ref s.heap.objs.size],[]⟩)) _ _ _
 refine wpAny_bind (wpAny_rule (wpAny_bind ?_))
 have n2:=k2 _ _ n1
 show wpAny _ A.in1 (updateSeq s.heap.objs.size (·.push .none) >>= λ_=>updateSeq s.heap.objs.size (·.pop)) _ _ _
 refine wpAny_bind (wpAny_updateSeq n2 rfl ?_)
 have n3:=get?_update_self (Obj.mapSeq (·.push Value.none)) n2 rfl
 refine wpAny_updateSeq (s:= {s with heap:=h2.update s.heap.objs.size (Obj.mapSeq (·.push Value.none)),drawn:=d}) n3 rfl ?_
 have n4:=get?_update_self (Obj.mapSeq (·.pop)) n3 rfl
 have oth:∀ b o,b≠s.heap.objs.size->h2.get? b=some o->((h2.update s.heap.objs.size (Obj.mapSeq (·.push Value.none))).update s.heap.objs.size (Obj.mapSeq (·.pop))).get? b=some o:=λb o hb e=>
  (get?_update_other _ _ (Ne.symm hb)).trans ((get?_update_other _ _ (Ne.symm hb)).trans e)
 have W:=(sw A.in1 (by simpa using hh)).W
 have ho:ord.length<=sizeLine:=by rw[<-length_map (f:=nv),po.length_eq];exact hz
 refine wpAny_pure ⟨plainId_quiet PySem.F.plain_extend_loop _,codeAny_extend_loopS W.toS ho _ hnf _ ord.length 0 _ _ _ rfl (zero_le _) (W.frame 0 h2 _ st λb hb o e=>oth b o (λq=>hnf (q▸hb)) e) n4 (ItemsOf.nil _) λs' acc c mv n5 its=>?_⟩
 show wpAny _ A (load s.heap.objs.size >>= _) _ _ s'
 refine wpAny_bind (wpAny_load n5 (wpAny_pure ?_))
 obtain⟨hp',g',d',tk',os'⟩:=s'
 have e1:g'=s.gens:=mv.gens
 have e2:d'=d:=mv.drawn
 have e3:os'=s.os:=mv.os
 subst e1 e2 e3
 have ea:acc.toList=ord:=by
  apply List.ext_getElem?
  intro j
  rw[getElem?_toList]
  cases hj:acc[j]? with
  |some v=>exact(its.2 j v hj).symm
  |none=>
   have:acc.size<=j:=by
    rcases lt_or_ge j acc.size with q|q
    .rw[Array.getElem?_eq_getElem q]at hj;cases hj
    .exact q
   rw[its.1]at this
   exact(getElem?_eq_none this).symm
 rw[ea]
 refine h ord hp' _ tk' po nums (λb o e=>?_) (lt_size n5)
 have lb:b<s.heap.objs.size:=lt_size e
 refine mv.heap b o (λz=>?_) (oth b o (ne_of_lt lb) (k2 _ _ (k1 _ _ e)))
 simp only[mem_cons,not_mem_nil,or_false]at z
 rcases z with z|z
 .rw[z]at lb;exact lt_irrefl _ lb
 .rw[z]at lb;exact absurd (lt_of_lt_of_le lb (le_trans (le_succ _) hI')) (lt_irrefl _)
end
def met(ns:List Int):List Int:=ns.foldl Dy []
theorem GS(σ:List Int)(k:Int):(Dy σ k).length<=σ.length+1:=by unfold Dy;split<;>simp
theorem Zy:∀ (ns σ:List Int),(ns.foldl Dy σ).length<=σ.length+ns.length
 | [],σ=>by simp
 |n::ns,σ=>by have:=Zy ns (Dy σ n);have:=GS σ n;rw[foldl_cons,List.length_cons];omega
theorem UF(ns:List Int):(met ns).length<=ns.length:=by have:=Zy ns [];simpa [met] using this
variable{ns:List Int}
theorem BO(h:i<ns.length):met (ns.take (i+1))=Dy (met (ns.take i)) (ns.getD i 0):=by
 unfold met
 rw[List.take_add_one,List.foldl_append,getElem?_eq_getElem h]
 simp[List.getD,getElem?_eq_getElem h]
variable{l:Addr}{ol:Obj}{items:Array Value}{nl:Nat}
section
variable {R:Result->Shared->Prop}{fp wr:List Addr}{G:Array GenState->Array GenState->Prop}{P:Nat->Value->Prop}{St:Nat->Shared->Prop}
theorem NX(W:WalksS prog w A.in1 I fp wr G n P St)(S:Addr)(hSf:S∉fp)(ns:List Int)(hn:ns.length=n)(hv:∀ i v,P i v->∃ u,v=Value.int (ns.getD i 0) u)(hb:n+1<scanBound):
  ∀ (k i:Nat) (s:Shared),n-i=k->i<=n->St i s->SI prog w s.heap S (met (ns.take i))->(∀ s',Moved (S::wr) G s s'->SI prog w s'.heap S (met ns)->R (.ok (.ret .none)) s')->
   codeAny (model prog w) A (.builtin "set.update.loop" ⟨[.ref S,.ref I],[]⟩) R s:=by
 have hSw:S∉wr:=λh=>hSf (W.sub _ h)
 have up:∀ b∈wr,b∈S::wr:=λb hb=>mem_cons_of_mem _ hb
 intro k
 induction k with
 |zero=>
  intro i s hk hi st hS hR
  have:i=n:=by omega
  subst this
  refine codeAny_builtin PyProof.Rows.F.entry_set_update_loop ?_;rw[Around.under_plainId PyProof.Rows.F.plain_set_update_loop _]
  show wpAny _ A.in1 (pyNext (.ref I) >>= _) _ _ s
  refine wpAny_bind (W.done s _ _ st λs' mv=>wpAny_pure (hR s' (mv.mono up) ?_))
  rw[List.take_of_length_le (Nat.le_of_eq hn)]at hS
  exact hS.at' λo e=>mv.heap S o hSw e
 |succ k ih=>
  intro i s hk hi st hS hR
  have lt:i<n:=by omega
  refine codeAny_builtin PyProof.Rows.F.entry_set_update_loop ?_;rw[Around.under_plainId PyProof.Rows.F.plain_set_update_loop _]
  show wpAny _ A.in1 (pyNext (.ref I) >>= _) _ _ s
  refine wpAny_bind (W.item i s _ _ lt st λv s' pv st' mv=>?_)
  obtain⟨u,rfl⟩:=hv i v pv
  have hS':SI prog w s'.heap S (met (ns.take i)):=hS.at' λo e=>mv.heap S o hSw e
  have room:(met (ns.take i)).length+1<scanBound:=by have:=UF (ns.take i);rw[length_take]at this;omega
  show wpAny _ A.in1 (holding [Value.int (ns.getD i 0) u] (setAdd S (.int (ns.getD i 0) u)) >>= _) _ _ s'
  refine wpAny_bind (wpAny_holding ?_)
  unfold setAdd
  refine wpAny_holding (wpAny_bind ((intKind prog w).pyHash (k:=ns.getD i 0) (BN _ _) ?_))
  refine L5 (s:= {s' with toks:=s'.toks+1}) hS' room λh' b sb hS2=>wpAny_pure ⟨plainId_quiet PyProof.Rows.F.plain_set_update_loop _,?_⟩
  refine ih (i+1) _ (by omega) lt (W.frame _ s' _ _ st' (le_succ _) λb hb o e=>sb.extBut _ _ (λq=>hSf (q▸hb)) e) (by rw[BO (by omega)];exact hS2) λs'' mv2 hS3=>hR s'' ?_ hS3
  exact Moved.trans W.gtrans ((mv.mono up).then_heap (le_succ _) λb o hb e=>sb.extBut _ _ (λq=>hb (by rw[q];exact mem_cons_self)) e) mv2
def Itr(prog:Program)(w:World)(l:Addr)(ol:Obj)(items:Array Value):Prop:=∀ (A:Around) (s':Shared) (Q:Value->Shared->Prop) (E:Value->Shared->Prop),s'.heap.get? l=some ol->
 (∀ I St h',(∀ A':Around,A'.handled=none->Walks prog w A' I [I,l] [I] items.size (λi v=>items[i]? =some v) St)->St 0 h'->I=s'.heap.objs.size->(∀ b o,s'.heap.get? b=some o->h'.get? b=some o)->Q (.ref I) {s' with heap:=h'})->
 wpAny (model prog w) A (pyIter (.ref l)) Q E s'
theorem GN(hc:ol.cls=.type "list")(hd:ol.data=.seq items nl):Itr prog w l ol items:=λA s' Q E hl h=>by
 have hL:s'.heap.IsList l items:=⟨ol,hl,hc,nl,hd⟩
 have hne:l≠s'.heap.objs.size:=ne_of_lt (lt_size hl)
 exact wpAny_pyIter_list hL (h _ (λi h=>h.IsListIter s'.heap.objs.size l i/\h.IsList l items) _ (λA' hA=>Walks.list hA _ l hne items) ⟨⟨_,get?_push_size _ rfl,rfl,rfl⟩,hL.push _⟩ rfl λb o e=>get?_push_of_some _ e)
theorem NI(hc:ol.cls=.type "tuple")(hd:ol.data=.seq items nl):Itr prog w l ol items:=λA s' Q E hl h=>by
 have hL:s'.heap.IsTuple l items:=⟨ol,hl,hc,nl,hd⟩
 have hne:l≠s'.heap.objs.size:=ne_of_lt (lt_size hl)
 exact wpAny_pyIter_tuple hL (h _ (λi h=>h.IsTupleIter s'.heap.objs.size l i/\h.IsTuple l items) _ (λA' hA=>Walks.tuple hA _ l hne items) ⟨⟨_,get?_push_size _ rfl,rfl,rfl⟩,hL.push _⟩ rfl λb o e=>get?_push_of_some _ e)
theorem HQ(a:Value){Q₁:Value->Shared->Prop}(h:∀ led:Bool,led=(!w.params.followText "set-order")->Q₁ (.ref s.heap.objs.size) {s with heap:=s.heap.push {cls:=.type "set",dict:=none,data:=.set #[] 0 (.fresh 0 0 led)}}):
  codeAny (model prog w) A (.call (.builtin "set.__new__") ⟨[.type "set",a],[]⟩) (wants Q₁ E) s:=by
 refine codeAny_of_tree ?_
 show wpAny _ A.in1 (checkBuiltinCall "set.__new__" ⟨[.type "set",a],[]⟩ >>= λ_=>again (.builtin "set.__new__" ⟨[.type "set",a],[]⟩)) _ _ s
 refine wpAny_bind (wpAny_of_eq (PySem.F.newCall_set_1 a) (wpAny_pure ⟨plainId_quiet PySem.F.plain_set_new _,codeAny_builtin PySem.F.entry_set_new ?_⟩));rw[Around.under_plainId PySem.F.plain_set_new _]
 unfold Builtin.«set.__new__» Builtin.Frozenset.newClass
 have hsub:=sub_set_self
 obtain⟨hp,g,d,tk,os⟩:=s
 dsimp only;wp_walk
 refine wpAny_askSetting (wpAny_pure ?_)
 dsimp only;simp only[newObj]
 exact wpAny_bind (wpAny_alloc (wpAny_pure (wpAny_pure (h _ rfl))))
end
theorem IQ{h:Heap}{led:Bool}(e:led=(!w.params.followText "set-order"))(hg:h.get? a=some {cls:=.type "set",dict:=none,data:=.set #[] 0 (.fresh 0 0 led)}):SI prog w h a []:=
 ⟨_,#[],0,_,hg,⟨rfl,rfl,rfl⟩,rfl,λe he=>by simp at he,by simp,by decide,by rfl,⟨e,λ_=>⟨Pairwise.nil,rfl⟩⟩⟩
theorem Sn{T:String}(hh:A.handled=none)(hol:s.heap.get? l=some ol)(hcl:ol.cls=.type T)(hs1:isSubtype (.type T) (.type "set")=pure false)(hs2:isSubtype (.type T) (.type "frozenset")=pure false)(hnd:(Value.type T==Value.type "dict")=false)(hit:Itr prog w l ol items)(hn:ns.length=items.size)(hv:∀ i v,items[i]? =some v->∃ u,v=Value.int (ns.getD i 0) u)(hb:items.size+1<scanBound)(h:∀ h' tk,SI prog w h' s.heap.objs.size (met ns)->(∀ b o,s.heap.get? b=some o->h'.get? b=some o)->Q (.ref s.heap.objs.size) {s with heap:=h',toks:=tk}):wpAny (model prog w) A (call (.type "set") [.ref l]) Q E s:=by
 obtain⟨c,tl,hmro⟩:=PySem.F.called_set.mro
 have hmade:=PySem.F.called_set.made
 have hsub:=PySem.F.called_set.sub
 refine wpAny_call (codeAny_of_tree ?_);show wpAny _ _ (callAny (.type "set") _) _ _ _
 refine wpAny_pure ⟨Code.quiet_builtin _ (by decide +kernel),codeAny_builtin PySem.F.entry_type_call ?_⟩;rw[Around.under_plain (weight_type_call_type "set" [.ref l] []) rfl]
 have q1:=PySem.F.called_set.notType
 have q2:=PySem.F.called_set.canCreate
 have q3:=PySem.F.typeCall_set_1 (.ref l)
 repeat (any_goals (first|assumption|wp_step))
 refine codeAny_mono (HQ (.ref l) (E:=E) (Q₁:=λobj s₁=>∃ led:Bool,led=(!w.params.followText "set-order")/\obj=.ref s.heap.objs.size/\s₁= {s with heap:=s.heap.push {cls:=.type "set",dict:=none,data:=.set #[] 0 (.fresh 0 0 led)}}) λled e=>⟨led,e,rfl,rfl⟩) λr s₁ hr=>?_
 cases r with
 |error e=>exact hr
 |ok fl=>
  cases fl with
  |ret obj=>
   obtain⟨led,hled,rfl,rfl⟩:=hr
   generalize hg:s.heap.push {cls:=.type "set",dict:=none,data:=.set #[] 0 (.fresh 0 0 led)}=h1
   have k1:∀ b o,s.heap.get? b=some o->h1.get? b=some o:=λb o e=>by rw[<-hg];exact get?_push_of_some _ e
   have n1:h1.get? s.heap.objs.size=some {cls:=.type "set",dict:=none,data:=.set #[] 0 (.fresh 0 0 led)}:=by rw[<-hg];exact get?_push_size _ rfl
   have z1:h1.objs.size=s.heap.objs.size+1:=by rw[<-hg,size_push]
   clear hg
   have hT:Shared.TypeIs {s with heap:=h1} (.ref s.heap.objs.size) "set":=⟨_,n1,rfl⟩
   have q4:=PySem.F.called_set.init.lookup
   have q5:=PySem.F.called_set.init.bind (.ref s.heap.objs.size)
   repeat (any_goals (first|assumption|wp_step))
   refine codeAny_mono (codeAny_call_builtin (R:=wants (λr s₂=>r=.none/\∃ h' tk,s₂= {s with heap:=h',toks:=tk}/\SI prog w h' s.heap.objs.size (met ns)/\∀ b o,s.heap.get? b=some o->h'.get? b=some o) E)
    PySem.F.called_set.init.plain PySem.F.entry_set_init (check_set_init_1 hT ?_)) λr₂ s₂ hr₂=>?_
   .have hol':=k1 _ _ hol
    have hTl:Shared.TypeIs {s with heap:=h1} (.ref l) T:=⟨_,hol',hcl⟩
    unfold Builtin.«set.__init__» noKeywords Builtin.Frozenset.updateFrom
    generalize hPI:pyIter=PI
    wp_walk
    subst hPI
    refine hit _ _ _ _ hol' λI St h2 W st eI k2=>?_
    refine wpAny_bind (wpAny_runValue ?_)
    have lS:s.heap.objs.size<I:=by rw[eI];show _<h1.objs.size;rw[z1];exact lt_succ_self _
    have ll:l<s.heap.objs.size:=lt_size hol
    have hSf:s.heap.objs.size∉ [I,l]:=by
     simp only[mem_cons,not_mem_nil,or_false,not_or]
     exact⟨ne_of_lt lS,ne_of_gt ll⟩
    refine NX ((W _ (by simp[hh])).toS) s.heap.objs.size hSf ns hn hv hb items.size 0 _ (by omega) (zero_le _) st (IQ hled (k2 _ _ n1)) λs' mv hS=>?_
    obtain⟨h',g',d',tk',os'⟩:=s'
    have eg:g'=s.gens:=mv.gens
    have ed:d'=s.drawn:=mv.drawn
    have eo:os'=s.os:=mv.os
    subst eg ed eo
    refine wpAny_pure (wpAny_pure ⟨rfl,h',tk',rfl,hS,λb o e=>?_⟩)
    have lb:b<s.heap.objs.size:=lt_size e
    refine mv.heap b o (λz=>?_) (k2 _ _ (k1 _ _ e))
    simp only[mem_cons,not_mem_nil,or_false]at z
    rcases z with z|z
    .rw[z]at lb;exact lt_irrefl _ lb
    .rw[z]at lb;exact lt_irrefl _ (lt_trans lb lS)
   .cases r₂ with
    |error e=>exact hr₂
    |ok fl₂=>
     cases fl₂ with
     |ret r=>
      obtain⟨rfl,h',tk,rfl,hS',hk'⟩:=hr₂
      repeat (any_goals (first|assumption|wp_step))
      exact h _ _ hS' hk'
     |_=>exact hr₂.elim
  |_=>exact hr.elim
open PyProof.Rows
theorem G3{v:Value}(h:∃ n u,v=Value.int n u):numOf v=nv v:=by obtain⟨n,u,rfl⟩:=h;rfl
theorem YD{S:Addr}(hh:A.handled=none)(hS:SI prog w s.heap S σ)(h64:σ.length<64)(h:∀ h' d tk p (out:List Value) (ns:List Int) (e:Nat),IntsAre out ns->ns.Perm σ->ns.Pairwise (· <= ·)->h'.get? p=some (seqObj "list" out.toArray e)->s.heap.objs.size<=p->(∀ b o,s.heap.get? b=some o->h'.get? b=some o)->
   Q (.ref p) {s with heap:=h',drawn:=d,toks:=tk}):wpAny (model prog w) A (call (.builtin "sorted") [.ref S]) Q E s:=by
 refine Calls.call_function_entry kind_sorted plain_sorted entry_sorted (args_sorted1 _) ?_
 unfold Builtin.«sorted»
 refine wpAny_bind (m:=checkCount "sorted" 1 1 _) (wpAny_pure ?_)
 refine wpAny_bind (WD (by simpa using hh) hS (by rw[sizeLine_eq];omega) λvs h1 d tk po nums k1 z1=>?_)
 have hm:vs.map numOf=vs.map nv:=map_congr_left λv hv=>G3 (nums v hv)
 have hI:IntsAre vs (vs.map nv):=by rw[<-hm];exact intsAre_map vs nums
 have hl:vs.length<64:=by rw[<-length_map (f:=nv),po.length_eq];exact h64
 refine wpAny_bind (wpAny_newList ?_ (by rw[sizeLine_eq];omega))
 have n1:(h1.push {cls:=.type "list",data:=.seq vs.toArray}).get? h1.objs.size=some (seqObj "list" vs.toArray 0):=get?_push_size _ rfl
 refine wpAny_bind (wpAny_holding (wpAny_call_entry slot_list_sort ⟨_,n1,rfl⟩ entry_list_sort (list_sort_tree n1 hI hl λout ns' a1 a2 a3=>⟨_,rfl,wpAny_pure ⟨_,rfl,?_⟩⟩) (args_list_sort _)))
 obtain⟨e,he⟩:=sortedHeap_at (out:=out) n1
 have old:∀ b o,s.heap.get? b=some o->b<h1.objs.size/\b≠h1.objs.size:=λb o q=>⟨lt_size (k1 _ _ q),ne_of_lt (lt_size (k1 _ _ q))⟩
 have hz:s.heap.objs.size<=h1.objs.size:=le_of_lt z1
 refine h _ d tk h1.objs.size out.toList ns' e a1 (a2.trans po) a3 (by simpa using he) hz λb o q=>?_
 rw[sortedHeap_old (old b o q).2 (by rw[size_push'];exact Nat.lt_succ_of_lt (old b o q).1)]
 exact get?_push_of_some _ (k1 _ _ q)
end L3
namespace L3
def Ut(k:Int):List Int->List Int
 | []=> [k]
 |x::xs=>if k<x then k::x::xs else if k=x then x::xs else x::Ut k xs
def Qb:List Int->List Int
 | []=> []
 |n::ns=>Ut n (Qb ns)
abbrev Up(l:List Int):Prop:=l.Pairwise (λa b=>a<b)
theorem Es{k a:Int}:∀ {l:List Int},a∈Ut k l↔a=k\/a∈l
 | []=>by simp[Ut]
 |x::xs=>by
  unfold Ut
  split
  .simp
  .split
   .rename_i h;subst h;simp
   .rw[mem_cons,Es (l:=xs),mem_cons]
    constructor
    .rintro(h|h|h)<;>simp[h]
    .rintro(h|h|h)<;>simp[h]
theorem AH{k:Int}:∀ {l:List Int},Up l->Up (Ut k l)
 | [],_=>by simp[Ut]
 |x::xs,h=>by
  obtain⟨h1,h2⟩:=pairwise_cons.mp h
  unfold Ut
  split
  .rename_i hk
   refine pairwise_cons.mpr ⟨λb hb=>?_,h⟩
   rcases mem_cons.mp hb with rfl|hb
   .exact hk
   .have:=h1 b hb;omega
  .split
   .exact h
   .refine pairwise_cons.mpr ⟨λb hb=>?_,AH h2⟩
    rcases Es.mp hb with rfl|hb
    .omega
    .exact h1 b hb
theorem Lv{a:Int}:∀ {l:List Int},a∈Qb l↔a∈l
 | []=>Iff.rfl
 |x::xs=>by rw[Qb,Es,Lv,mem_cons]
theorem AB:∀ (l:List Int),Up (Qb l)
 | []=>Pairwise.nil
 |x::xs=>AH (AB xs)
theorem Xv:∀ {a b:List Int},Up a->Up b->(∀ x,x∈a↔x∈b)->a=b
 | [],[],_,_,_=>rfl
 | [],y::ys,_,_,h=>absurd ((h y).mpr mem_cons_self) (by simp)
 |x::xs,[],_,_,h=>absurd ((h x).mp mem_cons_self) (by simp)
 |x::xs,y::ys,ha,hb,h=>by
  obtain⟨a1,a2⟩:=pairwise_cons.mp ha
  obtain⟨b1,b2⟩:=pairwise_cons.mp hb
  have e:x=y:=by
   rcases mem_cons.mp ((h x).mp mem_cons_self) with p|p
   .exact p
   .rcases mem_cons.mp ((h y).mpr mem_cons_self) with q|q
    .exact q.symm
    .have:=b1 x p;have:=a1 y q;omega
  subst e
  refine congrArg _ (Xv a2 b2 λz=>?_)
  constructor
  .intro hz
   rcases mem_cons.mp ((h z).mp (mem_cons_of_mem _ hz)) with p|p
   .have:=a1 z hz;omega
   .exact p
  .intro hz
   rcases mem_cons.mp ((h z).mpr (mem_cons_of_mem _ hz)) with p|p
   .have:=b1 z hz;omega
   .exact p
theorem P9{l:List Int}(h:l.Pairwise (λa b=>a<=b))(n:l.Nodup):Up l:=by
 induction l with
 |nil=>exact Pairwise.nil
 |cons x xs ih=>
  obtain⟨h1,h2⟩:=pairwise_cons.mp h
  obtain⟨n1,n2⟩:=nodup_cons.mp n
  refine pairwise_cons.mpr ⟨λb hb=>?_,ih h2 n2⟩
  have:=h1 b hb
  rcases Int.lt_or_eq_of_le this with q|q
  .exact q
  .subst q;exact absurd hb n1
open PySem PySem.Spec PyProof.Rows L2
abbrev eh1(t:Bool)(h:Heap)(l:Addr):Heap:=h.push (itO t l)
abbrev eh2(t:Bool)(h:Heap)(l:Addr):Heap:=(eh1 t h l).push {cls:=.type "enumerate",data:=.fields #[.none,.bool false,.ref h.objs.size,rawInt 0,.none,.none]}
theorem CI(t:Bool)(l:Addr)(xs:Array Value):Meets (Builtin.«enumerate.__new__» ⟨[.type "enumerate",.ref l],[]⟩) (λ_ R s=>IsSq t s.heap l xs/\
   R (.ok (.ret (.ref (eh1 t s.heap l).objs.size))) {s with heap:=eh2 t s.heap l}):=
 .of_wp λprog w A R s h=>by
  obtain⟨hp,g,d,tk,os⟩:=s;obtain⟨q,h⟩:=h
  have hsub:=sub_enumerate
  have e1:IsSq t (Shared.heap ⟨hp,g,d,tk,os⟩) l xs:=q
  wp_walk
  refine wpAny_stack_any λst=>wpAny_pure ?_
  split
  .rename_i c _ _ _ _ _
   cases (c==Value.type "enumerate")
   .wp_walk using Vx e1
    exact⟨_,rfl,h⟩
   .wp_walk using Vx e1
    exact⟨_,rfl,h⟩
  .wp_walk using Vx e1
   exact⟨_,rfl,h⟩
variable{l:Addr}{w:World}{s:Shared}
theorem WB{prog:Program}{A:Around}{E:Value->Shared->Prop}{t:Bool}{xs:Array Value}{Q:Value->Shared->Prop}(q:IsSq t s.heap l xs)(h:∀ n h',n=s.heap.objs.size->IsEnum h' (n+1) n ((0:Nat):Int) .none->SqI t h' n l 0->(∀ c o,s.heap.get? c=some o->h'.get? c=some o)->Q (.ref (n+1)) {s with heap:=h'}):
  wpAny (model prog w) A (call (.type "enumerate") [.ref l]) Q E s:=by
 refine callType_new F.called_enumerate (by decide) (F.typeCall_enumerate_1 _) (F.newCall_enumerate_1 _) (λobj=>F.args_object_init_2 obj _) F.entry_enumerate_new (CI t l xs) ⟨q,?_⟩
 have z1:(eh1 t s.heap l).objs.size=s.heap.objs.size+1:=size_push ..
 have g2:(eh2 t s.heap l).get? (eh1 t s.heap l).objs.size=some _:=get?_push_size _ rfl
 have f1:(itO t l).isFreed=false:=by cases t<;>rfl
 have g1:(eh2 t s.heap l).get? s.heap.objs.size=some (itO t l):=get?_push_of_some _ (get?_push_size _ f1)
 show _/\_
 rw[z1]at g2 ⊢
 refine⟨⟨_,g2,rfl⟩,h _ _ rfl g2 ?_ λc o e=>get?_push_of_some _ (get?_push_of_some _ e)⟩
 cases t with
 |true=>exact⟨_,g1,rfl,rfl⟩
 |false=>exact⟨_,g1,rfl,rfl⟩
def Ite(K : Frag)(t : Bool)(l : Addr) : It :=
  ⟨λi H => ∃ xs x, PR t K H l xs /\ xs[i]? = some x,
   λi H v H' => ∃ p x, v = .ref p /\ H p = none /\ H' = Jb H p (.tup [.int i, x]) /\ ∀ xs, PR t K H l xs -> xs[i]? = some x,
   λi H => ∃ xs, PR t K H l xs /\ i = xs.length⟩
variable{elts:List Expr}{kt:Nat}
theorem XJ{P:Program}{K:Frag}{pt:Pos}{t:Bool}{e it:Addr}(n1:l≠it)(n2:e≠it)(n3:e≠l):
  Turn P w K (.Tuple elts kt pt) (Ite K t l) [e,it] e (λi h=>(∃ old,IsEnum h e it i old)/\SqI t h it l i) where
 mem:=by simp
 obj:=λi h st b hb=>by
  obtain⟨⟨old,he⟩,s1⟩:=st
  simp only[mem_cons,not_mem_nil,or_false]at hb
  rcases hb with rfl|rfl
  .exact⟨_,he,λv q=>nomatch q⟩
  .obtain⟨o,vs,e,d⟩:=s1.rec
   exact⟨o,e,λv q=>by rw[d]at q;cases q⟩
 keep:=λi h h' st k=>by
  obtain⟨⟨old,he⟩,s1⟩:=st
  exact⟨⟨old,k e (by simp) _ he⟩,s1.at' λo q=>k it (by simp) o q⟩
 item:=by
  intro X hP hw hK hc i pins s σ H E I hf st hg
  subst hP hw hK
  obtain⟨⟨old,he⟩,s1⟩:=st
  obtain⟨xs,x,q1,e1⟩:=hg
  obtain⟨it1,r1,p1,_⟩:=Sw I q1
  obtain⟨u1,hu1,ru1⟩:=r1.get e1
  have hef:e∉ [it,l]:=by simp only[mem_cons,not_mem_nil,or_false,not_or];exact⟨n2,n3⟩
  have hlt:i<it1.toArray.size:=by
   rcases lt_or_ge i it1.length with z|z
   .simpa using z
   .rw[getElem?_eq_none z]at hu1;cases hu1
  refine wpAny_pyNext_enum_itemD (JL (show X.A.in1.handled=none from I.ok.hd hc) t it l n1 it1.toArray) he ⟨s1,p1⟩ hlt n2 hef λx' h1 tk px eo st1 nw sz kk=>⟨_,rfl,?_⟩
  have px':it1[i]? =some x':=by simpa using px
  rw[hu1]at px';cases px'
  refine wpAny_letOwnedTupleGo_enum (s:= {s with heap:=h1,toks:=tk+1}) eo λh2 e2 c2=>?_
  have le:e<s.heap.objs.size:=lt_size he
  have lit:it<s.heap.objs.size:=by obtain⟨o,_,q,_⟩:=s1.rec;exact lt_size q
  have up:∀ b o,b≠e->h1.get? b=some o->h2.get? b=some o:=λb o ne q=>c2.extBut _ _ ne q
  refine⟨.ref s.heap.objs.size,Jb H s.heap.objs.size (.tup [.int i,x]),?_,rfl,⟨_,x,rfl,I.hok.fresh (le_refl _),rfl,λzs hs=>by rw[NC I hs q1];exact e1⟩,⟨⟨_,e2⟩,st1.1.at' λo q=>up _ _ (Ne.symm n2) q⟩,λb hb=>?_⟩
  .show Inv X pins σ (Jb H s.heap.objs.size (.tup [.int i,x])) {s with heap:=h2,toks:=tk+1}
   refine Gv (ch:= [e,it]) (t':=tk+1) I hf (λb o hb q=>?_) (le_refl _) (.cons (by exact⟨tk,rfl⟩) (.cons ru1 .nil)) (show(2:Nat)<=sizeLine by rw[sizeLine_eq];decide) ⟨_,up _ _ (ne_of_gt le) nw,rfl,_,rfl⟩
   simp only[mem_cons,not_mem_nil,or_false,not_or]at hb
   exact up _ _ hb.1 (kk b o hb.1 hb.2 q)
  .have hb1:=(hf b hb).1
   have:b<s.heap.objs.size:=by
    simp only[mem_cons,not_mem_nil,or_false]at hb
    rcases hb with rfl|rfl
    .exact le
    .exact lit
   rw[Ha (ne_of_lt this)];exact hb1
 done:=by
  intro X hP hw hK hc i pins s σ H E I hf st hg
  subst hP hw hK
  obtain⟨⟨old,he⟩,s1⟩:=st
  obtain⟨xs,q1,rfl⟩:=hg
  obtain⟨it1,r1,p1,_⟩:=Sw I q1
  have hsz:xs.length=it1.toArray.size:=by simp[r1.length]
  rw[hsz]at s1 he
  refine wpAny_pyNext_enum_endD (JL (show X.A.in1.handled=none from I.ok.hd hc) t it l n1 it1.toArray) he ⟨s1,p1⟩ λh1 k=>⟨rfl,?_⟩
  refine Hv (ch:= [e,it]) (t':=s.toks) I hf λb o hb q=>?_
  simp only[mem_cons,not_mem_nil,or_false,not_or]at hb
  exact k b o hb.2 q
 self:=λ_ _ _ _ _ st h=>let ⟨⟨_,he⟩,_⟩:=st;wpAny_pyIter_enum he h
variable{X:Cx}{xw:XW}{pos:Pos}{a:Expr}
section
variable {pt p:Pos}{b:Expr}{fs:Ca->Res (List D)}
def Q7(K:Frag)(ta:TA):TI:=λσ H R=>ta σ H λvs H1=>∃ t l xs,vs= [.ref l]/\PR t K H1 l xs/\R (Ite K t l) H1
theorem OW{ta:TA}(hg:Gl X "enumerate")(hm:X.mg "enumerate"=none)(ha:PA X [a] ta)(hs:starEach [a] X.env= [(false,eval a X.env)]):
  PI X (.Tuple elts kt pt) (.Call (.Name "enumerate" p) [a] [] pos) (Q7 X.K ta):=by
 intro pins s σ H R I h
 refine Call_ (Li I hg hm (show bootBuiltins "enumerate"=some (.type "enumerate") by decide +kernel) (PyProof.Rows.callWith_type1 (thn (ha pos pins s σ H _ I h) λus s1 ⟨vs,H1,I1,r1,q1⟩=>?_) (by rw[hs];rfl) (by rfl)))
 obtain⟨t,l,xs,e,q1,q⟩:=q1
 subst e
 obtain⟨u1,rfl,ru1⟩:=r1.one
 cases (show u1=Value.ref l from ru1)
 obtain⟨it1,v1,p1,_⟩:=Sw I1 q1
 have a1:=p1.lt
 refine WB p1 λn h' hn he s1' kk=>wpAny_pyIter_enum he ?_
 subst hn
 have J:Inv X pins σ H1 {s1 with heap:=h'}:=I1.kept (t':=s1.toks) λc o e=>kk c o e
 refine⟨s1.heap.objs.size+1,[s1.heap.objs.size+1,s1.heap.objs.size],_,_,H1,rfl,J,XJ (t:=t) (ne_of_lt a1) (ne_of_gt (lt_succ_self _)) (ne_of_gt (Nat.lt_succ_of_lt a1)),⟨⟨_,he⟩,s1'⟩,λc hc=>?_,q⟩
 have hcs:s1.heap.objs.size<=c:=by
  simp only[mem_cons,not_mem_nil,or_false]at hc
  rcases hc with rfl|rfl
  .exact le_succ _
  .exact le_refl _
 exact I1.fpOk hcs (I1.hok.fresh hcs)
def Al:Nat->List D->List D
 |_,[]=> []
 |k,x::xs=>.tup [.int k,x]::Al (k+1) xs
theorem To:∀ {xs:List D} {k i:Nat} {d:D},(Al k xs)[i]? =some d->∃ x,xs[i]? =some x/\d=.tup [.int ((k+i:Nat):Int),x]
 | [],_,_,_,e=>by simp[Al]at e
 |x::xs,k,0,d,e=>by
  rw[Al]at e
  simp at e
  exact⟨x,rfl,by simp[<-e]⟩
 |x::xs,k,i+1,d,e=>by
  rw[Al]at e
  obtain⟨u,h1,h2⟩:=To (xs:=xs) (k:=k+1) (i:=i) (by simpa using e)
  exact⟨u,by simpa using h1,by rw[h2,show k+1+i=k+(i+1) by omega]⟩
theorem Uo:∀ (k:Nat) (xs:List D),(Al k xs).length=xs.length
 |_,[]=>rfl
 |k,x::xs=>by rw[Al,List.length_cons,Uo,List.length_cons]
def Bi(ds:List D):Res (List D):=match ds with
 | [x]=>match DN x with
  |some xs=>.ok (Al 0 xs)
  |_=>.stuck
 |_=>.stuck
theorem OS(hm:X.mg "enumerate"=none)(ha:DA X xw [a] fs)(hg:Gl X "enumerate":=by rfl)(hs:starEach [a] X.env= [(false,eval a X.env)]:=by rfl):
  DI X xw (.Tuple elts kt pt) (.Call (.Name "enumerate" p) [a] [] pos) (b1 Bi fs):=
 PI.weak (OW hg hm ha hs) λσ H R ⟨W₀,H₀,W,δ,st,q⟩=>by
  refine⟨W₀,H₀,W,δ,st,?_⟩
  simp only[b1]at q
  cases h1:fs δ with
  |stuck=>rw[h1]at q;exact q
  |ex c gs=>rw[h1]at q;exact q
  |ok ds=>
   rw[h1]at q
   intro vs H1 k1 hv
   dsimp only[Res.bind]at q
   unfold Bi at q
   split at q
   .rename_i ds' hq
    split at hq
    .rename_i x
     split at hq
     .rename_i xs ex
      have e':Al 0 xs=ds':=by cases hq;rfl
      subst e'
      rw[HasL]at hv
      obtain⟨v1,r1,rfl,g1,hv⟩:=hv
      rw[HasL]at hv
      subst hv
      have w1:=st.fr.wl.same k1
      obtain⟨t1,l1,xs1,rfl,r1,f1⟩:=O5 w1 g1 ex
      refine⟨t1,l1,xs1,rfl,f1 W H1 Step.refl,q _ H1 k1 ?_⟩
      intro W' H2 k2 w2
      have c1:=f1 W' H2 k2
      refine⟨λi d e=>?_,xs1,c1,?_⟩
      .obtain⟨x0,e1,rfl⟩:=To e
       obtain⟨x1,o1,hx1⟩:=r1.get e1
       refine⟨⟨xs1,x1,c1,o1⟩,λu H3 z=>?_⟩
       obtain⟨p0,x2,rfl,hp,rfl,z1⟩:=z
       have:=z1 xs1 c1
       rw[o1]at this;cases this
       refine⟨Xc hp,?_⟩
       rw[Has]
       have hx2:=(Has.keep k2.keep w1 k2.new hx1).same (Xc (o:=.tup [.int i,x1]) hp) w2
       refine⟨p0,[.int i,x1],rfl,.of Na,HasL.cons ?_ (HasL.cons hx2 HasL.nil)⟩
       rw[Has,zero_add]
      .rw[Uo,r1.length]
     .cases hq
    .cases hq
   .rename_i hq
    split at hq
    .split at hq<;>cases hq
    .cases hq
   .exact q.elim
end
open SeqAt
variable{σ:List Int}{k:Int}
theorem VU{a:Int}:a∈Dy σ k↔a∈σ\/a=k:=by
 unfold Dy
 split
 .rename_i h
  exact⟨.inl,λq=>q.elim id λe=>e▸h⟩
 .simp
theorem DJ(h:σ.Nodup):(Dy σ k).Nodup:=by
 unfold Dy
 split
 .exact h
 .rename_i hk
  rw[List.nodup_append]
  exact⟨h,by simp,λa ha b hb=>by simp at hb;subst hb;exact λe=>hk (e▸ha)⟩
theorem Yy:∀ (ns σ:List Int),σ.Nodup->(ns.foldl Dy σ).Nodup/\∀ a,a∈ns.foldl Dy σ↔a∈σ\/a∈ns
 | [],σ,h=>⟨h,λa=>by simp⟩
 |n::ns,σ,h=>by
  obtain⟨h1,h2⟩:=Yy ns (Dy σ n) (DJ h)
  refine⟨h1,λa=>?_⟩
  rw[foldl_cons,h2,VU,mem_cons,or_assoc]
variable{ns:List Int}
theorem XD{out:List Int}(hp:out.Perm (met ns))(hs:out.Pairwise (λa b=>a<=b)):out=Qb ns:=by
 obtain⟨h1,h2⟩:=Yy ns [] List.nodup_nil
 refine Xv (P9 hs (hp.nodup_iff.mpr h1)) (AB ns) λx=>?_
 rw[hp.mem_iff,Lv]
 exact(h2 x).trans (by simp)
theorem vals_ints:∀ {us:List Value} {ns:List Int},IntsAre us ns->Vals (ns.map V.int) us
 |_,_,.nil=>.nil
 |_,_,.cons n t r=>.cons ⟨t,rfl⟩ (vals_ints r)
theorem GU{us:List Value}(h:IntsAre us ns):ns.length=us.length/\∀ i v,us[i]? =some v->∃ t,v=Value.int (ns.getD i 0) t:=
 ⟨h.length.symm,λi v e=>h.int_at i v e⟩
section
variable {p pos2 p2:Pos}{fa:Ca->Res D}{pins:List (Addr×Obj)}{σ:L2.St}{H:Hp}
theorem Lz{d:Drawn}{t:Nat}(I:Inv X pins σ H s):Inv X pins σ H {s with drawn:=d,toks:=t}:=
 I.step (g':=s.gens) (d':=d) (t':=t) (h':=s.heap) (ch:= []) (λ_ z=>nomatch z) (λ_ _ _ _ _ e _=>e) (λb o _ _ _ e _=>⟨o.slots,e⟩) (λ_ _ _ _ n=>n) (λb o _ e=>⟨o,e⟩) (λ_ _ e=>e) (λ_ _ _ e=>e) (λb ps e=>⟨#[],by rw[e];simp⟩) (λ_ h=>h) I.hok I.bare
def tSS(K:Frag)(ta:TE):TE:=λσ H Q=>ta σ H λv H1=>∃ t l ns,v=.ref l/\PR t K H1 l (ns.map V.int)/\ns.length<64/\∀ p,H1 p=none->Q (.ref p) (Jb H1 p (.lst ((Qb ns).map V.int)))
theorem VJ(ns : List Int) : (Qb ns).length <= ns.length := by
  induction ns with
  | nil => exact le_refl _
  | cons n ns ih =>
    have : ∀ (k : Int) (l : List Int), (Ut k l).length <= l.length + 1 := λk l => by
      induction l with
      | nil => exact le_refl _
      | cons x xs ih => unfold Ut; split; · simp
                        split <;> simp; exact ih
    have := this n (Qb ns)
    rw[Qb, List.length_cons]; omega
theorem FD{ta:TE}(hc:X.calm=true)(hg1:Gl X "sorted")(hm1:X.mg "sorted"=none)(hg2:Gl X "set")(hm2:X.mg "set"=none)(ha:PE X a ta)(h1:starEach [.Call (.Name "set" p2) [a] [] pos2] X.env=(false,eval (.Call (.Name "set" p2) [a] [] pos2) X.env)::starEach [] X.env)(h2:starEach [a] X.env=(false,eval a X.env)::starEach [] X.env)(h3:(backTo pos (starEach [] X.env)).any (·.1)=false)(h4:(backTo pos2 (starEach [] X.env)).any (·.1)=false):PE X (.Call (.Name "sorted" p) [.Call (.Name "set" p2) [a] [] pos2] [] pos) (tSS X.K ta):=by
 intro pins s σ H Q I h
 refine wpAny_Call_Name_kw (Li I hg1 hm1 (show bootBuiltins "sorted"=some (.builtin "sorted") by decide +kernel) ?_)
 refine PyProof.Rows.callWith_builtin1 ?_ h1 h3
 rw[h1]
 show wpAny _ _ (spliced ((false,eval (.Call (.Name "set" p2) [a] [] pos2) X.env)::backTo pos (starEach [] X.env))) _ _ s
 refine Calls.spliced_cons ?_
 refine wpAny_Call_Name_kw (Li I hg2 hm2 (show bootBuiltins "set"=some (.type "set") by decide +kernel) ?_)
 refine PyProof.Rows.callWith_type1 ?_ h2 h4
 rw[h2]
 show wpAny _ _ (spliced ((false,eval a X.env)::backTo pos2 (starEach [] X.env))) _ _ s
 refine Calls.spliced_cons (thn (ha pins s σ H _ I h) λu s1 ⟨x,H1,I1,r1,q1⟩=>?_)
 refine Calls.spliced_nil ?_
 obtain⟨t,l,ns,rfl,sq,hl,q⟩:=q1
 cases (show u=Value.ref l from r1)
 obtain⟨its,rv,ps,_⟩:=Sw I1 sq
 obtain⟨el,hat⟩:=GU (Gz rv)
 have fin:∀ h' tk,SI X.prog X.w h' s1.heap.objs.size (met ns)->(∀ b o,s1.heap.get? b=some o->h'.get? b=some o)->
   wpAny (model X.prog X.w) X.A (spliced (backTo pos (starEach [] X.env))) (λvs s'=>wpAny (model X.prog X.w) X.A (call (.builtin "sorted") (Value.ref s1.heap.objs.size::vs)) (EP X pins σ Q) X.xe s') X.xe {s1 with heap:=h',toks:=tk}:=λh' tk hS k=>by
  refine Calls.spliced_nil ?_
  have hm:=UF ns
  refine YD (s:= {s1 with heap:=h',toks:=tk}) (I1.ok.hd hc) hS (by omega) λh2 d tk2 p out os e a1 a2 a3 ho hz k2=>?_
  have eo:=XD a2 a3
  subst eo
  have hsl:=VJ ns
  have lz:s1.heap.objs.size<h'.objs.size:=let ⟨_,_,_,_,ho,_⟩:=hS;lt_size ho
  have hp:s1.heap.objs.size<=p:=le_trans (le_of_lt lz) hz
  refine⟨.ref p,Jb H1 p (.lst ((Qb ns).map V.int)),?_,rfl,q p (I1.hok.fresh hp)⟩
  exact Lz (d:=d) (t:=tk2) (I1.laid (o:=.lst ((Qb ns).map V.int)) (h':=h2) (t':=tk2) (λb o e=>k2 _ _ (k _ _ e)) hp ⟨by rw[length_map,sizeLine_eq];omega,out,e,vals_ints a1,ho⟩)
 have hb:its.toArray.size+1<scanBound:=by rw[size_toArray,<-el];unfold scanBound;omega
 cases t with
 |true=>
  obtain⟨ol,hol,hcl,nl,hd⟩:=ps
  exact Sn (I1.ok.hd hc) hol hcl (by rw[isSubtype_type];kernel_rfl) (by rw[isSubtype_type];kernel_rfl) (by decide) (NI hcl hd) (by rw[size_toArray];exact el) (λi v e=>hat i v (by simpa using e)) hb fin
 |false=>
  obtain⟨ol,hol,hcl,nl,hd⟩:=ps
  exact Sn (I1.ok.hd hc) hol hcl (by rw[isSubtype_type];kernel_rfl) (by rw[isSubtype_type];kernel_rfl) (by decide) (GN hcl hd) (by rw[size_toArray];exact el) (λi v e=>hat i v (by simpa using e)) hb fin
theorem Xo{pt:Pos}{fs:Ca->Res (List D)}(hm:X.mg "enumerate"=none)(ha:XA X xw [a] fs)(hg:Gl X "enumerate":=by rfl)(hs:starEach [a] X.env= [(false,eval a X.env)]:=by rfl):
  XI X xw (.Tuple elts kt pt) (.Call (.Name "enumerate" p) [a] [] pos) (b1 Bi fs):=⟨OS hm ha.h hg hs⟩
def Uv:D->Res (List D)
 | .tup ds=>match Cn ds with
  |some ns=>@ite _ (ns.length<64) (propDecidable _) (.ok ((Qb ns).map D.int)) .stuck
  |none=>.stuck
 | .lst ds=>match Cn ds with
  |some ns=>@ite _ (ns.length<64) (propDecidable _) (.ok ((Qb ns).map D.int)) .stuck
  |none=>.stuck
 |_=>.stuck
theorem Xu(hc:X.calm=true)(hm1:X.mg "sorted"=none)(hm2:X.mg "set"=none)(ha:XP X xw a fa)(hg1:Gl X "sorted":=by rfl)(hg2:Gl X "set":=by rfl)(h1:starEach [.Call (.Name "set" p2) [a] [] pos2] X.env=(false,eval (.Call (.Name "set" p2) [a] [] pos2) X.env)::starEach [] X.env:=by rfl)(h2:starEach [a] X.env=(false,eval a X.env)::starEach [] X.env:=by rfl)(h3:(backTo pos (starEach [] X.env)).any (·.1)=false:=by rfl)(h4:(backTo pos2 (starEach [] X.env)).any (·.1)=false:=by rfl):
  XF X xw (.Call (.Name "sorted" p) [.Call (.Name "set" p2) [a] [] pos2] [] pos) (b1 Uv fa):=
 ⟨PE.weak (FD hc hg1 hm1 hg2 hm2 ha.h h1 h2 h3 h4) λσ H Q ⟨W₀,H₀,W,δ,st,q⟩=>Ov st q λH2 d v k w st2 hv _ q2=>by
  unfold Uv at q2
  split at q2
  .split at q2
   .rename_i ns hn
    split at q2
    .rename_i hl
     obtain⟨p,xs,e,sq,r⟩:=hv.tup
     have:=En hn r
     subst this
     exact⟨true,p,ns,e,sq,hl,λl hl'=>q2 l _ H2 (Same.refl _) hl' HasL.ints⟩
    .exact q2.elim
   .exact q2.elim
  .split at q2
   .rename_i ns hn
    split at q2
    .rename_i hl
     obtain⟨p,xs,e,sq,r⟩:=hv.lst
     have:=En hn r
     subst this
     exact⟨false,p,ns,e,sq,hl,λl hl'=>q2 l _ H2 (Same.refl _) hl' HasL.ints⟩
    .exact q2.elim
   .exact q2.elim
  .exact q2.elim⟩
end
end L3
namespace HT
open PySem PyProof.Rows
section
variable {prog:Program}{w:World}{A:Around}{E:Value->Shared->Prop}{s:Shared}
end
end HT
namespace L3
open PySem PySem.Spec PyProof.Rows L2 SeqAt
section
variable {X:Cx}{xw:XW}{a:Expr}{lo hi:Option Expr}{fa:Ca->Res D}{fl fh:Ca->Res (Option Int)}{pos p2:Pos}
end
end L3
namespace HT
open PySem PyProof.Rows
section
variable {prog:Program}{w:World}{A:Around}{E:Value->Shared->Prop}{s:Shared}
end
end HT
namespace L3
open PySem PySem.Spec PyProof.Rows L2 SeqAt
section
variable {X:Cx}{xw:XW}{a st:Expr}{fa:Ca->Res D}{pos p2:Pos}
end
end L3
namespace L3
open PySem PySem.Spec PyProof.Rows L2
variable{K:Frag}{xw:XW}{W₀ W W1:WS}{H₀ H:Hp}{Dn:Ends}
section
variable {H1:Hp}
def RSO(K:Frag)(xw:XW)(W₀:WS)(H₀:Hp)(W:WS)(H:Hp)(o:Out)(Dn:Ends):Prop:=match o with
 | .rt (.lst ds)=>∀ a xs H',Same H₀ H'->H₀ a=none->H' a=some (.lst xs)->HasL K (λb=>W₀ b\/b=a) H' ds xs->Dn.rt (.ref a) H'
 |o=>RS K xw W₀ H₀ W H o Dn
def Tb0(K:Frag)(xw:XW)(g:Ca->Out):TS:=λDn σ H=>∃ W₀ H₀ W δ,StHas K W₀ H₀ W H σ δ/\RSO K xw W₀ H₀ W H (g δ) Dn
end
structure NoL(g:Ca->Out):Prop where
 h:∀ δ ds,g δ≠ .rt (.lst ds)
variable{X:Cx}{st:Stmt}{pos:Pos}{a:Expr}
section
variable {sts:List Stmt}{g1 g2:Ca->Out}{p:Pos}{es:List Expr}
structure XSO(X:Cx)(xw:XW)(sts:List Stmt)(g:Ca->Out):Prop where
 h:PSs X sts (Tb0 X.K xw g)
def spO(K:Frag)(n:Nat)(m:List D->Res D):Sp:=λvs H Q _=>vs.length=n/\∃ W ds,WL W H/\HasL K W H ds vs/\match m ds with
 | .ok (.lst fs)=>∀ a xs H',Same H H'->H a=none->H' a=some (.lst xs)->HasL K (λb=>W b\/b=a) H' fs xs->Q (.ref a) H'
 | .ok d=>∀ v H',Same H H'->Has K W H' d v->Q v H'
 |_=>False
structure FnO(P:Program)(w:World)(K:Frag)(mg:Str->Option Value)(base:Heap)(k:Nat)(x:Str)(n:Nat)(m:List D->Res D):Prop where
 ex:∃ f fd ps,FnOk P w K mg base Po k f fd ps (spO K n m)/\mg x=some (.ref f)/\keepIn K (.ref f)=true/\Binds K fd ps []
def HY(K:Frag)(W:WS)(H:Hp):List D->List V->Prop
 | [],xs=>xs= []
 |d::ds,xs=>∃ x r,xs=x::r/\HasT K W H d x/\HY K W H ds r
def RAP(K:Frag)(xw:XW)(W:WS)(H:Hp)(r:Res (List D))(Q:List V->Hp->Prop):Prop:=match r with
 | .ok ds=>∀ vs H',Same H H'->HY K W H' ds vs->Q vs H'
 | .ex c fs=>∀ H',Same H H'->xw c fs H'
 | .stuck=>False
structure XAP(X:Cx)(xw:XW)(es:List Expr)(f:Ca->Res (List D)):Prop where
 h:PA X es λσ H Q=>∃ W₀ H₀ W δ,StHas X.K W₀ H₀ W H σ δ/\RAP X.K xw W H (f δ) Q
end
open SeqAt
variable{α:Type}{k:Cb}
section
variable {β:Type}
def Cc(l:List (Cb×α))(k:Cb):Option α:=(l.find? λp=>decide (p.1=k)).map (·.2)
def Nq(l:List (Cb×α))(k:Cb):Bool:=l.any λp=>decide (p.1=k)
def Re(l:List (Cb×α))(k:Cb)(y:α):List (Cb×α):=if Nq l k=true then l.map (λp=>if p.1=k then(p.1,y) else p) else l++ [(k,y)]
theorem Lg{p:Cb×α}{r:List (Cb×α)}(e:p.1=k):Cc (p::r) k=some p.2:=by simp[Cc,List.find?_cons,e]
theorem Mf{p:Cb×α}{r:List (Cb×α)}(e:¬ p.1=k):Cc (p::r) k=Cc r k:=by simp[Cc,List.find?_cons,e]
theorem Jj(k:Cb):∀ l:List (Cb×α),Nq l k=(Cc l k).isSome
 | []=>rfl
 |p::r=>by
  by_cases e:p.1=k
  .rw[Lg e];simp[Nq,e]
  .rw[Mf e,<-Jj k r];simp[Nq,e]
theorem VA(l:List (Cb×α))(k:Cb)(y:α):(Re l k y).length<=l.length+1:=by
 unfold Re;split
 .rw[length_map];omega
 .simp
end
variable{kvs:List (Cb×V)}{vs:List (Cb×Value)}
theorem Cp(r:KV kvs vs)(k:Cb):(∀ v,Cc kvs k=some v->∃ u,valueAt vs k=some u/\RelV v u)/\(Cc kvs k=none->valueAt vs k=none):=by
 unfold KV at r
 induction r with
 |nil=>exact⟨(λv e=>by cases e),λ_=>rfl⟩
 |@cons p q ps qs h t ih=>
  obtain⟨h1,h2⟩:=h
  by_cases e:p.1=k
  .have b:valueAt (q::qs) k=some q.2:=by simp[valueAt,List.find?_cons,h1.symm.trans e]
   rw[Lg e,b]
   exact⟨λv z=>by cases z;exact⟨_,rfl,h2⟩,λz=>by cases z⟩
  .have e':¬ q.1=k:=λz=>e (h1.trans z)
   have b:valueAt (q::qs) k=valueAt qs k:=by simp[valueAt,List.find?_cons,e']
   rw[Mf e,b];exact ih
theorem Y2(r:KV kvs vs)(k:Cb):Nq kvs k=vs.any λp=>decide (p.1=k):=by
 unfold KV at r
 induction r with
 |nil=>rfl
 |cons h t ih=>unfold Nq at ih ⊢;rw[any_cons,any_cons,ih,h.1]
variable{u:Value}
theorem SN(r:KV kvs vs)(k:Cb){y:V}(ry:RelV y u):KV (Re kvs k y) (stored vs k u):=by
 unfold Re stored
 rw[Y2 r k]
 by_cases e:(vs.any λp=>decide (p.1=k))=true
 .rw[if_pos e,if_pos e]
  unfold KV at r ⊢
  clear e
  induction r with
  |nil=>exact .nil
  |@cons p q ps qs h t ih=>
   rw[map_cons,map_cons]
   refine .cons ?_ ih
   obtain⟨h1,h2⟩:=h
   by_cases e:p.1=k
   .rw[if_pos e,if_pos (h1.symm.trans e)];exact⟨h1,ry⟩
   .rw[if_neg e,if_neg (λz=>e (h1.trans z))];exact⟨h1,h2⟩
 .rw[if_neg e,if_neg e]
  unfold KV at r ⊢
  clear e
  induction r with
  |nil=>exact .cons ⟨rfl,ry⟩ .nil
  |cons h t ih=>exact .cons h ih
theorem Pe(r:KV kvs vs):kvs.length=vs.length:=by
 unfold KV at r
 induction r with
 |nil=>rfl
 |cons h t ih=>rw[List.length_cons,List.length_cons,ih]
variable{d:D}{l:List (Cb×D)}{ds:List D}{H':Hp}
section
variable {K:Frag}{W:WS}{H:Hp}
def HasP(K:Frag)(W:WS)(H:Hp)(l:List (Cb×D))(kvs:List (Cb×V)):Prop:=kvs.map (·.1)=l.map (·.1)/\HasL K W H (l.map (·.2)) (kvs.map (·.2))
theorem HasP.nil:HasP K W H [] []:=⟨rfl,HasL.nil⟩
theorem HasP.cons{p:Cb×D}{l:List (Cb×D)}{kvs:List (Cb×V)}(h:HasP K W H (p::l) kvs):∃ v r,kvs=(p.1,v)::r/\Has K W H p.2 v/\HasP K W H l r:=by
 obtain⟨h1,h2⟩:=h
 cases kvs with
 |nil=>cases h1
 |cons q r=>
  rw[map_cons,map_cons]at h1 h2
  rw[HasL]at h2
  obtain⟨x,t,e,g1,g2⟩:=h2
  cases e
  have h3:=List.cons.inj h1
  exact⟨q.2,r,by rw[<-h3.1],g1,h3.2,g2⟩
theorem HasP.mk{v:V}(h:Has K W H d v)(t:HasP K W H l kvs):HasP K W H ((k,d)::l) ((k,v)::kvs):=⟨by rw[map_cons,map_cons,t.1],by rw[map_cons,map_cons];exact HasL.cons h t.2⟩
theorem HasP.len(h:HasP K W H l kvs):l.length=kvs.length:=by
 have:=congrArg List.length h.1
 simpa using this.symm
theorem HasP.of{ks:List Cb}(h1:kvs.map (·.1)=ks)(h2:HasL K W H ds (kvs.map (·.2))):HasP K W H (ks.zip ds) kvs/\(ks.zip ds).map (·.1)=ks/\(ks.zip ds).map (·.2)=ds:=by
 have hl:ks.length=ds.length:=by rw[<-h1,h2.length,length_map,length_map]
 have e1:(ks.zip ds).map (·.1)=ks:=by rw[<-List.unzip_fst,List.unzip_zip hl]
 have e2:(ks.zip ds).map (·.2)=ds:=by rw[<-List.unzip_snd,List.unzip_zip hl]
 exact⟨⟨by rw[e1,h1],by rw[e2];exact h2⟩,e1,e2⟩
theorem HasP.same(h:HasP K W H l kvs)(k:Same H H')(w:WL W H):HasP K W H' l kvs:=⟨h.1,h.2.same k w⟩
theorem HasP.get:∀ {l:List (Cb×D)} {kvs:List (Cb×V)},HasP K W H l kvs->∀ (k:Cb),(∀ d,Cc l k=some d->∃ v,Cc kvs k=some v/\Has K W H d v)/\(Cc l k=none->Cc kvs k=none)
 | [],kvs,h,k=>by
  obtain⟨h1,_⟩:=h
  cases kvs with
  |nil=>exact⟨(λd e=>by cases e),λ_=>rfl⟩
  |cons _ _=>cases h1
 |p::l,kvs,h,k=>by
  obtain⟨v,r,rfl,h1,h2⟩:=h.cons
  by_cases e:p.1=k
  .rw[Lg e,Lg (p:=(p.1,v)) e]
   exact⟨λd z=>by cases z;exact⟨v,rfl,h1⟩,λz=>by cases z⟩
  .rw[Mf e,Mf (p:=(p.1,v)) e];exact h2.get k
theorem HasP.has(h:HasP K W H l kvs)(k:Cb):Nq kvs k=Nq l k:=by
 have:=h.1
 unfold Nq
 rw[show(kvs.any λp=>decide (p.1=k))=(kvs.map (·.1)).any (λz=>decide (z=k)) by rw[List.any_map];rfl,this,List.any_map];rfl
theorem HasP.put{v:V}(h:HasP K W H l kvs)(k:Cb)(hd:Has K W H d v):HasP K W H (Re l k d) (Re kvs k v):=by
 unfold Re
 rw[h.has k]
 split
 .rename_i hh;clear hh
  induction l generalizing kvs with
  |nil=>
   obtain⟨h1,_⟩:=h
   cases kvs with
   |nil=>exact HasP.nil
   |cons _ _=>cases h1
  |cons p l ih=>
   obtain⟨u,r,rfl,h1,h2⟩:=h.cons
   rw[map_cons,map_cons]
   by_cases e:p.1=k
   .rw[if_pos e,if_pos e];exact HasP.mk hd (ih h2)
   .rw[if_neg e,if_neg e];exact HasP.mk h1 (ih h2)
 .rename_i hh;clear hh
  induction l generalizing kvs with
  |nil=>
   obtain⟨h1,_⟩:=h
   cases kvs with
   |nil=>exact HasP.mk hd HasP.nil
   |cons _ _=>cases h1
  |cons p l ih=>
   obtain⟨u,r,rfl,h1,h2⟩:=h.cons
   exact HasP.mk h1 (ih h2)
end
variable{b e:Expr}{fa fb f:Ca->Res D}{P:Program}{w:World}{x:Str}{fq:Ca->Res (List (Cb×D))}{σ:L2.St}{δ:Ca}{i:Nat}{H2:Hp}{o:Out}{g:Ca->Out}{s:Shared}
section
variable {ie:Expr}{p p1 p2:Pos}{fi:Ca->Res D}
theorem Ap(r:RelV (kV k) u):(Cd P w).is k u=true:=EX r
theorem Jk{h:Heap}{a:Addr}(ok:HOk P w H h)(e:Rd H a (.dK kvs)):kvs.length<=sizeLine/\(a==sysModules)=false/\∃ vs,KV kvs vs/\h.DictOf (Cd P w) a vs:=by
 rcases e with e|⟨o,e⟩
 .exact ok a _ e
 .exact(show _/\_ from ok a _ e).2
theorem Rd.same{a:Addr}{u:HO}(h:Rd H a u)(k:Same H H'):Rd H' a u:=h.imp (k _ _) λ⟨o,e⟩=>⟨o,k _ _ e⟩
def Ib0:R2:=λx y H Q=>∃ a kvs k v,x=.ref a/\Rd H a (.dK kvs)/\y=kV k/\Cc kvs k=some v/\Q v H
theorem EW{ta tb:TE}(ha:PE X a ta)(hb:PE X b tb)(hs:Ln b):PE X (.Subscript a b pos) (G9 Ib0 ta tb):=by
 intro pins s σ H Q I h
 refine Subscript_ (WR ha hb I h λv u s2 x y H2 I2 rx ry q=>?_)
 obtain⟨d,kvs,k,z,rfl,hd,rfl,hg,q⟩:=q
 cases rx
 obtain⟨_,hS,vs,rel,dd⟩:=Jk I2.hok hd
 obtain⟨w',hw,rw'⟩:=(Cp rel k).1 z hg
 unfold subscriptTail
 refine wpAny_bind ?_
 rw[getitemInPython_of_ne dd.typeIs.not_modules]
 refine wpAny_bind (wpAny_specialOf dd.typeIs PySem.F.slot_dict_getitem.lookup ?_)
 have fin:wpAny (model X.prog X.w) X.A (subscripted b false (.ref d) u) (λr s₃=>wpAny (model X.prog X.w) X.A (letTemporaryGo a (.ref d) r >>= λ_=>pure r) (EP X pins σ Q) X.xe s₃) X.xe s2:=by
  rw[hs (.ref d) u]
  exact wpAny_operating (wpAny_getItem_of (Ap ry) dd.mapOf hw (wpAny_bind (wpAny_letTemporaryGo (wpAny_pure ⟨z,H2,I2.tok _,rw',q⟩))))
 first
  |exact wpAny_pure (wpAny_bind fin)
  |exact wpAny_bind (wpAny_pure (wpAny_bind fin))
  |exact wpAny_bind fin
def U8:V->V->V->Hp->(Hp->Prop)->Prop:=λo i v H Q=>∃ a kvs k,o=.ref a/\i=kV k/\H a=some (.dK kvs)/\kvs.length<sizeLine/\Q (Jb H a (.dK (Re kvs k v)))
theorem GQ:V6 X U8:=by
 intro pins s σ H o i v ov iv u Q I ro ri rv h
 obtain⟨a,kvs,k,rfl,rfl,ha,hl,q⟩:=h
 cases ro
 obtain⟨z,hS,vs,rel,dd⟩:=I.hok _ _ ha
 refine wpAny_setItem_pairs (hsz:=by rw[<-Pe rel];exact z) (Ap ri) dd λh' dd' hs=>⟨_,?_,q⟩
 refine I.write (x:=a) (e:=a) (by rw[ha];exact trivial) (.inl rfl) (λb' w hb hw=>(hs.2 b' hb).trans hw) ?_ ?_
 .obtain⟨ob,_,_,hq,_⟩:=dd';exact⟨ob,hq⟩
 .exact⟨by have:=VA kvs k v;omega,hS,_,SN rel k rv,dd'⟩
def RQ(K:Frag)(xw:XW)(W:WS)(H:Hp)(r:Res (List (Cb×D)))(Q:VK):Prop:=match r with
 | .ok l=>∀ a kvs H',Same H H'->Rd H' a (.dK kvs)->HasP K W H' l kvs->Q (.ref a) H'
 | .ex c fs=>∀ H',Same H H'->xw c fs H'
 | .stuck=>False
def tDQ(K:Frag)(xw:XW)(f:Ca->Res (List (Cb×D))):TE:=λσ H Q=>∃ W₀ H₀ W δ,StHas K W₀ H₀ W H σ δ/\RQ K xw W H (f δ) Q
structure XQ(X:Cx)(xw:XW)(e:Expr)(f:Ca->Res (List (Cb×D))):Prop where
 h:PE X e (tDQ X.K xw f)
def Rc(i:Nat):Ca->Res (List (Cb×D)):=λδ=>match δ[i]? with
 |some (some (.q ks ds))=>.ok (ks.zip ds)
 |some (some (.d (.dct ks ds)))=>.ok (ks.zip ds)
 |_=>.stuck
theorem Rh(i:Nat)(hN:X.N[i]? =some x:=by rfl)(hv:Kq X.env.scope x:=by first|exact Or.inl rfl|exact Or.inr (Or.inl rfl)|exact Or.inr (Or.inr rfl))(hd:(x==("__debug__":Str))=false:=by decide)(hcd:(x==("__classdict__":Str))=false:=by decide):XQ X xw (.Name x pos) (Rc i):=
 ⟨PE.weak (Zc hN hv hd hcd) λσ H Q ⟨W₀,H₀,W,δ,st,q⟩=>by
  unfold Rc at q
  split at q
  .rename_i ks ds h
   obtain⟨v,e1,a,kvs,rfl,r2,r3,r4,r5,r6⟩:=st.at' i _ h
   exact⟨_,e1,q a kvs H (Same.refl H) (.inl r4) (HasP.of r5 r6).1⟩
  .rename_i ks ds h
   obtain⟨v,e1,r⟩:=st.at' i _ h
   have r':Has X.K W H (.dct ks ds) v:=r
   rw[Has]at r'
   obtain⟨a,kvs,rfl,r4,r5,r6⟩:=r'
   exact⟨_,e1,q a kvs H (Same.refl H) (.inr r4) (HasP.of r5 r6).1⟩
  .exact q.elim⟩
def KB(op:D->Res α)(f:Ca->Res D):Ca->Res α:=λδ=>(f δ).bind op
def Zh(l:List (Cb×D))(d:D):Res D:=match Pz d with
 |some k=>match Cc l k with
  |some x=>.ok x
  |none=>.stuck
 |none=>.stuck
def KH(op:List (Cb×D)->D->Res α)(f:Ca->Res (List (Cb×D)))(g:Ca->Res D):Ca->Res α:=λδ=>(f δ).bind λl=>(g δ).bind λd=>op l d
theorem Aj{v:V}(h:HasT K W H d v)(e:Pz d=some k):v=kV k:=by
 cases d with
 |int i=>cases e;exact h.int
 |str x=>cases e;exact h.str
 |_=>cases e
theorem Np(ha:XQ X xw a fq)(hb:XP X xw b fb)(hs:Ln b:=by intro _ _;rfl):XE X xw (.Subscript a b pos) (KH Zh fq fb):=
 ⟨PE.weak (EW ha.h hb.h hs) λσ H Q ⟨W₀,H₀,W,δ,st,q⟩=>by
  refine⟨W₀,H₀,W,δ,st,?_⟩
  unfold KH at q
  cases h1:fq δ with
  |stuck=>rw[h1]at q;exact q
  |ex c fs=>rw[h1]at q;exact q
  |ok l=>
   rw[h1]at q
   intro ad kvs H1 k1 hd hp
   refine⟨W₀,H₀,W,δ,st.same k1,?_⟩
   have q':RE X.K xw W H ((fb δ).bind λd=>Zh l d) Q:=q
   cases h2:fb δ with
   |stuck=>rw[h2]at q';exact q'
   |ex c fs=>rw[h2]at q';exact λH2 k2=>q' H2 (k1.trans k2)
   |ok d=>
    rw[h2]at q'
    intro v H2 k2 hv
    have q2:RE X.K xw W H (Zh l d) Q:=q'
    unfold Zh at q2
    split at q2
    .rename_i k hk
     split at q2
     .rename_i x hx
      have hp2:=hp.same k2 (st.fr.wl.same k1)
      obtain⟨z,hz,hh⟩:=(hp2.get k).1 x hx
      exact⟨ad,kvs,k,z,rfl,Rd.same hd k2,Aj hv hk,hz,q2 z H2 (k1.trans k2) hh⟩
     .exact q2.elim
    .exact q2.elim⟩
def Th(i:Nat):Ca->Out:=λδ=>.nx (δ.set i (some (.q [] [])))
theorem FW{t:TE}(ht:∀ σ H Q,t σ H Q->∀ a,H a=none->Q (.ref a) (Jb H a (.dK []))):PE X (.Dict [] [] pos) t:=by
 intro pins s σ H Q I q
 have big:sysModules<s.heap.objs.size:=by
  have h:mainGlobals<s.heap.objs.size:=(I.mod.glob.keeps I.bk).lt
  exact lt_trans (by decide) h
 exact wpAny_Dict_empty ⟨.ref s.heap.objs.size,_,I.laid (a:=s.heap.objs.size) (o:=.dK []) (t':=s.toks) (λ_ _ q=>get?_push_of_some _ q) (le_refl _) (GL s.heap big),rfl,ht σ H Q q _ (I.hok.fresh (le_refl s.heap.objs.size))⟩
theorem Ys(i:Nat){pos' pos'':Pos}(hN:X.N.Nodup)(hi:X.N[i]? =some x:=by rfl)(hx:Cy X.env.scope x:=by first|exact Or.inl rfl|exact Or.inr rfl)(hs:swapsWith (.Dict [] [] pos'') (some (.Name x pos')) pos.line X.env=pure false:=by rfl)(hf:X.fn x=true\/X.env.scope.names.lookup x=some .local:=by first|exact .inl rfl|exact .inr rfl|assumption):XS X xw (.Assign [.Name x pos'] (.Dict [] [] pos'') pos) (Th i):=
 ⟨PS.weak (Vs hN hi hx (FW (t:=λ_ H Q=>∀ a,H a=none->Q (.ref a) (Jb H a (.dK []))) λ_ _ _ q=>q) hs hf) λDn σ H ⟨W₀,H₀,W,δ,st,q⟩=>by
  intro a ha
  have st1:=st.ownQ (i:=i) (ks:= []) (ds:= []) (kvs:= []) ha rfl HasL.nil
  have q':RS X.K xw W₀ H₀ W H (.nx (δ.set i (some (.q [] [])))) Dn:=q
  refine q' _ _ _ ⟨λb o e nb=>?_,λb z=>z.elim .inl λz=>.inr (by rw[z];exact ha)⟩ st1
  rw[Ha (Pa e ha)];exact e⟩
def NP(i:Nat)(δ:Ca)(l:List (Cb×D))(d ix:D):Out:=match Pz ix with
 |some k=>if l.length<=1000 then .nx (δ.set i (some (.q ((Re l k d).map (·.1)) ((Re l k d).map (·.2))))) else .stuck
 |none=>.stuck
def OP(i:Nat)(fi:Ca->Res D)(δ:Ca)(d:D):Out:=match δ[i]? with
 |some (some (.q ks ds))=>Qk (fi δ) (NP i δ (ks.zip ds) d)
 |_=>.stuck
def Lf(i:Nat)(fi f:Ca->Res D):Ca->Out:=λδ=>Qk (f δ) (OP i fi δ)
theorem Ll(i:Nat)(he:XE X xw e f)(hi:XE X xw ie fi)(hN:X.N[i]? =some x:=by rfl)(hv:Kq X.env.scope x:=by first|exact Or.inl rfl|exact Or.inr (Or.inl rfl)|exact Or.inr (Or.inr rfl))(hd:(x==("__debug__":Str))=false:=by decide)(hcd:(x==("__classdict__":Str))=false:=by decide)(ha:∀ v,assign (.Subscript (.Name x p1) ie p2) X.env v=(do
   let ov <-holding [v] (eval (.Name x p1) X.env)
   let iv <-holding [v,ov] (eval ie X.env)
   standAt p2
   holding [v,ov,iv] (setItem ov iv v)
   release [v,ov,iv] []):=by intro _;rfl)(hs:swapsWithSole [.Subscript (.Name x p1) ie p2] e pos.line X.env=pure false:=by rfl)(hw:swappedStores [.Subscript (.Name x p1) ie p2] e X.env=pure none:=by rfl)(h1:(assignEach [.Subscript (.Name x p1) ie p2] X.env).map (·.2)= [assign (.Subscript (.Name x p1) ie p2) X.env]:=by rfl):
  XS X xw (.Assign [.Subscript (.Name x p1) ie p2] e pos) (Lf i fi f):=
 ⟨PS.weak (Ts he.h (M4 (Zc hN hv hd hcd) hi.h GQ ha) hs hw h1) λDn σ H ⟨W₀,H₀,W,δ,st,q⟩=>by
  unfold Lf at q
  refine Kj st q λH2 d v st2 hv q2=>?_
  unfold OP at q2
  split at q2
  .rename_i ks ds h
   obtain⟨v0,e1,a,kvs,rfl,r2,r3,r4,r5,r6⟩:=st2.at' i _ h
   refine⟨_,e1,W₀,H₀,W,δ,st2,?_⟩
   cases hf:fi δ with
   |stuck=>rw[hf]at q2;exact q2.elim
   |ex c gs=>rw[hf]at q2;exact λH3 k3=>q2 H3 (st2.fr.ext.trans k3)
   |ok ix=>
    rw[hf]at q2
    have q3:RS X.K xw W₀ H₀ W H2 (NP i δ (ks.zip ds) d ix) Dn:=q2
    unfold NP at q3
    split at q3
    .rename_i k hk
     split at q3
     .rename_i hlen
      intro vi H3 k3 hvi
      have hkk:=Aj (.inl hvi) hk
      subst hkk
      have st3:=st2.same k3
      obtain⟨v',e1',a',kvs',e',r2',r3',r4',r5',r6'⟩:=st3.at' i _ h
      rw[e1]at e1'
      cases e1'
      cases e'
      have hp:=(HasP.of r5' r6').1
      have hp2:=hp.put k (hv.same k3 st2.fr.wl)
      refine⟨a,kvs',k,rfl,rfl,r4',by have:=hp.len;rw[sizeLine_eq];omega,?_⟩
      refine q3 W _ σ ⟨λb o e n=>?_,λ_ z=>.inl z⟩ ?_
      .rw[Ha (λz=>n (by rw[z];exact r2'))];exact k3 _ _ e
      .exact st3.changeQ h e1 r2' hp2.1 hp2.2
     .exact q3.elim
    .exact q3.elim
  .exact q2.elim⟩
def EC(i:Nat)(δ:Ca):Ca:=match δ[i]? with
 |some (some (.q ks ds))=>δ.set i (some (.d (.dct ks ds)))
 |some (some (.o ds))=>δ.set i (some (.d (.lst ds)))
 |_=>δ
theorem StHas.frzQ{ks:List Cb}{a:Addr}(o:Obj)(h:StHas K W₀ H₀ W H σ δ)(hi:δ[i]? =some (some (.q ks ds)))(hs:σ[i]? =some (some (.ref a)))(hW:W a)(h4:kvs.map (·.1)=ks)(h5:HasL K W H ds (kvs.map (·.2))):StHas K W₀ H₀ (λb=>W b/\b≠a) (Jb H a (.frz o (.dK kvs))) σ (δ.set i (some (.d (.dct ks ds)))):=by
 have kk:Mj W H (Jb H a (.frz o (.dK kvs))):=λb u e n=>by rw[Ha (λz=>n (by rw[z];exact hW))];exact e
 refine h.freezeH (owq ks ds) hi hs ?_
 rw[Has]
 exact⟨a,kvs,rfl,⟨o,Na⟩,h4,HasL.keep kk h.fr.wl (λb z=>.inl z.1) h5⟩
theorem Step.less{W2:WS}(hw:∀ b,W1 b->W b)(k:Step W1 H W2 H2):Step W H W2 H2:=⟨λb o e n=>k.keep b o e λz=>n (hw b z),λb z=>(k.new b z).imp (hw b) id⟩
theorem RS.less{xw:XW}(hw:∀ b,W1 b->W b)(q:RS K xw W₀ H₀ W H o Dn):RS K xw W₀ H₀ W1 H o Dn:=by
 cases o with
 |nx δ=>exact λW' H' σ k s=>q W' H' σ (k.less hw) s
 |bk δ=>exact λW' H' σ k s=>q W' H' σ (k.less hw) s
 |ct δ=>exact λW' H' σ k s=>q W' H' σ (k.less hw) s
 |rt d=>exact q
 |ex c fs=>exact q
 |stuck=>exact q
def Gu(i:Nat)(g:Ca->Out):Ca->Out:=λδ=>g (EC i δ)
theorem RS.note{xw:XW}{a:Addr}{ob:HO}(hW:W a)(q:RS K xw W₀ H₀ W H o Dn):RS K xw W₀ H₀ (λb=>W b/\b≠a) (Jb H a ob) o Dn:=by
 have st:∀ W' H',Step (λb=>W b/\b≠a) (Jb H a ob) W' H'->Step W H W' H':=λW' H' k=>⟨λb u e n=>by
   have hb:b≠a:=λz=>n (by rw[z];exact hW)
   exact k.keep b u (by rw[Ha hb];exact e) λz=>n z.1,λb z=>by
   rcases k.new b z with z|z
   .exact .inl z.1
   .by_cases hb:b=a
    .rw[hb,Na]at z;cases z
    .rw[Ha hb]at z;exact .inr z⟩
 cases o with
 |nx δ=>exact λW' H' σ k s=>q W' H' σ (st _ _ k) s
 |bk δ=>exact λW' H' σ k s=>q W' H' σ (st _ _ k) s
 |ct δ=>exact λW' H' σ k s=>q W' H' σ (st _ _ k) s
 |rt d=>exact q
 |ex c fs=>exact q
 |stuck=>exact q
theorem FM{pins:List (Addr×Obj)}(I:Inv X pins σ H s)(h:SX X.K xw (Gu i g) Dn σ H):∃ H',Inv X pins σ H' s/\SX X.K xw g Dn σ H':=by
 obtain⟨W₀,H₀,W,δ,st,q⟩:=h
 have q':RS X.K xw W₀ H₀ W H (g (EC i δ)) Dn:=q
 unfold EC at q'
 split at q'
 .rename_i ks ds h
  obtain⟨v,e,a,kvs,rfl,r2,r3,r4,r5,r6⟩:=st.at' i _ h
  have ok:=I.hok _ _ r4
  obtain⟨z,hS,vs,rel,dd⟩:=id ok
  obtain⟨o,es,ep,ho,_⟩:=dd
  refine⟨_,I.write (x:=a) (e:=a) (o:=.frz o (.dK kvs)) (h':=s.heap) (t':=s.toks) (by rw[r4];exact trivial) (.inl rfl) (λb' u hb hu=>hu) ⟨_,ho⟩ ⟨ho,ok⟩,W₀,H₀,_,_,st.frzQ o h e r2 r5 r6,RS.note r2 q'⟩
 .rename_i ds h
  obtain⟨v,e,a,xs,rfl,_⟩:=st.at' i _ h
  exact⟨H,I,W₀,H₀,_,_,(st.freeze h e).1,RS.less (λb z=>z.1) q'⟩
 .exact⟨H,I,W₀,H₀,W,δ,st,q'⟩
theorem MG(i:Nat)(h:XS X xw st g):XS X xw st (Gu i g):=⟨λpins s σ H Dn I q=>let ⟨H',I',q'⟩:=FM I q;h.h pins s σ H' Dn I' q'⟩
end
theorem RC(h:(Cd P w).is k u=true):RelV (kV k) u:=by
 rcases Lc h with⟨i,t,rfl,rfl⟩|⟨x,t,rfl,rfl⟩
 .exact⟨t,rfl⟩
 .exact⟨t,rfl⟩
variable{a:Addr}{es:Array DictEntry}{o:Obj}{ep:Nat}
theorem Kw{h:Heap}(ok:HOk P w H h)(e:H a=some (.frz o (.dK kvs)))(hd:o.data=.dict es ep):
  (a==sysModules)=false/\∃ vs,KV kvs vs/\h.DictAt (Cd P w) a vs ep:=by
 obtain⟨h1,_,h2,vs,r,o',es',ep',g1,g2,g3,g4⟩:=(show _/\_ from ok a _ e)
 rw[h1]at g1;cases g1
 rw[hd]at g3;cases g3
 exact⟨h2,vs,r,o,es,h1,g2,hd,g4⟩
theorem PN(r:KV kvs vs){p:Cb×V}(h:kvs[i]? =some p):∃ u,vs[i]? =some (p.1,u)/\RelV p.2 u:=by
 unfold KV at r
 induction r generalizing i with
 |nil=>cases h
 |@cons p' q ps qs hh t ih=>
  cases i with
  |zero=>cases h;exact⟨q.2,by rw[List.getElem?_cons_zero,hh.1],hh.2⟩
  |succ i=>exact ih (by simpa using h)
variable{tg:Expr}{apos:Pos}{prog:Program}{A:Around}{E Q:Value->Shared->Prop}{it:Addr}{n:Nat}
section
def Ik:Cb->D
 | .inl i=>.int i
 | .inr x=>.str x
theorem Zo(k:Cb):Has K W H (Ik k) (kV k):=by
 cases k with
 |inl i=>show Has K W H (.int i) (.int i);rw[Has]
 |inr x=>show Has K W H (.str x) (.str x);rw[Has]
theorem EM{W':WS}{u:HO}(w:WL W H)(k:Step W H W' H2)(h:H a=some (.frz o u)):H2 a=some (.frz o u):=k.keep _ _ h λz=>by
 obtain⟨o',e',m⟩:=w a z
 rw[h]at e';cases e';exact m
def Iti(a:Addr)(o:Obj)(kvs:List (Cb×V)):It:=
 ⟨λi H=>H a=some (.frz o (.dK kvs))/\i<kvs.length,λi H x H'=>∃ n p,x=.ref n/\H n=none/\kvs[i]? =some p/\H'=Jb H n (.tup [kV p.1,p.2]),λi H=>H a=some (.frz o (.dK kvs))/\i=kvs.length⟩
theorem Gm:entryFor table "dict_itemiterator.__iter__"=some Builtin.«dict_keyiterator.__iter__» :=
 entryFor_alias (id':="dict_keyiterator.__iter__") (by kernel_rfl) rfl (by decide +kernel) (by kernel_rfl)
theorem Mq{d:Addr}{ok ov:Value}(hit:IsItemIter s.heap it d i n ep ok ov)(h:Q (.ref it) s):wpAny (model prog w) A (pyIter (.ref it)) Q E s:=by
 have hT:s.TypeIs (.ref it) "dict_itemiterator":=⟨_,hit,rfl⟩
 refine wpAny_pyIter_slot hT F.slot_dict_itemiterator_iter (wpAny_call_entry F.slot_dict_itemiterator_iter hT Gm ?_ (F.args_dict_itemiterator_iter_1 _))
 show wpAny _ _ (ret (.ref it)) _ _ s
 exact wpAny_pure ⟨_,rfl,"dict_itemiterator",_,hT,F.slot_dict_itemiterator_next.lookup,h⟩
theorem XX{elts:List Expr}{kt:Nat}{pt:Pos}(hdat:o.data=.dict es ep):
  Turn P w K (.Tuple elts kt pt) (Iti a o kvs) [it] it (λi h=>∃ ok ov,IsItemIter h it a i kvs.length ep ok ov) where
 mem:=by simp
 obj:=λi h st b hb=>by
  have e:b=it:=by simpa using hb
  subst e
  obtain⟨ok,ov,e⟩:=st
  exact⟨_,e,λv z=>nomatch z⟩
 keep:=λi h h' st k=>by
  obtain⟨ok,ov,e⟩:=st
  exact⟨ok,ov,k it (by simp) _ e⟩
 item:=by
  intro X hP hw hK hc i pins s σ H E I hf st hg
  subst hP hw hK
  obtain⟨hq,hi⟩:=hg
  obtain⟨ok,ov,st⟩:=st
  obtain⟨_,vs,rel,dat⟩:=Kw I.hok hq hdat
  obtain⟨u,hu,ru⟩:=PN rel (getElem?_eq_getElem hi)
  rw[Pe rel]at st
  refine wpAny_pyNext_items_item st dat hu λkey h1 hkey eo nw sz kk=>⟨_,rfl,?_⟩
  refine wpAny_letOwnedTupleGo_items (s:= {s with heap:=h1}) eo λh2 e2 c2=>?_
  have li:it<s.heap.objs.size:=lt_size st
  have up:∀ b o,b≠it->h1.get? b=some o->h2.get? b=some o:=λb o ne q=>c2.extBut _ _ ne q
  rw[<-Pe rel]at e2
  refine⟨.ref s.heap.objs.size,Jb H s.heap.objs.size (.tup [kV (kvs[i]).1,(kvs[i]).2]),?_,rfl,⟨_,_,rfl,I.hok.fresh (le_refl _),getElem?_eq_getElem hi,rfl⟩,⟨_,_,e2⟩,λb hb=>?_⟩
  .show Inv X pins σ (Jb H s.heap.objs.size (.tup [kV (kvs[i]).1,(kvs[i]).2])) {s with heap:=h2,toks:=s.toks}
   refine Gv (ch:= [it]) (t':=s.toks) I hf (λb o hb q=>?_) (le_refl _) (.cons (RC hkey) (.cons ru .nil)) (show(2:Nat)<=sizeLine by rw[sizeLine_eq];decide) ⟨_,up _ _ (ne_of_gt li) nw,rfl,_,rfl⟩
   simp only[mem_cons,not_mem_nil,or_false]at hb
   exact up _ _ hb (kk b o hb q)
  .have hb1:=(hf b hb).1
   have:b=it:=by simpa using hb
   subst this
   rw[Ha (ne_of_lt li)];exact hb1
 done:=by
  intro X hP hw hK hc i pins s σ H E I hf st hg
  subst hP hw hK
  obtain⟨hq,rfl⟩:=hg
  obtain⟨ok,ov,st⟩:=st
  obtain⟨_,vs,rel,dat⟩:=Kw I.hok hq hdat
  rw[Pe rel]at st
  refine wpAny_pyNext_items_end (I.ok.hd hc) st dat (by simp) λh' eb=>⟨rfl,Hv (ch:= [it]) (t':=s.toks) I hf λb o hb q=>?_⟩
  exact eb b o (by simpa using hb) q
 self:=λ_ _ _ _ _ st h=>let ⟨_,_,e⟩:=st;Mq e h
variable {elts:List Expr}{kt:Nat}{pt:Pos}
def iQi(te:TE):TI:=λσ H R=>te σ H λx H1=>∃ a o kvs,x=.ref a/\H1 a=some (.frz o (.dK kvs))/\R (Iti a o kvs) H1
theorem M8{te:TE}(h:PE X e te)(hbase:attributeBase e "items" X.env (eval e X.env)=eval e X.env)(hline:(apos.endLine==pos.line)=true):PI X (.Tuple elts kt pt) (.Call (.Attribute e "items" apos) [] [] pos) (iQi te):=by
 intro pins s σ H R I h1
 refine wpAny_Call_method0_late hbase hline (thn (h pins s σ H _ I h1) λv s1 ⟨x,H1,I1,r1,q1⟩=>?_)
 obtain⟨a,o,kvs,rfl,hq,q⟩:=q1
 cases r1
 obtain⟨h1',_,hS,vs',r',o',es,ep,g1,g2,g3,g4⟩:=(show _/\_ from I1.hok a _ hq)
 rw[h1']at g1;cases g1
 obtain⟨hs,vs,rel,dat⟩:=Kw I1.hok hq g3
 refine⟨"dict","dict.items",F.plainAttrs_dict,F.slot_dict_items,F.type_dict_items,dat.dictOf.typeIs,λb z=>by cases z;exact⟨o,h1',g2.2.1⟩,Calls.callWith_builtin rfl (PySem.evalArgs_none ?_)⟩
 refine call_meetsIn F.slot_dict_items dat.dictOf.typeIs F.entry_dict_items (F.args_dict_items_1 _) (meets_dict_items (Cd X.prog X.w) a hs) ⟨⟨vs,dat.dictOf⟩,?_⟩
 have v1:Heap.IsItemsView (s1.heap.push {cls:=.type "dict_items",data:=.fields #[.ref a]}) s1.heap.objs.size a:=⟨_,get?_push_size _ rfl,rfl,rfl⟩
 refine wpAny_pyIter_items (s:= {s1 with heap:=s1.heap.push {cls:=.type "dict_items",data:=.fields #[.ref a]}}) v1 (dat.push _) ?_
 have sz:(s1.heap.push {cls:=.type "dict_items",data:=.fields #[.ref a]}).objs.size=s1.heap.objs.size+1:=size_push ..
 refine⟨_,[s1.heap.objs.size+1],_,_,H1,by rw[<-sz],I1.kept (t':=s1.toks) λb o e=>get?_push_of_some _ (get?_push_of_some _ e),XX g3,⟨.none,.none,?_⟩,λb hb=>?_,q⟩
 .rw[Pe rel,<-sz];exact get?_push_size _ rfl
 .have e:b=s1.heap.objs.size+1:=by simpa using hb
  subst e
  exact I1.fpOk (le_succ _) (I1.hok.fresh (le_succ _))
def Hn:D->Res (List D)
 | .dct ks ds=>.ok ((ks.zip ds).map λp=>.tup [Ik p.1,p.2])
 |_=>.stuck
theorem A2(w:WL W H)(h:H a=some (.frz o (.dK kvs)))(hp:HasP K W H l kvs):GK K W H (Iti a o kvs) (l.map λp=>.tup [Ik p.1,p.2]):=by
 intro W' H2 k w2
 have h2:=EM w k h
 have hl:=hp.len
 refine⟨λi d ed=>?_,h2,by rw[length_map,hl]⟩
 have hi:i<l.length:=by
  have:=(List.getElem?_eq_some_iff.mp ed).1
  rw[length_map]at this;exact this
 refine⟨⟨h2,by omega⟩,λx H3 z=>?_⟩
 obtain⟨n,p,rfl,hn,hpi,rfl⟩:=z
 refine⟨Xc hn,?_⟩
 rw[getElem?_map,getElem?_eq_getElem hi]at ed
 cases ed
 have e1:p.1=(l[i]).1:=by
  have:=congrArg (λz=>z[i]?) hp.1
  simp only[getElem?_map,hpi,getElem?_eq_getElem hi]at this
  exact Option.some.inj this
 obtain⟨v,g1,g2⟩:=hp.2.get (i:=i) (d:=(l[i]).2) (by rw[getElem?_map,getElem?_eq_getElem hi];rfl)
 rw[getElem?_map,hpi]at g1
 cases g1
 rw[Has]
 have g3:=(Has.keep k.keep w k.new g2).same (Xc (o:=.tup [kV p.1,p.2]) hn) w2
 refine⟨n,[kV p.1,p.2],rfl,.of Na,HasL.cons ?_ (HasL.cons g3 HasL.nil)⟩
 rw[e1];exact Zo _
theorem Pw(h:XE X xw e f)(hbase:attributeBase e "items" X.env (eval e X.env)=eval e X.env:=by rfl)(hline:(apos.endLine==pos.line)=true:=by rfl):XI X xw (.Tuple elts kt pt) (.Call (.Attribute e "items" apos) [] [] pos) (KB Hn f):=⟨PI.weak (M8 h.h hbase hline) λσ H R ⟨W₀,H₀,W,δ,st,q⟩=>by
 refine⟨W₀,H₀,W,δ,st,?_⟩
 unfold KB at q
 cases h1:f δ with
 |stuck=>rw[h1]at q;exact q
 |ex c fs=>rw[h1]at q;exact q
 |ok d=>
  rw[h1]at q
  intro v H1 k1 hv
  cases d with
  |dct ks ds=>
   rw[Has]at hv
   obtain⟨a,kvs,rfl,⟨o,ea⟩,r5,r6⟩:=hv
   exact⟨a,o,kvs,rfl,ea,q _ H1 k1 (A2 (st.fr.wl.same k1) ea (HasP.of r5 r6).1)⟩
  |_=>exact q.elim⟩
end
variable{a:Expr}
section
variable {p pos2:Pos}
end
section
variable {p:Pos}{fs:Ca->Res (List D)}
end
theorem Zp:entryFor table "dict.update.loop"=some Builtin.«dict.update.loop» :=entryFor_of_tree (by kernel_rfl)
theorem Di:plainId "dict.update.loop"=true:=by decide +kernel
section
variable {KK:Type}[DecidableEq KK]{knd:KeyKind prog w KK}{R:Result->Shared->Prop}{I:Addr}{fp wr:List Addr}{G:Array GenState->Array GenState->Prop}{P:Nat->Value->Prop}{St:Nat->Shared->Prop}
theorem QS(W:WalksS prog w A.in1 I fp wr G n P St)(S:Addr)(hSf:S∉fp)(base:Heap)(hnew:∀ b∈S::wr,base.objs.size<=b)(kvs:List (KK×Value))(hn:kvs.length=n)(hsz:n<=sizeLine)(hv:∀ i v,P i v->∃ t key k val,v=.ref t/\kvs[i]? =some (k,val)/\knd.is k key=true/\IsTup base t #[key,val]):
  ∀ (j i:Nat) (s:Shared),n-i=j->i<=n->St i s->(∀ b o,base.get? b=some o->s.heap.get? b=some o)->s.heap.DictOf knd S (merged [] (kvs.take i))->(∀ s',Moved (S::wr) G s s'->s'.heap.DictOf knd S (merged [] kvs)->R (.ok (.ret .none)) s')->
   codeAny (model prog w) A (.builtin "dict.update.loop" ⟨[.ref S,.ref I,rawInt (i:Int),.none],[]⟩) R s:=by
 have hSw:S∉wr:=λh=>hSf (W.sub _ h)
 have up:∀ b∈wr,b∈S::wr:=λb hb=>mem_cons_of_mem _ hb
 have old:∀ b o,base.get? b=some o->b∉S::wr:=λb o e m=>absurd (lt_size e) (Nat.not_lt.mpr (hnew b m))
 intro j
 induction j with
 |zero=>
  intro i s hk hi st hb hS hR
  have:i=n:=by omega
  subst this
  refine codeAny_builtin Zp ?_;rw[Around.under_plainId Di _]
  show wpAny _ A.in1 (pyNext (.ref I) >>= _) _ _ s
  refine wpAny_bind (W.done s _ _ st λs' mv=>?_)
  show wpAny _ _ (Builtin.Dict.addKeywords S [] >>= _) _ _ s'
  refine wpAny_bind (wpAny_pure (wpAny_pure (hR s' (mv.mono up) ?_)))
  rw[List.take_of_length_le (Nat.le_of_eq hn)]at hS
  obtain⟨o,es,ep,ho,r⟩:=hS
  exact⟨o,es,ep,mv.heap S o hSw ho,r⟩
 |succ j ih=>
  intro i s hk hi st hb hS hR
  have lt:i<n:=by omega
  refine codeAny_builtin Zp ?_;rw[Around.under_plainId Di _]
  show wpAny _ A.in1 (pyNext (.ref I) >>= _) _ _ s
  refine wpAny_bind (W.item i s _ _ lt st λv s' pv st' mv=>?_)
  obtain⟨t,key,k,val,rfl,hkv,hkey,ht⟩:=hv i v pv
  have hS':s'.heap.DictOf knd S (merged [] (kvs.take i)):=by
   obtain⟨o,es,ep,ho,r⟩:=hS
   exact⟨o,es,ep,mv.heap S o hSw ho,r⟩
  obtain⟨ot,e1,e2,e3⟩:=ht
  obtain⟨m,e3⟩:=e3
  have et:=mv.heap t ot (λz=>old t ot e1 (up _ z)) (hb t ot e1)
  have hT:s'.TypeIs (.ref t) "tuple":=⟨ot,et,e2⟩
  show wpAny _ A.in1 (holding [Value.ref t] _ >>= _) _ _ s'
  refine wpAny_bind (wpAny_holding ?_)
  refine wpAny_bind (wpAny_tryCatch ?_)
  unfold Builtin.Dict.pairItems
  refine wpAny_bind (wpAny_typeOf hT ?_)
  rw[if_pos (by decide)]
  refine wpAny_bind (wpAny_seqItems et e3 (wpAny_pure ?_))
  show wpAny _ _ (holding [key,val] (dictSet S key val)) _ _ _
  have hs0:(merged ([]:List (KK×Value)) (kvs.take i)).length<=sizeLine:=by
   have:=merged_length_le ([]:List (KK×Value)) (kvs.take i)
   rw[length_take,length_nil,zero_add]at this
   have h2:min i kvs.length<=i:=Nat.min_le_left _ _
   exact le_trans this (le_trans h2 (le_trans hi hsz))
  refine wpAny_holding (wpAny_dictSet_pairs (hsz:=hs0) hkey hS' λh' hS2 sb=>?_)
  refine wpAny_pure (show _/\codeAny (model prog w) A (.builtin "dict.update.loop" ⟨[.ref S,.ref I,rawInt ((i:Int)+1),.none],[]⟩) R {s' with heap:=h',toks:=s'.toks+1} from⟨plainId_quiet Di _,?_⟩)
  have e5:rawInt ((i:Int)+1)=rawInt ((i+1:Nat):Int):=by congr 1
  rw[e5]
  refine ih (i+1) _ (by omega) lt (W.frame _ s' _ _ st' (le_succ _) λb hb o e=>sb.extBut _ _ (λq=>hSf (q▸hb)) e) (λb o e=>sb.extBut _ _ (λq=>old b o e (by rw[q];exact mem_cons_self)) (mv.heap b o (λz=>old b o e (up _ z)) (hb b o e))) (by rw[merged_take_succ _ _ i _ hkv];exact hS2) λs'' mv2 hS3=>hR s'' ?_ hS3
  exact Moved.trans W.gtrans ((mv.mono up).then_heap (le_succ _) λb o hb e=>sb.extBut _ _ (λq=>hb (by rw[q];exact mem_cons_self)) e) mv2
theorem Rz:typeLookup (.type "list") "keys"=pure none:=by rw[typeLookup_type,builtinLookup_eq_fast];kernel_rfl
theorem WI{a:Addr}{xs:Array Value}{k:Nat}{Q:Option Value->Shared->Prop}(hx:s.heap.get? a=some o)(hc:o.cls=.type "list")(hdat:o.data=.seq xs k)(hd:o.dict=none)(hA:A.handled=none)(h:∀ h' tk,(∀ b ob,s.heap.get? b=some ob->h'.get? b=some ob)->Q none {s with heap:=h',toks:=tk}):
  wpAny (model prog w) A (getAttr? (.ref a) "keys") Q E s:=by
 obtain⟨c,dct,dat,sl⟩:=o
 simp only at hc hdat hd
 subst hc hdat hd
 obtain⟨hp,g,d,tk,os⟩:=s
 have hT:∀ tk',(⟨hp,g,d,tk',os⟩:Shared).TypeIs (.ref a) "list":=λ_=>⟨_,hx,rfl⟩
 have f1:=sub_AttributeError
 have f3:=F.slot_list_getattribute.lookup
 have f4:=F.slot_list_getattribute.bind (.ref a)
 have f5:=am_list_getattr_none
 unfold getAttr? getAttrBy? getAttrBy
 repeat (any_goals (first|assumption|exact hT _|((with_reducible show wpAny _ _ (call (Value.builtin "list.__getattribute__") _ _) _ _ _);refine call_meets F.slot_list_getattribute (hT _) am_entry_list_getattribute (F.args_list_getattribute_2 _ _) (meets_getattribute_miss_list a xs k sl "keys" _ Rz (by decide) (by rw[sizeLine_eq];decide)) ⟨hx,hA,λh' tk' e hx'=>?_⟩)|wp_step))
 obtain⟨t',u',he⟩:=hx'.there
 show wpAny _ _ (getattributeRaised _ _ _ _ _ _ _) _ _ _
 unfold getattributeRaised
 repeat (any_goals (first|assumption|wp_step))
 exact h h' tk' hx'.keeps
theorem Hr{l:Addr}{items:Array Value}{n0:Nat}{kvs:List (KK×Value)}(hh:A.handled=none)(hx:s.heap.get? l=some o)(hc:o.cls=.type "list")(hdat:o.data=.seq items n0)(hd:o.dict=none)(hn:kvs.length=items.size)(hsz:items.size<=sizeLine)(hv:∀ (i:Nat) (v:Value),items[i]? =some v->∃ t key k val,v=Value.ref t/\kvs[i]? =some (k,val)/\knd.is k key=true/\IsTup s.heap t #[key,val])(h:∀ h' tk,h'.DictOf knd s.heap.objs.size (merged [] kvs)->(∀ b o,s.heap.get? b=some o->h'.get? b=some o)->Q (.ref s.heap.objs.size) {s with heap:=h',toks:=tk}):
  wpAny (model prog w) A (call (.type "dict") [.ref l]) Q E s:=by
 refine callType_codes (Q₁:=λobj s₁=>obj=.ref s.heap.objs.size/\s₁= {s with heap:=s.heap.push {cls:=.type "dict",data:=.dict #[]}}) F.kt_called_dict (F.kt_typeCall_dict_1 _) F.entry_dict_init (kt_code_dict_new _ ⟨rfl,rfl⟩) ?_
 rintro obj s₁ ⟨rfl,rfl⟩
 have hnew:(s.heap.push {cls:=.type "dict",data:=.dict #[]}).DictOf knd s.heap.objs.size []:=Heap.DictOf.new s.heap
 have hx':=get?_push_of_some {cls:=.type "dict",data:=.dict #[]} hx
 have z1:(s.heap.push {cls:=.type "dict",data:=.dict #[]}).objs.size=s.heap.objs.size+1:=size_push ..
 have k1:∀ b o,s.heap.get? b=some o->(s.heap.push {cls:=.type "dict",data:=.dict #[]}).get? b=some o:=λb o e=>get?_push_of_some _ e
 generalize (s.heap.push {cls:=.type "dict",data:=.dict #[]})=h1 at hnew hx' z1 k1 ⊢
 refine⟨hnew.typeIs,F.args_dict_init_2 _ _,?_⟩
 unfold Builtin.«dict.__init__»
 refine wpAny_bind ?_
 unfold Builtin.Dict.selfAndRest
 refine wpAny_bind (wpAny_notOrdered_dict hnew.typeIs ?_)
 show wpAny _ _ (pure (s.heap.objs.size,[Value.ref l])) _ _ _
 refine wpAny_pure ?_
 show wpAny _ _ (Builtin.Dict.updateFrom "dict.__init__" s.heap.objs.size (.ref l) [] .none) _ _ _
 unfold Builtin.Dict.updateFrom
 have hT:Shared.TypeIs {s with heap:=h1} (.ref l) "list":=⟨_,hx',hc⟩
 refine wpAny_bind (wpAny_typeOf hT ?_)
 rw[if_pos (by decide)]
 refine wpAny_bind (WI (s:= {s with heap:=h1}) hx' hc hdat hd hh λh2 tk2 k2=>?_)
 rw[if_pos (show(none:Option Value).isNone=true from rfl)]
 refine wpAny_bind (wpAny_rule ?_)
 have hl2:h2.IsList l items:=⟨o,k2 _ _ hx',hc,n0,hdat⟩
 refine wpAny_bind (wpAny_pyIter_list (s:= {s with heap:=h2,toks:=tk2}) hl2 ?_)
 have lS:s.heap.objs.size<h2.objs.size:=by
  obtain⟨ob,_,_,hg,_⟩:=hnew
  exact lt_size (k2 _ _ hg)
 have ll:l<s.heap.objs.size:=lt_size hx
 have hS2:h2.DictOf knd s.heap.objs.size []:=by
  obtain⟨ob,es,ep,hg,r⟩:=hnew
  exact⟨ob,es,ep,k2 _ _ hg,r⟩
 have hlI:l≠h2.objs.size:=ne_of_lt (lt_trans ll lS)
 have W:=(Walks.list (prog:=prog) (w:=w) (A:=A.in1.in1) (show A.in1.in1.handled=none from hh) h2.objs.size l hlI items).toS
 refine wpAny_pure ⟨plainId_quiet Di _,?_⟩
 refine QS (knd:=knd) (A:=A.in1) W s.heap.objs.size ?_ s.heap ?_ kvs hn hsz (λi v pv=>hv i v pv) items.size 0 _ (by omega) (zero_le _) ?_ ?_ ?_ ?_
 .simp only[mem_cons,not_mem_nil,or_false,not_or]
  exact⟨ne_of_lt lS,ne_of_gt ll⟩
 .intro b hb
  simp only[mem_cons,not_mem_nil,or_false]at hb
  rcases hb with rfl|rfl
  .exact le_refl _
  .exact le_of_lt lS
 .exact⟨⟨_,get?_push_size _ rfl,rfl,rfl⟩,⟨o,get?_push_of_some _ (k2 _ _ hx'),hc,n0,hdat⟩⟩
 .exact λb o e=>get?_push_of_some _ (k2 _ _ (k1 _ _ e))
 .obtain⟨ob,es,ep,hg,r⟩:=hS2
  exact⟨ob,es,ep,get?_push_of_some _ hg,r⟩
 .intro s' mv hS
  obtain⟨h',g',d',tk',os'⟩:=s'
  have eg:g'=s.gens:=mv.gens
  have ed:d'=s.drawn:=mv.drawn
  have eo:os'=s.os:=mv.os
  subst eg ed eo
  refine⟨rfl,h h' tk' hS λb ob e=>mv.heap b ob ?_ (get?_push_of_some _ (k2 _ _ (k1 _ _ e)))⟩
  have hb:=lt_size e
  simp only[mem_cons,not_mem_nil,or_false,not_or]
  exact⟨ne_of_lt hb,ne_of_lt (lt_trans hb lS)⟩
end
def Og(l:List (Cb×α)):List (Cb×α):=l.foldl (λacc p=>Re acc p.1 p.2) []
theorem QN(r:KV kvs vs):KV (Og kvs) (merged [] vs):=by
 have go:∀ {kvs:List (Cb×V)} {vs:List (Cb×Value)},KV kvs vs->∀ {a:List (Cb×V)} {b:List (Cb×Value)},KV a b->KV (kvs.foldl (λacc p=>Re acc p.1 p.2) a) (vs.foldl (λacc kv=>stored acc kv.1 kv.2) b):=by
  intro kvs vs r
  unfold KV at r
  induction r with
  |nil=>intro a b h;exact h
  |@cons p q ps qs h t ih=>
   intro a b hab
   obtain⟨h1,h2⟩:=h
   rw[foldl_cons,foldl_cons,<-h1]
   exact ih (SN hab p.1 h2)
 exact go r .nil
theorem HasP.merge(h:HasP K W H l kvs):HasP K W H (Og l) (Og kvs):=by
 have go:∀ (l:List (Cb×D)) (kvs:List (Cb×V)),HasP K W H l kvs->∀ (a:List (Cb×D)) (b:List (Cb×V)),HasP K W H a b->HasP K W H (l.foldl (λacc p=>Re acc p.1 p.2) a) (kvs.foldl (λacc p=>Re acc p.1 p.2) b):=by
  intro l
  induction l with
  |nil=>
   intro kvs h a b hab
   obtain⟨h1,_⟩:=h
   cases kvs with
   |nil=>exact hab
   |cons _ _=>cases h1
  |cons p l ih=>
   intro kvs h a b hab
   obtain⟨v,r,rfl,h1,h2⟩:=h.cons
   exact ih r h2 _ _ (hab.put p.1 h1)
 exact go l kvs h [] [] HasP.nil
theorem TC(l:List (Cb×α)):(Og l).length<=l.length:=by
 have go:∀ (l a:List (Cb×α)),(l.foldl (λacc p=>Re acc p.1 p.2) a).length<=a.length+l.length:=by
  intro l
  induction l with
  |nil=>intro a;simp
  |cons p l ih=>
   intro a
   have h1:=ih (Re a p.1 p.2)
   have h2:=VA a p.1 p.2
   rw[foldl_cons,List.length_cons];omega
 have:=go l [];simpa [Og] using this
section
variable {p:Pos}
def PairsAt(K:Frag)(H:Hp):List V->List (Cb×V)->Prop
 | [],kvs=>kvs= []
 |x::xs,kvs=>∃ t k v r,x=.ref t/\kvs=(k,v)::r/\SqT K H t [kV k,v]/\PairsAt K H xs r
theorem PairsAt.len:∀ {xs:List V} {kvs:List (Cb×V)},PairsAt K H xs kvs->xs.length=kvs.length
 | [],_,h=>by rw[show _= [] from h];rfl
 |x::xs,_,h=>by
  obtain⟨t,k,v,r,_,rfl,_,h⟩:=h
  rw[List.length_cons,List.length_cons,h.len]
theorem Qv{pins:List (Addr×Obj)}{σ:L2.St}{H:Hp}{s:Shared}(I:Inv X pins σ H s):∀ {xs:List V} {its:List Value} {kvs:List (Cb×V)},PairsAt X.K H xs kvs->Vals xs its->
  ∃ vs:List (Cb×Value),KV kvs vs/\∀ (i:Nat) (v:Value),its[i]? =some v->∃ t key k val,v=Value.ref t/\vs[i]? =some (k,val)/\(Cd X.prog X.w).is k key=true/\IsTup s.heap t #[key,val]
 | [],its,kvs,h,r=>by
  cases r
  rw[show kvs= [] from h]
  exact⟨[],.nil,λi v e=>by simp at e⟩
 |x::xs,its,kvs,h,r=>by
  obtain⟨t,k,v,rr,rfl,rfl,sq,h⟩:=h
  cases r with
  |@cons _ u _ us r1 r2=>
   cases (show u=Value.ref t from r1)
   obtain⟨vs,e1,e2⟩:=Qv I h r2
   obtain⟨ys,ry,py,_⟩:=I.tuple sq
   cases ry with
   |@cons _ key _ _ q1 q2=>
    cases q2 with
    |@cons _ val _ _ q3 q4=>
     cases q4
     refine⟨(k,val)::vs,.cons ⟨rfl,q3⟩ e1,λi w hw=>?_⟩
     cases i with
     |zero=>cases hw;exact⟨t,key,k,val,rfl,rfl,Ap q1,py⟩
     |succ i=>exact e2 i w (by simpa using hw)
theorem NB(hc:X.calm=true):Rg X (.type "dict") (λxs H Q=>∃ (l:Addr) (ys:List V) (kvs:List (Cb×V)),xs= [.ref l]/\SqL X.K H l ys/\PairsAt X.K H ys kvs/\∀ n o,H n=none->Q (.ref n) (Jb H n (.frz o (.dK (Og kvs))))):=by
 intro pins s σ H xs us Q I r h
 obtain⟨l,ys,kvs,rfl,hq,hp,q⟩:=h
 obtain⟨u,rfl,ru⟩:=DB r
 cases ru
 obtain⟨its,rv,⟨ob,n0,e,hcl,hd,hs⟩,hz⟩:=I.list hq
 obtain⟨vs,kv,hv⟩:=Qv I hp rv
 have hl1:=hp.len
 have hl2:=rv.length
 have hl3:=Pe kv
 have big:sysModules<s.heap.objs.size:=by
  have h:mainGlobals<s.heap.objs.size:=(I.mod.glob.keeps I.bk).lt
  exact lt_trans (by decide) h
 refine Hr (knd:=Cd X.prog X.w) (kvs:=vs) (I.ok.hd hc) e hcl hs hd (by simp;omega) (by simp;omega) (λi v hw=>hv i v (by simpa using hw)) λh' tk dd kk=>?_
 obtain⟨ob',es,ep,ho',rr⟩:=id dd
 refine⟨.ref s.heap.objs.size,_,I.laid (a:=s.heap.objs.size) (o:=.frz ob' (.dK (Og kvs))) (t':=tk) kk (le_refl _) ⟨ho',?_,beq_eq_false_iff_ne.mpr (Ne.symm (ne_of_lt big)),_,QN kv,dd⟩,rfl,q _ ob' I.fresh⟩
 have:=TC kvs
 omega
def Cj:List D->Option (List (Cb×D))
 | []=>some []
 | .tup [k,v]::ds=>match Pz k,Cj ds with
  |some kk,some l=>some ((kk,v)::l)
  |_,_=>none
 |_=>none
theorem Pv{K:Frag}{W:WS}{H:Hp}:∀ {ds:List D} {l:List (Cb×D)} {xs:List V},Cj ds=some l->HasL K W H ds xs->∃ kvs,PairsAt K H xs kvs/\HasP K W H l kvs
 | [],l,xs,e,h=>by
  cases e
  rw[HasL]at h
  subst h
  exact⟨[],rfl,HasP.nil⟩
 |d::ds,l,xs,e,h=>by
  unfold Cj at e
  split at e
  .rename_i h1;cases h1
  .rename_i k v ds' h1
   cases h1
   split at e
   .rename_i kk l' e1 e2
    cases e
    rw[HasL]at h
    obtain⟨x,r,rfl,g1,g2⟩:=h
    obtain⟨kvs,p1,p2⟩:=Pv e2 g2
    rw[Has]at g1
    obtain⟨t,ys,rfl,sq,hy⟩:=g1
    rw[HasL]at hy
    obtain⟨y1,r1,rfl,hk,hy⟩:=hy
    rw[HasL]at hy
    obtain⟨y2,r2,rfl,hv,hy⟩:=hy
    rw[HasL]at hy
    subst hy
    have:=Aj (.inl hk) e1
    subst this
    exact⟨(kk,y2)::kvs,⟨t,kk,y2,kvs,rfl,rfl,sq,p1⟩,HasP.mk hv p2⟩
   .cases e
  .cases e
def Mg:D->Res D
 | .lst ds=>match Cj ds with
  |some l=>.ok (.dct ((Og l).map (·.1)) ((Og l).map (·.2)))
  |none=>.stuck
 |_=>.stuck
theorem Zq(hc:X.calm=true)(hm:X.mg "dict"=none)(ha:XP X xw a fa)(hg:Gl X "dict":=by rfl)(he:starEach [a] X.env=(false,eval a X.env)::starEach [] X.env:=by rfl)(hpl:(backTo pos (starEach [] X.env)).any (·.1)=false:=by rfl):
  XE X xw (.Call (.Name "dict" p) [a] [] pos) (b1 Mg fa):=
 ⟨So (NB hc) (λW H d v Q w hv q=>by
  unfold Mg at q
  split at q
  .split at q
   .rename_i l hl
    obtain⟨ad,xs,e1,sq,r⟩:=hv.lst
    obtain⟨kvs,p1,p2⟩:=Pv hl r
    refine⟨ad,xs,kvs,by rw[e1],sq,p1,λn o hn=>q _ _ (Xc hn) ?_⟩
    have m:=(p2.merge).same (Xc (o:=.frz o (.dK (Og kvs))) hn) w
    rw[Has]
    exact⟨n,Og kvs,rfl,⟨o,Na⟩,m.1,m.2⟩
   .exact q.elim
  .exact q.elim) hm (by decide +kernel) ha.h hg (by decide) (by decide) he hpl⟩
end
variable{Q:VK}{ad:Addr}
theorem CB(r:KV kvs vs)(k:Cb):(valueAt vs k).isSome=(Cc kvs k).isSome:=by
 cases h:Cc kvs k with
 |none=>rw[(Cp r k).2 h];rfl
 |some v=>obtain⟨u,e,_⟩:=(Cp r k).1 v h;rw[e];rfl
theorem S3:OpR X (compareOp .In) (λy x H Q=>∃ ad kvs k,x=.ref ad/\Rd H ad (.dK kvs)/\y=kV k/\Q (.bl (Cc kvs k).isSome) H):=by
 intro pins s σ H y x u v Q I ry rx h
 obtain⟨ad,kvs,k,rfl,hd,rfl,q⟩:=h
 cases rx
 obtain⟨_,hS,vs,rel,dd⟩:=Jk I.hok hd
 refine wpAny_in_of (Ap ry) hS dd.mapOf ?_
 exact⟨.bl (Cc kvs k).isSome,H,I.tok _,by rw[<-CB rel k];rfl,q⟩
theorem UV:OpR X (compareOp .NotIn) (λy x H Q=>∃ ad kvs k,x=.ref ad/\Rd H ad (.dK kvs)/\y=kV k/\Q (.bl (!(Cc kvs k).isSome)) H):=by
 intro pins s σ H y x u v Q I ry rx h
 obtain⟨ad,kvs,k,rfl,hd,rfl,q⟩:=h
 cases rx
 obtain⟨_,hS,vs,rel,dd⟩:=Jk I.hok hd
 refine wpAny_notIn_of (Ap ry) hS dd.mapOf ?_
 exact⟨.bl (!(Cc kvs k).isSome),H,I.tok _,by rw[<-CB rel k];rfl,q⟩
def Rw(d:D)(l:List (Cb×D)):Res D:=match Pz d with
 |some k=>.ok (.bl (Cc l k).isSome)
 |none=>.stuck
def Nv(d:D)(l:List (Cb×D)):Res D:=match Pz d with
 |some k=>.ok (.bl (!(Cc l k).isSome))
 |none=>.stuck
def LH(op:D->List (Cb×D)->Res D)(f:Ca->Res D)(g:Ca->Res (List (Cb×D))):Ca->Res D:=λδ=>(f δ).bind λd=>(g δ).bind λl=>op d l
theorem Ez{op:D->List (Cb×D)->Res D}{R:V->V->Hp->Prop}(st:StHas X.K W₀ H₀ W H σ δ)(q:RE X.K xw W H (LH op fa fq δ) Q)(h:∀ H2 d l v ad kvs,Same H H2->HasT X.K W H2 d v->Rd H2 ad (.dK kvs)->HasP X.K W H2 l kvs->RE X.K xw W H2 (op d l) Q->R v (.ref ad) H2):
  RX X.K xw fa σ H λx H1=>tDQ X.K xw fq σ H1 λy H2=>R x y H2:=by
 refine⟨W₀,H₀,W,δ,st,?_⟩
 unfold LH at q
 cases h1:fa δ with
 |stuck=>rw[h1]at q;exact q
 |ex c fs=>rw[h1]at q;exact q
 |ok d=>
  rw[h1]at q
  intro v H1 k1 hv
  refine⟨W₀,H₀,W,δ,st.same k1,?_⟩
  have q':RE X.K xw W H ((fq δ).bind λl=>op d l) Q:=q
  cases h2:fq δ with
  |stuck=>rw[h2]at q';exact q'
  |ex c fs=>rw[h2]at q';exact λH2 k2=>q' H2 (k1.trans k2)
  |ok l=>
   rw[h2]at q'
   intro ad kvs H2 k2 hd hp
   exact h H2 d l v ad kvs (k1.trans k2) (hv.same k2 (st.fr.wl.same k1)) hd hp (RE.same q' (k1.trans k2))
theorem Wv(h:HasP K W H l kvs)(k:Cb):(Cc kvs k).isSome=(Cc l k).isSome:=by
 rw[<-Jj,<-Jj,h.has k]
theorem FU{v:V}(hv:HasT X.K W H d v)(hd:Rd H ad (.dK kvs))(hp:HasP X.K W H l kvs)(q:RE X.K xw W H (Rw d l) Q):
  ∃ ad' kvs' k,V.ref ad=.ref ad'/\Rd H ad' (.dK kvs')/\v=kV k/\Q (.bl (Cc kvs' k).isSome) H:=by
 unfold Rw at q
 split at q
 .rename_i k hk
  exact⟨ad,kvs,k,rfl,hd,Aj hv hk,by rw[Wv hp k];exact q.bl⟩
 .exact q.elim
theorem JO{v:V}(hv:HasT X.K W H d v)(hd:Rd H ad (.dK kvs))(hp:HasP X.K W H l kvs)(q:RE X.K xw W H (Nv d l) Q):
  ∃ ad' kvs' k,V.ref ad=.ref ad'/\Rd H ad' (.dK kvs')/\v=kV k/\Q (.bl (!(Cc kvs' k).isSome)) H:=by
 unfold Nv at q
 split at q
 .rename_i k hk
  exact⟨ad,kvs,k,rfl,hd,Aj hv hk,by rw[Wv hp k];exact q.bl⟩
 .exact q.elim
theorem JR(ha:XP X xw a fa)(hb:XQ X xw b fq)(hm:behindInMarks .In b=false:=by rfl):XT X xw (.Compare a [.In] [b] pos) (tR (LH Rw fa fq)):=
 ⟨DE.t_of (f:=LH Rw fa fq) (PT.weak (Eo S3 ha.h hb.h hm) λσ H Q ⟨W₀,H₀,W,δ,st,q⟩=>Ez st q λH2 d l v ad kvs k hv hd hp q2=>FU hv hd hp q2)⟩
theorem E6(ha:XP X xw a fa)(hb:XQ X xw b fq)(hm:behindInMarks .NotIn b=false:=by rfl):XT X xw (.Compare a [.NotIn] [b] pos) (tR (LH Nv fa fq)):=
 ⟨DE.t_of (f:=LH Nv fa fq) (PT.weak (Eo UV ha.h hb.h hm) λσ H Q ⟨W₀,H₀,W,δ,st,q⟩=>Ez st q λH2 d l v ad kvs k hv hd hp q2=>JO hv hd hp q2)⟩
structure FunD(K:Frag)(x qual:Str)(st:Stmt)(f:Addr)(fd:FuncData)(dV:Value):Prop where
 ex:∃ (oc:Value) (od:Option Addr) (kV doc pm:Value) (an:Option Addr) (cdv ct:Value) (osl:Array (Option Value)),
  fd=fnOf x qual (Nb st) (Fb st) (Da st) dV kV doc pm an cdv ct/\K.lookup f=some ⟨oc,od,.func fd,osl⟩/\codeIn K cdv qual=true
 kp:keepIn K (.ref f)=true
section
variable {mg:Str->Option Value}{base:Heap}
end
section
variable {p:Pos}
end
structure FnL(P:Program)(w:World)(K:Frag)(mg:Str->Option Value)(base:Heap)(k:Nat)(x:Str)(n:Nat)(m:List D->Res D)(i:Int):Prop where
 ex:∃ (fa:Addr) (fd:FuncData) (ps:List Str) (v0:Value),FnOk P w K mg base Po k fa fd ps (O6 K n m)/\mg x=some (.ref fa)/\keepIn K (.ref fa)=true/\Binds K fd ps [v0]/\RelV (.int i) v0
end L3
namespace PySem
open Sem (wp)
def D2(o o':Obj):Prop:=o'.dict=o.dict/\∀ vs,o.data=.fields vs->∃ vs',o'.data=.fields vs'/\vs'[2]? =vs[2]?
theorem D2.refl(o:Obj):D2 o o:=⟨rfl,λvs e=>⟨vs,e,rfl⟩⟩
theorem D2.trans{a b c:Obj}(x:D2 a b)(y:D2 b c):D2 a c:=⟨y.1.trans x.1,λvs e=>by
 obtain⟨v1,e1,q1⟩:=x.2 vs e
 obtain⟨v2,e2,q2⟩:=y.2 v1 e1
 exact⟨v2,e2,q2.trans q1⟩⟩
def DK(h h':Heap):Prop:=∀ b o,h.get? b=some o->∃ o',h'.get? b=some o'/\D2 o o'
theorem DK.refl(h:Heap):DK h h:=λ_ o e=>⟨o,e,D2.refl o⟩
theorem DK.trans{h1 h2 h3:Heap}(x:DK h1 h2)(y:DK h2 h3):DK h1 h3:=λb o e=>
 let ⟨o1,e1,d1⟩:=x b o e
 let ⟨o2,e2,d2⟩:=y b o1 e1
 ⟨o2,e2,d1.trans d2⟩
theorem DK.push(h:Heap)(o:Obj):DK h (h.push o):=λb u e=>⟨u,get?_push_of_some o e,D2.refl u⟩
theorem DK.upd(h:Heap)(a:Addr)(f:Obj->Obj)(hd:∀ o,h.get? a=some o->D2 o (f o))(hf:∀ o,h.get? a=some o->(f o).isFreed=false):DK h (h.update a f):=λb u e=>by
 by_cases hb:a=b
 .subst hb
  exact⟨f u,get?_update_self f e (hf u e),hd u e⟩
 .exact⟨u,(get?_update_other h f hb).trans e,D2.refl u⟩
structure KeepD{α:Type}(t:Sem α):Prop where
 out:∀ (M:Model) (Γ:Ctx) (P:α->Pos->Shared->Prop) (Ee:Value->Pos->Shared->Prop) (p:Pos) (s:Shared),wp M Γ t P Ee p s->wp M Γ t (λa p' s'=>P a p' s'/\DK s.heap s'.heap) Ee p s
namespace KeepD
variable {α β:Type}
theorem now(a:α):KeepD (Pure.pure a:Sem α):=⟨λ_ _ _ _ _ _ h=>⟨h,DK.refl _⟩⟩
theorem off(w:String):KeepD (PySem.unsupported w:Sem α):=⟨λ_ _ _ _ _ _ h=>h⟩
theorem seq{m:Sem α}{f:α->Sem β}(hm:KeepD m)(hf:∀ a,KeepD (f a)):KeepD (m >>= f):=⟨λM Γ P Ee p s h=>by
 rw[Sem.wp_bind']at h ⊢
 refine Sem.wp_mono M Γ m (λa p1 s1 h1=>?_) (λ_ _ _ x=>x) p s (hm.out M Γ _ Ee p s h)
 exact Sem.wp_mono M Γ (f a) (λb p2 s2 h2=>⟨h2.1,h1.2.trans h2.2⟩) (λ_ _ _ x=>x) p1 s1 ((hf a).out M Γ P Ee p1 s1 h1.1)⟩
theorem cond{c:Prop}[Decidable c]{t u:Sem α}(ht:KeepD t)(hu:KeepD u):KeepD (if c then t else u):=by split<;>assumption
theorem ld(a:Addr):KeepD (PySem.load a):=⟨λM Γ P Ee p s h=>by
 unfold PySem.load at h ⊢
 rw[Sem.wp_load]at h ⊢
 obtain⟨o,e,q⟩:=h
 rw[Sem.wp_pure]at q
 exact⟨o,e,by rw[Sem.wp_pure];exact⟨q,DK.refl _⟩⟩⟩
theorem up(a:Addr)(f:Obj->Obj)(hd:∀ o,(f o).dict=o.dict)(he:∀ o,(f o).data=o.data):KeepD (PySem.update a f):=⟨λM Γ P Ee p s h=>by
 unfold PySem.update at h ⊢
 rw[Sem.wp_update]at h ⊢
 obtain⟨e,q⟩:=h
 rw[Sem.wp_pure]at q
 refine⟨e,?_⟩
 rw[Sem.wp_pure]
 refine⟨q,DK.upd _ _ _ (λo _=>⟨hd o,λvs e=>⟨vs,(he o).trans e,rfl⟩⟩) λo ho=>?_⟩
 have al:=((Heap.get?_eq_some _ _ _).1 ho).2
 have h1:=he o
 revert h1
 generalize f o=u
 intro h1
 obtain⟨c1,d1,t1,s1⟩:=u
 obtain⟨c2,d2,t2,s2⟩:=o
 dsimp only at h1
 subst h1
 cases t1<;>first|rfl|cases al⟩
theorem stk:KeepD PySem.stack:=⟨λM Γ P Ee p s h=>by
 unfold PySem.stack at h ⊢
 rw[Sem.wp_stack]at h ⊢
 rw[Sem.wp_pure]at h ⊢
 exact⟨h,DK.refl _⟩⟩
theorem new(o:Obj):KeepD (PySem.alloc o):=⟨λM Γ P Ee p s h=>by
 unfold PySem.alloc at h ⊢
 rw[Sem.wp_alloc,Sem.wp_pure]at h ⊢
 exact⟨h,DK.push _ _⟩⟩
theorem fld(v:Value)(i:Nat):KeepD (PySem.field v i):=⟨λM Γ P Ee p s h=>by
 rw[wp_field_iff]at h ⊢
 obtain⟨a,o,vs,x,e1,e2,e3,e4,q⟩:=h
 exact⟨a,o,vs,x,e1,e2,e3,e4,q,DK.refl _⟩⟩
theorem put(v:Value)(i:Nat)(x:Value)(hi:i≠2):KeepD (PySem.setField v i x):=⟨λM Γ P Ee p s h=>by
 rw[wp_setField_iff]at h ⊢
 obtain⟨a,o,vs,e1,e2,e3,e4,q⟩:=h
 refine⟨a,o,vs,e1,e2,e3,e4,q,DK.upd _ _ _ (λu hu=>⟨?_,λws ew=>⟨_,Obj.data_mapFields ew _,?_⟩⟩) λu hu=>?_⟩
 .unfold Obj.mapFields;split<;>rfl
 .exact Array.getElem?_setIfInBounds_ne hi
 .rw[e2]at hu;cases hu
  exact Obj.isFreed_of_fields (Obj.data_mapFields e3 _)⟩
end KeepD
local macro_rules| `(tactic| walk_at "keepd")=> `(tactic| repeat' with_reducible first
  |assumption
  |exact KeepD.now _
  |exact KeepD.off _
  |exact KeepD.fld _ _
  |exact KeepD.put _ _ _ (by decide)
  |exact KeepD.ld _
  |exact KeepD.stk
  |exact KeepD.new _
  |exact KeepD.up _ _ (λ_=>rfl) (λ_=>rfl)
  |apply KeepD.cond
  |apply KeepD.seq
  |intro _
  |split)
theorem N2(env:Env)(outer:List Env):KeepD (behindIsImport env outer):=by
 unfold behindIsImport
 walk_at "keepd"
theorem QI:KeepD underTheClaimsCaller:=by
 unfold underTheClaimsCaller
 walk_at "keepd"
theorem MU(env:Env)(i:Bool)(l:List Env):KeepD (keptBack env i l):=by
 have:=QI
 cases l<;>unfold keptBack<;>walk_at "keepd"
theorem Oz:∀ l:List Env,KeepD (readyFrames l)
 | []=>KeepD.now _
 |env::outer=>by
  have r:=Oz outer
  have a:=N2 env outer
  have b:=λi=>MU env i outer
  unfold readyFrames
  walk_at "keepd"
  all_goals first|exact b _|skip
theorem KN(l:List Env):KeepD (frameObject l):=by
 cases l with
 |nil=>exact KeepD.now _
 |cons env outer=>
  have r:=Oz (env::outer)
  unfold frameObject
  walk_at "keepd"
theorem W7(env:Env):KeepD (frameOf env):=by
 have a:KeepD frameEnvs:=by unfold frameEnvs;walk_at "keepd"
 have b:=KN
 unfold frameOf
 walk_at "keepd"
 all_goals first|exact b _|skip
theorem MN(f:Addr)(b:Bool):KeepD (entryPlaceOf f b):=by
 unfold entryPlaceOf
 walk_at "keepd"
theorem JN(a b c d e:Value)(l:List Value):KeepD (EntryCells.newEntry a b c d e l):=by
 unfold EntryCells.newEntry newFields newObj newObjAsIs
 dsimp only
 walk_at "keepd"
theorem Tw(e:Value)(env:Env):KeepD (noteFrame e env):=by
 have a:=W7 env
 have b:=MN
 have c:=JN
 unfold noteFrame
 walk_at "keepd"
 all_goals first|exact b _ _|exact c _ _ _ _ _ _|skip
theorem Zi(e:Value)(f:Option Addr):KeepD (setFlight e f):=by
 unfold setFlight
 walk_at "keepd"
theorem Nz(env:Env)(e:Value):KeepD (leaving env e):=by
 have a:=Tw e env
 have b:=Zi e none
 unfold leaving
 walk_at "keepd"
variable{α:Type}{M:Model}{A:Around}{E:Value->Shared->Prop}{s:Shared}
theorem KeepD.anyK{t:Sem α}(k:KeepD t){Q:α->Shared->Prop}(h:wpAny M A t Q E s):wpAny M A t (λv s'=>Q v s'/\DK s.heap s'.heap) E s:=
 λΓ p hΓ=>k.out M Γ _ _ p s (h Γ p hΓ)
theorem KeepD.thn{t:Sem α}(k:KeepD t){Q Q':α->Shared->Prop}(h:wpAny M A t Q E s)(g:∀ v s',Q v s'->DK s.heap s'.heap->Q' v s'):wpAny M A t Q' E s:=
 wpAny_mono (KeepD.anyK k h) (λv s' q=>g v s' q.1 q.2) λ_ _ z=>z
end PySem
namespace L3
open PySem PySem.Spec PyProof.Rows L2 SeqAt
def DcOk(dx:Dx)(o:Obj):Prop:=o.dict=dx.1/\(dx.2=true->∃ vs,o.data=.fields vs/\vs[2]? =some .none)
variable{dx:Dx}{o:Obj}
theorem DcOk.to{o':Obj}(h:DcOk dx o)(d:D2 o o'):DcOk dx o':=⟨d.1.trans h.1,λz=>by
 obtain⟨vs,e,q⟩:=h.2 z
 obtain⟨vs',e',q'⟩:=d.2 vs e
 exact⟨vs',e',q'.trans q⟩⟩
structure Fly(P:Program)(w:World)(l:List Env)(H:Hp)(s:Shared)(H':Hp)(a:Addr)(cls:Value)(dx:Dx)(h:Heap):Prop where
 un:Un (He l) [] H H' s.heap h
 hok:HOk P w H' h
 frf:∀ b∈He l,H' b=none
 new:s.heap.get? a=none
 nh:H' a=none
 dc:∃ o,h.get? a=some o/\DcOk dx o
 fl:∃ B a0,FlyingW B l a cls a0 h/\∀ b,b∉He l->((H' b).isSome=true\/(s.heap.get? b).isSome=true)->(B.get? b).isSome=true
variable{P:Program}{w:World}{H:Hp}{a:Addr}
theorem Zw{h:Heap}{o:HO}(x:ObjOk P w H h a o):∃ u,h.get? a=some u:=by
 induction o with
 |lst xs=>obtain⟨_,_,_,_,e⟩:=x;exact⟨_,e⟩
 |tup xs=>obtain⟨_,_,_,ob,e,_⟩:=x;exact⟨_,e⟩
 |dK kvs=>obtain⟨_,_,_,_,ob,_,_,e,_⟩:=x;exact⟨_,e⟩
 |dT kvs=>obtain⟨_,_,_,_,ob,_,_,e,_⟩:=x;exact⟨_,e⟩
 |set S n=>obtain⟨ob,_,_,_,e,_⟩:=x;exact⟨_,e⟩
 |ins C dx fs=>obtain⟨_,_,_,e,_⟩:=x;exact⟨_,e⟩
 |own y=>exact x
 |xd fs=>obtain⟨_,⟨_,_,_,e,_⟩,_⟩:=x;exact⟨_,e⟩
 |rng lo hi=>obtain⟨_,_,_,e⟩:=x;exact⟨_,e⟩
 |frz ob u ih=>obtain⟨e,_⟩:=x;exact⟨_,e⟩
 |tbl ps=>exact⟨_,x⟩
 |met f y=>exact⟨_,x⟩
 |ext φ=>exact x.2.1
variable{H':Hp}{s:Shared}{cls a0:Value}{h' B:Heap}{b:Addr}
section
variable {l:List Env}{h:Heap}
theorem Ti(cov:∀ b,b∉He l->((H' b).isSome=true\/(s.heap.get? b).isSome=true)->(B.get? b).isSome=true)(s1:B.StaysIn h)(s2:B.StaysIn h')(hb:b∉He l)(q:(H' b).isSome=true\/(s.heap.get? b).isSome=true):h'.get? b=h.get? b:=by
 obtain⟨o,e⟩:=isSome_iff_exists.mp (cov b hb q)
 rw[s1 b o e,s2 b o e]
theorem Xl(f:FlyingW B l a cls a0 h)(up:h.UpToSlots h')(hb:b∈He l)(e:h.get? b=some o):∃ sl,h'.get? b=some {o with slots:=sl}:=by
 obtain⟨_,o',e',nf⟩:=f.2.2.1.mem hb
 rw[e]at e'
 cases e'
 exact up b o e nf
theorem N1(un:Un (He l) [] H H' s.heap h)(cov:∀ b,b∉He l->((H' b).isSome=true\/(s.heap.get? b).isSome=true)->(B.get? b).isSome=true)(f:FlyingW B l a cls a0 h)(s2:B.StaysIn h')(up:h.UpToSlots h'):Un (He l) [] H H' s.heap h' where
 keep:=λb o e n hb hx=>(Ti cov f.1 s2 hb (.inr (by rw[e];rfl))).trans (un.keep b o e n hb hx)
 slot:=λb o e n hb hx=>by
  obtain⟨sl,e1⟩:=un.slot b o e n hb hx
  obtain⟨sl',e2⟩:=Xl f up hb e1
  exact⟨sl',e2⟩
 free:=un.free
 there:=λb o e hx=>by
  obtain⟨o',e1⟩:=un.there b o e hx
  by_cases hb:b∈He l
  .obtain⟨sl,e2⟩:=Xl f up hb e1
   exact⟨_,e2⟩
  .exact⟨o',(Ti cov f.1 s2 hb (.inr (by rw[e];rfl))).trans e1⟩
 tups:=un.tups
 frzs:=un.frzs
 tbls:=un.tbls
theorem GF(hok:HOk P w H' h)(frf:∀ b∈He l,H' b=none)(cov:∀ b,b∉He l->((H' b).isSome=true\/(s.heap.get? b).isSome=true)->(B.get? b).isSome=true)(s1:B.StaysIn h)(s2:B.StaysIn h'):HOk P w H' h':=λb u e=>by
 have tr:∀ c v,H' c=some v->c∉He l:=λc v q z=>by rw[frf c z]at q;cases q
 refine(hok b u e).stay (λc v hc q=>?_) (λ_ q=>q) λ_ _ q=>q
 rcases hc with rfl|hc
 .exact(Ti cov s1 s2 (tr c u e) (.inl (by rw[e];rfl))).trans q
 .exact(Ti cov s1 s2 (tr c _ hc) (.inl (by rw[hc];rfl))).trans q
end
def FB(P:Program)(w:World):Zv:=λl H s E e s'=>∃ a cls dx H',e=.ref a/\s'.os=s.os/\AllBare s'.gens/\Fly P w l H s H' a cls dx s'.heap/\E cls dx H'
variable{X:Cx}{pins:List (Addr×Obj)}{σ:L2.St}{s':Shared}{M:Model}{Ex:Value->Shared->Prop}{E:XK}{Q:Unit->Shared->Prop}
theorem Ui(hst:X.stack=X.env::X.outer)(hfr:X.env.frame=some X.env.locals):He X.stack=X.env.locals::He X.outer:=by
 rw[hst];unfold He;rw[filterMap_cons,hfr]
theorem Bm(I:Inv X pins σ H s)(os:s'.os=s.os)(bare:AllBare s'.gens)(x:Fly X.prog X.w X.stack H s H' a cls dx s'.heap):Inv X pins σ H' s':=
 I.call' (ch:= []) os x.un x.hok bare λb z=>absurd z (by simp)
theorem O1(I:Inv X pins σ H s)(hex:X.ex= [])(hst:X.stack=X.env::X.outer)(hfr:X.env.frame=some X.env.locals)(os:s'.os=s.os)(bare:AllBare s'.gens)(x:Fly X.prog X.w X.stack H s H' a cls dx s'.heap)(hE:E cls dx H')(hQ:∀ s'',FB X.prog X.w X.outer X.H₀ X.s₀ E (.ref a) s''->Q () s''):wpAny M X.A (leaving X.env (.ref a)) Q Ex s':=by
 have I':=Bm I os bare x
 obtain⟨B,a0,f,cov⟩:=x.fl
 have es:=Ui hst hfr
 have noex:∀ b,b∉X.ex:=λb=>by rw[hex];simp
 have f2:FlyingW B (X.env::X.outer) a cls a0 s'.heap:=by rw[<-hst];exact f
 have nl:∀ b,b∉He X.outer->((H' b).isSome=true\/(X.s₀.heap.get? b).isSome=true)->b∉He X.stack:=λb hb h z=>by
  rw[es]at z
  rcases mem_cons.mp z with z|z
  .rw[z]at h
   rcases h with h|h
   .rw[I'.free]at h;cases h
   .obtain⟨o,e⟩:=isSome_iff_exists.mp h
    exact absurd (lt_of_lt_of_le (lt_size e) I.ok.above) (lt_irrefl _)
  .exact hb z
 have old:∀ b,((H' b).isSome=true\/(X.s₀.heap.get? b).isSome=true)->((H' b).isSome=true\/(s.heap.get? b).isSome=true):=λb h=>by
  rcases h with h|h
  .exact .inl h
  .obtain⟨o,e⟩:=isSome_iff_exists.mp h
   obtain⟨o',e'⟩:=I.base.there b o e (noex b)
   exact .inr (by rw[e'];rfl)
 refine(Nz X.env (.ref a)).thn (Q:=λ_ s''=>∃ h',s''= {s' with heap:=h'}/\FlyingW B X.outer a cls a0 h'/\s'.heap.UpToSlots h') (wpAny_leaves_onW (by rw[<-hst];exact I.ok.frames) hfr f2 λh' f' up=>⟨h',rfl,f',up⟩) λ_ s'' ⟨h',e'',f',up⟩ dk=>?_
 subst e''
 obtain⟨od,ed,dd⟩:=x.dc
 obtain⟨od',ed',dd'⟩:=dk a od ed
 refine hQ _ ⟨a,cls,dx,H',rfl,?_,bare,⟨⟨λb o e n hb hx=>?_,λb o e n hb hx=>?_,λb o e n hx=>I'.base.free b o e n (noex b),λb o e hx=>?_,I'.base.tups,I'.base.frzs,I'.base.tbls⟩,?_,λb hb=>x.frf b (by rw[es];exact mem_cons_of_mem _ hb),?_,x.nh,⟨od',ed',dd.to dd'⟩,B,a0,f',λb hb h=>cov b (nl b hb h) (old b h)⟩,hE⟩
 .exact os.trans I.os
 .exact(Ti cov f.1 f'.1 (nl b hb (.inr (by rw[e];rfl))) (old b (.inr (by rw[e];rfl)))).trans (I'.base.keep b o e n hb (noex b))
 .obtain⟨sl,e1⟩:=I'.base.slot b o e n hb (noex b)
  obtain⟨sl',e2⟩:=Xl f up (by rw[es];exact mem_cons_of_mem _ hb) e1
  exact⟨sl',e2⟩
 .obtain⟨o',e1⟩:=I'.base.there b o e (noex b)
  by_cases hb:b∈He X.outer
  .obtain⟨sl,e2⟩:=Xl f up (by rw[es];exact mem_cons_of_mem _ hb) e1
   exact⟨_,e2⟩
  .exact⟨o',(Ti cov f.1 f'.1 (nl b hb (.inr (by rw[e];rfl))) (old b (.inr (by rw[e];rfl)))).trans e1⟩
 .exact GF x.hok x.frf cov f.1 f'.1
 .cases q:X.s₀.heap.get? a with
  |none=>rfl
  |some o=>
   obtain⟨o',e'⟩:=I.base.there a o q (noex a)
   have:=x.new
   rw[e']at this;cases this
def spX(K:Frag)(n:Nat)(m:List D->Res D):Sp:=λvs H Q E=>vs.length=n/\∃ W ds,WL W H/\HasL K W H ds vs/\match m ds with
 | .ok d=>∀ v H',Same H H'->Has K W H' d v->Q v H'
 | .ex c fs=>∀ cls dx H',nsIn K mainGlobals c=some (some cls)->Same H H'->ExF H' dx fs->E cls dx H'
 | .stuck=>False
structure FnX(P:Program)(w:World)(K:Frag)(mg:Str->Option Value)(base:Heap)(k:Nat)(x:Str)(n:Nat)(m:List D->Res D):Prop where
 ex:∃ f fd ps,FnOk P w K mg base (FB P w) k f fd ps (spX K n m)/\mg x=some (.ref f)/\keepIn K (.ref f)=true/\Binds K fd ps []
variable{K:Frag}{mg:Str->Option Value}{base:Heap}{k n:Nat}{x:Str}{m:List D->Res D}
theorem FnX.mono{j:Nat}(F:FnX P w K mg base j x n m)(h:j<=k):FnX P w K mg base k x n m:=by
 obtain⟨f,fd,ps,a,b⟩:=F.ex
 exact⟨f,fd,ps,a.mono h,b⟩
structure FnXL(P:Program)(w:World)(K:Frag)(mg:Str->Option Value)(base:Heap)(k:Nat)(x:Str)(n:Nat)(m:List D->Res D)(i:Int):Prop where
 ex:∃ (fa:Addr) (fd:FuncData) (ps:List Str) (v0:Value),FnOk P w K mg base (FB P w) k fa fd ps (spX K n m)/\mg x=some (.ref fa)/\keepIn K (.ref fa)=true/\Binds K fd ps [v0]/\RelV (.int i) v0
def Ip(n:Nat)(g:Ca->Out)(ds:List D):Res D:=match g (Ob n ds) with
 | .rt d=>.ok d
 | .nx _=>.ok .non
 | .ex c fs=>.ex c fs
 |_=>.stuck
def P6(K:Frag)(E:XK):XW:=λc fs H'=>∀ cls dx,nsIn K mainGlobals c=some (some cls)->ExF H' dx fs->E cls dx H'
def xwE(K:Frag)(xw:XW):XK:=λcls dx H'=>∃ c fs,nsIn K mainGlobals c=some (some cls)/\xw c fs H'/\ExF H' dx fs
def Fy(X:Cx)(xw:XW):Prop:=Xm (FB X.prog X.w) X (xwE X.K xw)
variable{qual:Str}{f fa:Addr}{A:Around}{H₀:Hp}{st:Stmt}{fd:FuncData}{ps:List Str}{g:Ca->Out}
theorem Bo{N:List Str}{scope:Scope}{cd:Value}{outer:List Env}{s₀:Shared}:Fy (Kk (FB P w) P w K mg base N qual scope f cd A outer s₀ H₀ E) (P6 K E):=by
 intro pins σ H s e s' I h
 obtain⟨a,cls,dx,H',rfl,os,bare,x,c,fs,hn,q,xf⟩:=h
 exact O1 I rfl rfl rfl os bare x (q cls dx hn xf) λs'' z=>z
theorem OZ{N:List Str}{dV oc:Value}{od:Option Addr}{kV doc pm:Value}{an:Option Addr}{cdv ct:Value}{osl:Array (Option Value)}(hf:fd=fnOf x qual (Nb st) (Fb st) (Da st) dV kV doc pm an cdv ct)(lk:K.lookup fa=some ⟨oc,od,.func fd,osl⟩)(hcd:codeIn K cdv qual=true)(S:FnScope N ps (Da st))(body:∀ (cdv:Value) (A:Around) (outer:List Env) (s:Shared) (H:Hp) (E:XK),Room k (A.deeper (envOfC qual (Da st) s.heap.objs.size fa cdv))->
   XSs (Kk (FB P w) P w K mg base N qual (Da st) fa cdv A outer s H E) (P6 K E) (Fb st) g):FnOk P w K mg base (FB P w) (k+1) fa fd ps (spX K ps.length (Ip N.length g)):=by
 subst hf
 refine CM lk hcd S (λvs H Q E h=>h.1) λA outer s H vs Q E hr hsp=>?_
 obtain⟨hl,W,ds,hw,hd,q⟩:=hsp
 refine⟨_,(body cdv A outer s H E hr).h,W,H,W,Ob N.length ds,Ij hw hd,?_⟩
 unfold Ip at q
 cases h:g (Ob N.length ds) with
 |rt d=>rw[h]at q;exact λv H' k hv=>q v H' k hv
 |nx δ=>rw[h]at q;exact λW' H' σ' k st'=>q .non H' st'.fr.ext (by rw[Has])
 |bk δ=>rw[h]at q;exact q.elim
 |ct δ=>rw[h]at q;exact q.elim
 |ex c fs=>rw[h]at q;exact λH' k cls dx hn xf=>q cls dx H' hn k xf
 |stuck=>rw[h]at q;exact q.elim
theorem Tq{N:List Str}(F:Fun K x qual st fa fd)(S:FnScope N ps (Da st))(hm:mg x=some (.ref fa))(hb:Binds K fd ps [])(body:∀ (cdv:Value) (A:Around) (outer:List Env) (s:Shared) (H:Hp) (E:XK),Room k (A.deeper (envOfC qual (Da st) s.heap.objs.size fa cdv))->
   XSs (Kk (FB P w) P w K mg base N qual (Da st) fa cdv A outer s H E) (P6 K E) (Fb st) g):FnX P w K mg base (k+1) x ps.length (Ip N.length g):=by
 obtain⟨oc,od,kV,doc,pm,an,cdv,ct,osl,hf,lk,hcd⟩:=F.ex
 exact⟨fa,fd,ps,OZ hf lk hcd S body,hm,F.kp,hb⟩
def BG:Out->Out
 | .ex _ _=>.stuck
 |o=>o
variable{a e:Expr}{xw:XW}{es:List Expr}{pos:Pos}
section
variable {f:Ca->Res D}{ga:Ca->Res Bool}{fs:Ca->Res (List D)}{p:Pos}{sts:List Stmt}
theorem PS.nox{st:Stmt}{t:TS}(h:PS X.nox st t):PS X st t:=λpins s σ H D I hw=>
 wpAny_mono (h pins s σ H D (I.wish _) hw) (λ_ _ q=>q.unwish) λ_ _ z=>False.elim z
theorem PA.nox{t:TA}(h:PA X.nox es t):PA X es t:=λps pins s σ H Q I hw=>
 wpAny_mono (h ps pins s σ H Q (I.wish _) hw) (λ_ _ ⟨v,H',I',r,q⟩=>⟨v,H',I'.unwish,r,q⟩) λ_ _ z=>False.elim z
def Nf(f:Ca->Res (List D)):Ca->Res (List D):=λδ=>noex (f δ)
def GV(f:Ca->Res Bool):Ca->Res Bool:=λδ=>noex (f δ)
def Vh(g:Ca->Out):Ca->Out:=λδ=>BG (g δ)
theorem GZ(h:XE X.nox Ql e f):XE X xw e (λδ=>noex (f δ)):=⟨PE.weak (PE.nox h.h) λσ H Q ⟨W₀,H₀,W,δ,st,q⟩=>⟨W₀,H₀,W,δ,st,by
 have q:RE X.K xw W H (noex (f δ)) Q:=q
 cases hq:f δ with
 |ok d=>rw[hq]at q;exact q
 |ex c fs=>rw[hq]at q;exact q.elim
 |stuck=>rw[hq]at q;exact q.elim⟩⟩
theorem Y9(h:XT X.nox Ql e ga):XT X xw e (GV ga):=⟨PT.weak (PT.nox h.h) λσ H Q ⟨W₀,H₀,W,δ,st,q⟩=>⟨W₀,H₀,W,δ,st,by
 have q:RT xw H (noex (ga δ)) Q:=q
 cases hq:ga δ with
 |ok d=>rw[hq]at q;exact q
 |ex c fs=>rw[hq]at q;exact q.elim
 |stuck=>rw[hq]at q;exact q.elim⟩⟩
theorem Gy(h:XA X.nox Ql es fs):XA X xw es (Nf fs):=⟨PA.weak (PA.nox h.h) λσ H Q ⟨W₀,H₀,W,δ,st,q⟩=>⟨W₀,H₀,W,δ,st,by
 have q:RA X.K xw W H (noex (fs δ)) Q:=q
 cases hq:fs δ with
 |ok d=>rw[hq]at q;exact q
 |ex c gs=>rw[hq]at q;exact q.elim
 |stuck=>rw[hq]at q;exact q.elim⟩⟩
theorem Fq(h:XS X.nox Ql st g):XS X xw st (Vh g):=⟨PS.weak (PS.nox h.h) λDn σ H ⟨W₀,H₀,W,δ,st,q⟩=>⟨W₀,H₀,W,δ,st,by
 have q:RS X.K xw W₀ H₀ W H (BG (g δ)) Dn:=q
 cases hq:g δ with
 |ex c fs=>rw[hq]at q;exact q.elim
 |_=>rw[hq]at q;exact q⟩⟩
def Kc(n:Nat)(m:List D->Res D)(ds:List D):Res D:=if ds.length=n then m ds else .stuck
theorem By(F:FnX X.prog X.w X.K X.mg X.base k x n m)(hp:Fy X xw)(hr:Room k X.A)(ha:XA X xw (a::es) fs)(hg:Gl X x:=by rfl)(hdb:(x==("__debug__":Str))=false:=by decide)(he:starEach (a::es) X.env=(false,eval a X.env)::starEach es X.env:=by rfl)(hpl:(backTo pos (starEach es X.env)).any (·.1)=false:=by rfl):
  XE X xw (.Call (.Name x p) (a::es) [] pos) (b1 (Kc n m) fs):=⟨by
 obtain⟨fa,fd,ps,G,hm,hk,hb⟩:=F.ex
 refine PE.weak (Co G hr hg hm hk hb .nil hp ha.h hdb he hpl) λσ H Q ⟨W₀,H₀,W,δ,st,q⟩=>?_
 refine Dh st q λH2 ds vs k w st2 hv _ q2=>?_
 unfold Kc at q2
 split at q2
 .rename_i hn
  rw[append_nil]
  refine⟨by rw[<-hv.length];exact hn,W,ds,w,hv,?_⟩
  cases h:m ds with
  |ok d=>rw[h]at q2;exact q2
  |ex c fs=>rw[h]at q2;exact λcls dx H' hn' k' xf=>⟨c,fs,hn',q2 H' k',xf⟩
  |stuck=>rw[h]at q2;exact q2
 .exact q2.elim⟩
end
abbrev bmV:List Value:= [.type "ValueError",.type "Exception",.type "BaseException",.type "object"]
structure ClsX(K:Frag)(c:Str):Prop where
 ex:∃ C,nsIn K mainGlobals c=some (some (.ref C))/\PySem.W.excIn K C bmV "ValueError.__new__"=true
variable{np cpos:Pos}
section
variable {fs:Ca->Res (List D)}{c:Str}
end
abbrev Fl(X:Cx)(a:Addr):Cx:= {X with A:=X.A.mark (some (.ref a)),calm:=false,xe:=λ_ _=>False}
abbrev BE(X:Cx)(pins:List (Addr×Obj))(E:Value->Shared->Prop):Cx:= {X with pn:=X.pn++pins,xe:=E}
variable{n:Str}{i:Nat}
section
variable {a:Addr}
theorem MV(ok:X.Ok)(a:Addr):(Fl X a).Ok:=
 ⟨ok.mod,ok.kind,ok.glob,ok.blt,ok.above,ok.inj,ok.has,ok.cab,λz=>absurd (show false=true from z) (by decide),ok.frames,ok.stk,ok.exf,ok.bs,ok.bsz,ok.noex,ok.exfs,ok.funs,ok.frf⟩
theorem Jz(I:Inv X pins σ H s)(a:Addr):Inv (Fl X a) pins σ H s:=⟨MV I.ok a,I.os,I.bare,I.base,I.loc,I.cell,I.free,I.freeC,I.pin,I.hok,I.len⟩
theorem Wj(ok:X.Ok)(I:Inv (Fl X a) pins σ H s):Inv X pins σ H s:=⟨ok,I.os,I.bare,I.base,I.loc,I.cell,I.free,I.freeC,I.pin,I.hok,I.len⟩
theorem M3(ok:X.Ok):(BE X pins Ex).Ok:=
 ⟨ok.mod,ok.kind,ok.glob,ok.blt,ok.above,ok.inj,ok.has,ok.cab,ok.hd,ok.frames,ok.stk,ok.exf,ok.bs,ok.bsz,ok.noex,ok.exfs,ok.funs,ok.frf⟩
theorem HU(I:Inv X pins σ H s):Inv (BE X pins Ex) [] σ H s:=⟨M3 I.ok,I.os,I.bare,I.base,I.loc,I.cell,I.free,I.freeC,λp hp=>I.pin p (by simpa using hp),I.hok,I.len⟩
theorem Yi{more:List (Addr×Obj)}(ok:X.Ok)(I:Inv (BE X pins Ex) more σ H s):Inv X pins σ H s:=⟨ok,I.os,I.bare,I.base,I.loc,I.cell,I.free,I.freeC,λp hp=>I.pin p (List.mem_append_left _ hp),I.hok,I.len⟩
theorem Fv{φ:Heap->Prop}(I:Inv X pins σ H s)(I':Inv X pins σ H' s')(hex:X.ex= [])(new:s.heap.get? a=none)(nh:H' a=none)(x:ObjOk X.prog X.w (Jb H' a (.ext φ)) s'.heap a (.ext φ)):Inv X pins σ (Jb H' a (.ext φ)) s':=by
 have ne:∀ b o,s.heap.get? b=some o->b≠a:=λb o e z=>by rw[z,new]at e;cases e
 have ne0:∀ b o,X.s₀.heap.get? b=some o->b≠a:=λb o e=>by
  obtain⟨o',e'⟩:=I.base.there b o e (by rw[hex];simp)
  exact ne b o' e'
 have up:∀ b o,H' b=some o->Jb H' a (.ext φ) b=some o:=λb o e=>by rw[Ha (Pa e nh)];exact e
 refine⟨I'.ok,I'.os,I'.bare,⟨I'.base.keep,I'.base.slot,λb o e n hx=>?_,I'.base.there,λb xs e=>up _ _ (I'.base.tups b xs e),λb o u e=>up _ _ (I'.base.frzs b o u e),λb ps e=>?_⟩,I'.loc,I'.cell,?_,λy c e=>?_,λp hp=>?_,λb u e=>?_,I'.len⟩
 .rw[Ha (ne0 b o e)];exact I'.base.free b o e n hx
 .obtain⟨m,e1⟩:=I'.base.tbls b ps e
  exact⟨m,up _ _ e1⟩
 .obtain⟨m,⟨o,_,_,ho,_⟩,_⟩:=I.loc
  rw[Ha (ne _ o ho)];exact I'.free
 .obtain⟨v,o,ho,_⟩:=I.cell y c e
  rw[Ha (ne c o ho)];exact I'.freeC y c e
 .obtain⟨e,n,r⟩:=I'.pin p hp
  refine⟨e,?_,r⟩
  rw[Ha (ne p.1 _ (I.pin p hp).1)];exact n
 .by_cases hb:b=a
  .subst hb
   rw[Na]at e
   cases e
   exact x
  .rw[Ha hb]at e
   exact(I'.hok b u e).stay (λ_ _ _ q=>q) (λc q=>up _ _ q) λc xs q=>up _ _ q
theorem MI{t:Nat}{v:Option Value}{m:Str->Option Value}(I:Inv X pins σ H s)(hN:X.N.Nodup)(hi:X.N[i]? =some n)(hm:s.heap.Ns X.env.locals m)(hl:∀ (j:Nat) (x:Str) (w:V),X.N[j]? =some x->σ[j]? =some (some w)->Kq X.env.scope x->∃ u,RelV w u/\S6 X.env s.heap m x u)(hn:h'.Ns X.env.locals (λx=>if x=n then v else m x))(hs:SameBut X.env.locals s.heap h'):Inv X pins (σ.set i none) H {s with heap:=h',toks:=t}:=by
 obtain⟨oL,_,_,hoL,_⟩:=id hm
 have cne:=I.cne
 refine⟨I.ok,I.os,I.bare,⟨λb o e n hb hx=>?_,λb o e n hb hx=>?_,I.base.free,λb o e hx=>?_,I.base.tups,I.base.frzs,I.base.tbls⟩,⟨_,hn,λj y w e1 e2 e3=>?_⟩,λy c e=>?_,I.free,I.freeC,λp hp=>?_,λb u e=>?_,by simpa using I.len⟩
 .exact(hs.2 b (ne_of_lt (lt_of_lt_of_le (lt_size e) I.ok.above))).trans (I.base.keep b o e n hb hx)
 .obtain⟨sl,e1⟩:=I.base.slot b o e n hb hx
  exact⟨sl,(hs.2 b (ne_of_lt (lt_of_lt_of_le (lt_size e) I.ok.above))).trans e1⟩
 .obtain⟨o',e1⟩:=I.base.there b o e hx
  exact⟨o',(hs.2 b (ne_of_lt (lt_of_lt_of_le (lt_size e) I.ok.above))).trans e1⟩
 .have hj:j≠i:=by
   rintro rfl
   rw[getElem?_set_self']at e2
   cases q:σ[j]? with
   |none=>rw[q]at e2;cases e2
   |some z=>rw[q]at e2;cases e2
  rw[getElem?_set_ne (Ne.symm hj)]at e2
  obtain⟨u,r,q⟩:=hl j y w e1 e2 e3
  refine⟨u,r,?_⟩
  rcases q with⟨k,e⟩|⟨k,c,e,z⟩
  .have:y≠n:=λe=>hj (Gs hN e1 (e▸hi))
   exact .inl ⟨k,by simp[this,e]⟩
  .exact .inr ⟨k,c,e,z.sameBut hs (cne y c e)⟩
 .obtain⟨w,z⟩:=I.cell y c e
  exact⟨w,z.sameBut hs (cne y c e)⟩
 .obtain⟨e,n,ne,nf,d⟩:=I.pin p hp
  exact⟨(hs.2 p.1 ne).trans e,n,ne,nf,d⟩
 .refine(I.hok b u e).stay (λc w' hc q=>(hs.2 c ?_).trans q) (λ_ q=>q) λ_ _ q=>q
  rintro rfl
  rcases hc with rfl|hc
  .rw[I.free]at e;cases e
  .rw[I.free]at hc;cases hc
theorem Vq(I:Inv X pins σ H s)(hN:X.N.Nodup)(hi:X.N[i]? =some n)(hk:X.env.kindOf n=some .local)(h:∀ s',Inv X pins (σ.set i none) H s'->Q () s'):wpAny M A (do bindName X.env n .none;unbindBehindTheSuite X.env n pos) Q Ex s:=by
 obtain⟨m,hm,hl⟩:=id I.loc
 have hp:(X.env.scope.kind== .class||(X.env.scope.kind== .module&&X.env.locals != X.env.globals))=false:=by rw[I.ok.kind];rfl
 exact wpAny_nameGoes_keeps hk hm hp λh' v hn hs=>h _ (MI I hN hi hm hl hn hs)
end
structure MatchX(K:Frag)(C c:Str):Prop where
 ex:∃ vc vC,nsIn K mainGlobals c=some (some vc)/\nsIn K mainGlobals C=some (some vC)/\exmOne K vc vC=some true
variable{b₀:Stmt}{suite:List Stmt}
section
variable {a:Addr}{vC:Value}{C:Str}{rest:List ExceptHandler}{Q:Flow->Shared->Prop}
theorem Xp{R:Result->Shared->Prop}(I:Inv X pins σ H s)(hst:X.stack=X.env::X.outer)(hfr:X.env.frame=some X.env.locals)(os:s'.os=s.os)(bare:AllBare s'.gens)(x:Fly X.prog X.w X.stack H s H' a cls dx s'.heap)(hC:Gl X C)(hm:nsIn X.K mainGlobals C=some (some vC))(he:exmOne X.K cls vC=some true)(hdb:(C==("__debug__":Str))=false)(k:∀ h',Fly X.prog X.w X.stack H s H' a cls dx h'->R (.ok .brk) {s' with heap:=h'}):
  codeAny (model X.prog X.w) (X.A.mark (some (.ref a))) (.handlers (.ref a) [.ExceptHandler (some (.Name C np)) none [] pos] X.env) R s':=by
 have I':=Jz (Bm I os bare x) a
 refine codeAny_handlers_test (Xj I' hC (mg_of I.ok.mod.kin I.ok.mod.glob hm) ?_ hdb)
 obtain⟨B,a0,f,cov⟩:=x.fl
 obtain⟨ob,hob,hc⟩:=f.there
 have LT:PySem.W.Looks (model X.prog X.w) s'.heap (typeOf (.ref a)) cls:=by
  subst hc
  exact(PySem.W.Looks.ld hob).andThen .now
 exact(PySem.W.exm_one I'.kIn LT he).here (k s'.heap x)
theorem Qr(x:Fly X.prog X.w X.stack H s H' a cls dx s'.heap)(f:FlyingW B X.stack a cls a0 s'.heap)(cov:∀ b,b∉He X.stack->((H' b).isSome=true\/(s.heap.get? b).isSome=true)->(B.get? b).isSome=true)(f':FlyingW B X.stack a cls a0 h')(up:s'.heap.UpToSlots h')(dk:DK s'.heap h'):Fly X.prog X.w X.stack H s H' a cls dx h':=
 ⟨N1 x.un cov f f'.1 up,GF x.hok x.frf cov f.1 f'.1,x.frf,x.new,x.nh,(let ⟨o,e,d⟩:=x.dc;let ⟨o',e',d'⟩:=dk a o e;⟨o',e',d.to d'⟩),B,a0,f',cov⟩
theorem Wp{hs:List ExceptHandler}(I:Inv X pins σ H s)(hst:X.stack=X.env::X.outer)(hfr:X.env.frame=some X.env.locals)(x:Fly X.prog X.w X.stack H s H' a cls dx s'.heap)(k:∀ h',Fly X.prog X.w X.stack H s H' a cls dx h'->wpAny (model X.prog X.w) X.A (handleBy (.ref a) X.env hs) Q Ex {s' with heap:=h'}):
  wpAny (model X.prog X.w) X.A (noteFrame (.ref a) X.env) (λ_ s₂=>wpAny (model X.prog X.w) X.A (setFlight (.ref a) none) (λ_ s₃=>wpAny (model X.prog X.w) X.A (handleBy (.ref a) X.env hs) Q Ex s₃) Ex s₂) Ex s':=by
 obtain⟨B,a0,f,cov⟩:=x.fl
 have f2:FlyingW B (X.env::X.outer) a cls a0 s'.heap:=by rw[<-hst];exact f
 refine(Tw (.ref a) X.env).thn (Q:=λ_ s4=>∃ h₄,s4= {s' with heap:=h₄}/\Heap.HeldW B (X.env::X.outer) a cls a0 X.env.locals h₄/\s'.heap.UpToSlots h₄) (wpAny_looks_onW (by rw[<-hst];exact I.ok.frames) hfr f2 λh₄ held up₄=>⟨h₄,rfl,held,up₄⟩) λ_ s4 ⟨h₄,e4,held,up₄⟩ dk4=>?_
 subst e4
 refine(Zi (.ref a) none).thn (Q:=λ_ s5=>∃ h₅,s5= {s' with heap:=h₅}/\FlyingW B (X.env::X.outer) a cls a0 h₅/\h₄.UpToSlots h₅) (wpAny_landsW held λh₅ f₅ up₅=>⟨h₅,rfl,f₅,up₅⟩) λ_ s5 ⟨h₅,e5,f₅,up₅⟩ dk5=>?_
 subst e5
 exact k h₅ (Qr x f cov (by rw[hst];exact f₅) (up₄.trans up₅) (dk4.trans dk5))
theorem TL{H:Hp}{h:Heap}(x:Sg a cls dx h):ObjOk P w H h a (.ext (Sg a cls dx)):=by
 obtain⟨o,vs,e,hc,hx,hd,hz⟩:=x
 exact⟨⟨o,vs,e,hc,hx,hd,hz⟩,⟨o,e⟩,λh1 h2 ⟨o1,vs1,e1,hc1,hx1,hd1⟩ k=>⟨o1,vs1,k _ e1,hc1,hx1,hd1⟩⟩
theorem FF{h:Heap}(x:Fly X.prog X.w X.stack H s H' a cls dx h):Sg a cls dx h:=by
 obtain⟨B,a0,f,cov⟩:=x.fl
 obtain⟨oe,vs,he,hc,hd,_⟩:=f.first
 obtain⟨od,ed,dd⟩:=x.dc
 rw[he]at ed
 cases ed
 exact⟨oe,vs,he,hc,dd.1,hd,λz=>by
  obtain⟨vs',e',q⟩:=dd.2 z
  rw[hd]at e';cases e'
  exact q⟩
theorem RH{D:Ends}{t:TS}(I:Inv X pins σ H s)(hex:X.ex= [])(hst:X.stack=X.env::X.outer)(hfr:X.env.frame=some X.env.locals)(os:s'.os=s.os)(bare:AllBare s'.gens)(x:Fly X.prog X.w X.stack H s H' a cls dx s'.heap)(hC:Gl X C)(hm:nsIn X.K mainGlobals C=some (some vC))(he:exmOne X.K cls vC=some true)(hdb:(C==("__debug__":Str))=false)(hN:X.N.Nodup)(hi:X.N[i]? =some n)(hk:X.env.kindOf n=some .local)(hsu:∀ a,PSs (Fl X a) (b₀::suite) t)(ht:t {nx:=λσ' H'=>D.nx (σ'.set i none) H',rt:=D.rt,bk:=λσ' H'=>D.bk (σ'.set i none) H',ct:=λσ' H'=>D.ct (σ'.set i none) H'} (σ.set i (some (.ref a))) (Jb H' a (.ext (Sg a cls dx)))):
  wpAny (model X.prog X.w) X.A (noteFrame (.ref a) X.env) (λ_ s₂=>wpAny (model X.prog X.w) X.A (setFlight (.ref a) none) (λ_ s₃=>
   wpAny (model X.prog X.w) X.A (handleBy (.ref a) X.env (.ExceptHandler (some (.Name C np)) (some n) (b₀::suite) pos::rest)) (SP X pins D) Ex s₃) Ex s₂) Ex s':=by
 refine Wp I hst hfr x λh5 x5=>?_
 refine wpAny_handleBy_cons (Xp (s':= {s' with heap:=h5}) I hst hfr os bare x5 hC hm he hdb λh6 x6=>codeAny_handlers_suite_as ?_) (by intro q;cases q)
 obtain⟨B,a0,f,cov⟩:=x6.fl
 refine(Zi (.ref a) none).thn (Q:=λ_ s7=>∃ h7,s7= {s' with heap:=h7}/\FlyingW B X.stack a cls a0 h7/\h6.UpToSlots h7) (lands_againW f λh7 f7 up7=>⟨h7,rfl,f7,up7⟩) λ_ s7 ⟨h7,e7,f7,up7⟩ dk7=>?_
 subst e7
 have x7:=Qr (s':= {s' with heap:=h6}) x6 f cov f7 up7 dk7
 have I7:Inv X pins σ H' {s' with heap:=h7}:=Bm (s':= {s' with heap:=h7}) I os bare x7
 have I8:=Fv I I7 hex x7.new x7.nh (TL (FF x7))
 have hloc:Cy X.env.scope n:=.inl hk
 refine Nl I8 hN hi hloc (v:=.ref a) rfl (λs8 I9=>?_) (.inr hk)
 refine wpAny_mono (hsu a pins _ _ _ _ (Jz I9 a) ht) (λfl s9 q=>?_) λ_ _ z=>False.elim z
 cases fl with
 |next=>obtain⟨σ',H9,J,q⟩:=q;exact Vq (Wj I.ok J) hN hi hk λs10 K=>⟨_,H9,K,q⟩
 |brk=>obtain⟨σ',H9,J,q⟩:=q;exact Vq (Wj I.ok J) hN hi hk λs10 K=>⟨_,H9,K,q⟩
 |cont=>obtain⟨σ',H9,J,q⟩:=q;exact Vq (Wj I.ok J) hN hi hk λs10 K=>⟨_,H9,K,q⟩
 |ret u=>obtain⟨v,σ',H9,J,r,q⟩:=q;exact Vq (Wj I.ok J) hN hi hk λs10 K=>⟨v,_,H9,K,r,q⟩
end
section
variable {CX:Zv}{sp:Sp}{dvs:List V}{ds:List Value}{E:L2.St->XK}{p:Pos}{t:TA}
theorem ZO(F:FnOk X.prog X.w X.K X.mg X.base CX k f fd ps sp)(hr:Room k X.A)(hg:Gl X x)(hm:X.mg x=some (.ref f))(hk:keepIn X.K (.ref f)=true)(hb:Binds X.K fd ps ds)(hd:Vals dvs ds)(hx:∀ (pins:List (Addr×Obj)) (σ:L2.St) (H:Hp) (s:Shared) (e:Value) (s':Shared),Inv X pins σ H s->CX X.stack H s (E σ) e s'->X.xe e s')(ha:PA X (e::es) t)(hdb:(x==("__debug__":Str))=false)(he:starEach (e::es) X.env=(false,eval e X.env)::starEach es X.env)(hpl:(backTo pos (starEach es X.env)).any (·.1)=false):
  PE X (.Call (.Name x p) (e::es) [] pos) (λσ H Q=>t σ H λvs H1=>sp (vs++dvs) H1 Q (E σ)):=by
 intro pins s σ H Q I h
 refine wpAny_Call_Name_kw (Xj I hg hm ?_ hdb)
 refine callWith_K (h₀:=X.base) I.ok.mod.kin hk (thn (ha pos pins s σ H _ I h) λus s1 ⟨vs,H1,I1,r,q⟩=>⟨I1.kIn,?_⟩) he hpl
 have r2:Vals (vs++dvs) (us++ds):=r.append hd
 have hl:(us++ds).length=ps.length:=by rw[<-r2.length];exact F.len _ _ _ _ q
 refine wpAny_call (codeAny_mono (F.run X.A X.stack s1 H1 ⟨us,[]⟩ (us++ds) (vs++dvs) Q (E σ) hr I1.env0 (hb s1 us I1.kIn hl) r2 q) λr s' hq=>?_)
 cases r with
 |error e=>exact hx pins σ H1 s1 e s' I1 hq
 |ok fl=>
  cases fl with
  |ret u=>exact I1.after hq
  |next=>exact False.elim hq
  |brk=>exact False.elim hq
  |cont=>exact False.elim hq
theorem Z3(h:PA X.nox es t):PA (BE X pins Ex) es t:=λq more s σ H Q I hw=>by
 have ok:X.Ok:=⟨I.ok.mod,I.ok.kind,I.ok.glob,I.ok.blt,I.ok.above,I.ok.inj,I.ok.has,I.ok.cab,I.ok.hd,I.ok.frames,I.ok.stk,I.ok.exf,I.ok.bs,I.ok.bsz,I.ok.noex,I.ok.exfs,I.ok.funs,I.ok.frf⟩
 have I':Inv X.nox (pins++more) σ H s:=⟨ok.wish _,I.os,I.bare,I.base,I.loc,I.cell,I.free,I.freeC,λz hz=>I.pin z (by show z∈(X.pn++pins)++more;rw[append_assoc];exact hz),I.hok,I.len⟩
 refine wpAny_mono (h q _ s σ H Q I' hw) (λus s1 ⟨v,H',J,r,z⟩=>⟨v,H',?_,r,z⟩) λ_ _ z=>False.elim z
 exact⟨I.ok,J.os,J.bare,J.base,J.loc,J.cell,J.free,J.freeC,λz hz=>J.pin z (by show z∈X.pn++(pins++more);rw[<-append_assoc];exact hz),J.hok,J.len⟩
end
structure KindX(X:Cx)(e:Expr)(st:Stmt)(gK:D->Ca->Out):Prop where
 ex:∃ cont:Ends->L2.St->VK,(∀ (pins:List (Addr×Obj)) (Ex:Value->Shared->Prop) (te:TE),PE (BE X pins Ex) e te->PS (BE X pins Ex) st (λDn σ H=>te σ H (cont Dn σ)))/\
  ∀ (xw:XW) (W₀:WS) (H₀:Hp) (W:WS) (H:Hp) (d:D) (v:V) (σ:L2.St) (δ:Ca) (Dn:Ends),StHas X.K W₀ H₀ W H σ δ->Has X.K W H d v->RS X.K xw W₀ H₀ W H (gK d δ) Dn->cont Dn σ v H
theorem NU(hs:swapsWith e none pos.line X.env=pure false:=by rfl):KindX X e (.Expr e pos) (λ_ δ=>.nx δ):=
 ⟨λDn σ _ H=>Dn.nx σ H,λpins Ex te h=>Do h hs,λxw W₀ H₀ W H d v σ δ Dn st hv q=>q W H σ Step.refl st⟩
theorem O2:KindX X e (.Return (some e) pos) (λd _=>.rt d):=
 ⟨λDn _ v H=>Dn.rt v H,λpins Ex te h=>Us h,λxw W₀ H₀ W H d v σ δ Dn st hv q=>q v H st.fr.ext (Has.keep (λ_ _ e _=>e) st.fr.wl (λb z=>.inl (st.fr.sub b z)) hv)⟩
def TQ(i:Nat):Out->Out
 | .nx δ=>.nx (δ.set i none)
 | .bk δ=>.bk (δ.set i none)
 | .ct δ=>.ct (δ.set i none)
 | .rt d=>.rt d
 |_=>.stuck
def Hu(cs:List Str)(f:Ca->Res D)(gK:D->Ca->Out)(go:Ca->Out)(gs:Str->List D->Ca->Out):Ca->Out:=λδ=>match f δ with
 | .ok d=>Jm (gK d δ) go
 | .ex c fs=>if c∈cs then gs c fs δ else .stuck
 | .stuck=>.stuck
theorem StHas.unset{W₀ W:WS}{δ:Ca}(h:StHas K W₀ H₀ W H σ δ)(i:Nat):StHas K W₀ H₀ W H (σ.set i none) (δ.set i none):=by
 have ne:∀ (j:Nat) (t:S),(δ.set i none)[j]? =some (some t)->i≠j/\δ[j]? =some (some t):=λj t e=>by
  have hj:i≠j:=by
   rintro rfl
   rw[getElem?_set_self']at e
   cases q:δ[i]? with
   |none=>rw[q]at e;cases e
   |some z=>rw[q]at e;cases e
  rw[getElem?_set_ne hj]at e
  exact⟨hj,e⟩
 refine⟨h.fr,by simp[h.len],λj s e=>?_,λj l s1 s2 a hjl os ot e1 e2 e3 e4=>?_⟩
 .obtain⟨hj,e'⟩:=ne j s e
  rw[getElem?_set_ne hj]
  exact h.at' j s e'
 .obtain⟨hj,g1⟩:=ne j s1 e1
  obtain⟨hl,g2⟩:=ne l s2 e2
  rw[getElem?_set_ne hj]at e3
  rw[getElem?_set_ne hl]at e4
  exact h.ap j l s1 s2 a hjl os ot g1 g2 e3 e4
variable{hpos tpos:Pos}{orelse:List Stmt}{nn:Nat}{gK:D->Ca->Out}{go gsu:Ca->Out}
section
variable {fs:Ca->Res (List D)}{p:Pos}{C:Str}
theorem YA{hd:ExceptHandler}{vs0:List V}{ds0:List Value}{d0:List D}{gs:Str->List D->Ca->Out}(cs:List Str)(G:FnOk X.prog X.w X.K X.mg X.base (FB X.prog X.w) k fa fd ps (spX X.K nn m))(hm:X.mg x=some (.ref fa))(hk:keepIn X.K (.ref fa)=true)(hb:Binds X.K fd ps ds0)(hd0:Vals vs0 ds0)(h0:∀ W H,HasL X.K W H d0 vs0)(hr:Room k X.A)(ha:XA X.nox Ql (a::es) fs)(kd:KindX X (.Call (.Name x p) (a::es) [] cpos) st gK)(hor:XSs X xw orelse go)(hcat:∀ (pins:List (Addr×Obj)) (σ:L2.St) (H H0 H':Hp) (s s':Shared) (ar:Addr) (cls:Value) (dx:Dx) (c:Str) (fs:List D) (W₀:WS) (H₀:Hp) (W:WS) (δ:Ca) (Dn:Ends),Inv X pins σ H s->s'.os=s.os->AllBare s'.gens->Fly X.prog X.w X.stack H s H' ar cls dx s'.heap->ExF H' dx fs->
   nsIn X.K mainGlobals c=some (some cls)->c∈cs->StHas X.K W₀ H₀ W H0 σ δ->Same H0 H'->RS X.K xw W₀ H₀ W H0 (gs c fs δ) Dn->
   wpAny (model X.prog X.w) X.A (noteFrame (.ref ar) X.env) (λ_ s₂=>wpAny (model X.prog X.w) X.A (setFlight (.ref ar) none) (λ_ s₃=>
    wpAny (model X.prog X.w) X.A (handleBy (.ref ar) X.env [hd]) (SP X pins Dn) X.xe s₃) X.xe s₂) X.xe s')(hg:Gl X x)(hdb:(x==("__debug__":Str))=false)(he:starEach (a::es) X.env=(false,eval a X.env)::starEach es X.env)(hpl:(backTo cpos (starEach es X.env)).any (·.1)=false):
  XS X xw (.Try [st] [hd] orelse [] tpos) (Hu cs (λδ=>(noex (fs δ)).bind λds=>Kc nn m (ds++d0)) gK go gs):=⟨by
 intro pins s σ H Dn I ⟨W₀,H₀,W,δ,sth,q⟩
 obtain⟨cont,kp,kr⟩:=kd.ex
 refine wpAny_Try_except ?_
 generalize hEx:(λ(e:Value) (s₁:Shared)=>wpAny (model X.prog X.w) X.A (noteFrame e X.env) (λ_ s₂=>wpAny (model X.prog X.w) X.A (setFlight e none) (λ_ s₃=>wpAny (model X.prog X.w) X.A (handleBy e X.env [hd]) (SP X pins Dn) X.xe s₃) X.xe s₂) X.xe s₁)=Ex
 have D1nx:∀ σ' H',SX X.K xw go Dn σ' H'->∀ s',Inv X pins σ' H' s'->wpAny (model X.prog X.w) X.A (execs orelse X.env) (SP X pins Dn) X.xe s':=λσ' H' h s' J=>hor.h pins s' σ' H' Dn J h
 have pe:=ZO (X:=BE X pins Ex) (p:=p) (pos:=cpos) (E:=λσ' cls dx H'=>σ'=σ/\Same H H'/\∃ c fs',nsIn X.K mainGlobals c=some (some cls)/\((noex (fs δ)).bind λds=>Kc nn m (ds++d0))=.ex c fs'/\ExF H' dx fs') G hr hg hm hk hb hd0 (λmore σ' H1 s1 e s' J h=>by
  obtain⟨ar,cls,dx,H',rfl,os,bare,fl,rfl,sm,c,fs',hn,hf,xf⟩:=h
  have J':=Yi I.ok J
  show Ex (.ref ar) s'
  subst hEx
  unfold Hu at q
  dsimp only at q
  rw[hf]at q
  have q':RS X.K xw W₀ H₀ W H (if c∈cs then gs c fs' δ else .stuck) Dn:=q
  split at q'
  .rename_i hc
   exact hcat pins σ' H1 H H' s1 s' ar cls dx c fs' W₀ H₀ W δ Dn J' os bare fl xf hn hc sth sm q'
  .exact q'.elim) (Z3 ha.h) hdb he hpl
 refine wpAny_mono (Cm (kp pins Ex _ pe) [] s σ H {nx:=SX X.K xw go Dn,rt:=Dn.rt,bk:=Dn.bk,ct:=Dn.ct} (HU I) ?_) (λfl s1 h1=>?_) λe s1 h1=>h1
 .refine⟨W₀,H₀,W,δ,sth,?_⟩
  unfold Hu at q
  dsimp only at q
  cases hf:fs δ with
  |stuck=>rw[hf]at q;exact q
  |ex c gs'=>rw[hf]at q;exact False.elim q
  |ok ds=>
   rw[hf]at q
   intro vs H1 k1 hv
   have hv':HasL X.K W H1 (ds++d0) (vs++vs0):=hv.append (h0 W H1)
   have q1:RS X.K xw W₀ H₀ W H (match Kc nn m (ds++d0) with| .ok d=>Jm (gK d δ) go| .ex c fs=>if c∈cs then gs c fs δ else .stuck| .stuck=>.stuck) Dn:=q
   have ec:((noex (Res.ok ds)).bind λds=>Kc nn m (ds++d0))=Kc nn m (ds++d0):=rfl
   by_cases hl:(ds++d0).length=nn
   .have em:Kc nn m (ds++d0)=m (ds++d0):=if_pos hl
    rw[em]at q1
    refine⟨by rw[<-hv'.length];exact hl,W,ds++d0,sth.fr.wl.same k1,hv',?_⟩
    cases h:m (ds++d0) with
    |ok d=>
     rw[h]at q1
     intro v H2 k2 hd2
     refine kr xw W₀ H₀ W H2 d v σ δ _ (sth.same (k1.trans k2)) hd2 ?_
     have q2:RS X.K xw W₀ H₀ W H (Jm (gK d δ) go) Dn:=q1
     have q3:=RS.step q2 (Step.same (W:=W) (k1.trans k2))
     cases hgk:gK d δ with
     |nx δ'=>
      rw[hgk]at q3
      exact λW' H' σ' kk st'=>⟨W₀,H₀,W',δ',st',RS.step (o:=go δ') q3 kk⟩
     |bk δ'=>rw[hgk]at q3;exact q3
     |ct δ'=>rw[hgk]at q3;exact q3
     |rt d'=>rw[hgk]at q3;exact q3
     |ex c' fs'=>rw[hgk]at q3;exact q3
     |stuck=>rw[hgk]at q3;exact q3
    |ex c fs'=>
     exact λcls dx H2 hn k2 xf=>⟨rfl,k1.trans k2,c,fs',hn,by rw[ec,em,h],xf⟩
    |stuck=>rw[h]at q1;exact q1
   .have em:Kc nn m (ds++d0)=.stuck:=if_neg hl
    rw[em]at q1
    exact q1.elim
 .cases fl with
  |next=>obtain⟨σ',H',J,z⟩:=h1;exact D1nx σ' H' z s1 (Yi I.ok J)
  |brk=>obtain⟨σ',H',J,z⟩:=h1;exact⟨σ',H',Yi I.ok J,z⟩
  |cont=>obtain⟨σ',H',J,z⟩:=h1;exact⟨σ',H',Yi I.ok J,z⟩
  |ret u=>obtain⟨v,σ',H',J,r,z⟩:=h1;exact⟨v,σ',H',Yi I.ok J,r,z⟩⟩
end
def AE(fs:Ca->Res (List D))(nn:Nat)(m:List D->Res D)(d0:List D):Ca->Res D:=λδ=>(noex (fs δ)).bind λds=>Kc nn m (ds++d0)
def LM(i:Nat)(gsu:Ca->Out):Str->List D->Ca->Out:=λc fs δ=>TQ i (gsu (δ.set i (some (.d (.exc c fs)))))
section
variable {fs:Ca->Res (List D)}{p:Pos}{C:Str}
theorem PZ(i:Nat)(cs:List Str)(hcs:∀ c∈cs,MatchX X.K C c)(hex:X.ex= [])(hst:X.stack=X.env::X.outer)(hfr:X.env.frame=some X.env.locals)(hN:X.N.Nodup)(hi:X.N[i]? =some n)(hk:X.env.kindOf n=some .local)(hgC:Gl X C)(hdC:(C==("__debug__":Str))=false)(hsu:∀ a,XSs (Fl X a) Ql (b₀::suite) gsu)(pins:List (Addr×Obj))(σ:L2.St)(H H0 H':Hp)(s s':Shared)(ar:Addr)(cls:Value)(dx:Dx)(c:Str)(xs:List D)(W₀:WS)(H₀:Hp)(W:WS)(δ:Ca)(Dn:Ends)(I:Inv X pins σ H s)(os:s'.os=s.os)(bare:AllBare s'.gens)(fl:Fly X.prog X.w X.stack H s H' ar cls dx s'.heap)(xf:ExF H' dx xs)(hn:nsIn X.K mainGlobals c=some (some cls))(hc:c∈cs)(sth:StHas X.K W₀ H₀ W H0 σ δ)(sm:Same H0 H')(q:RS X.K xw W₀ H₀ W H0 (LM i gsu c xs δ) Dn):
  wpAny (model X.prog X.w) X.A (noteFrame (.ref ar) X.env) (λ_ s₂=>wpAny (model X.prog X.w) X.A (setFlight (.ref ar) none) (λ_ s₃=>
   wpAny (model X.prog X.w) X.A (handleBy (.ref ar) X.env [.ExceptHandler (some (.Name C np)) (some n) (b₀::suite) hpos]) (SP X pins Dn) X.xe s₃) X.xe s₂) X.xe s':=by
 obtain⟨vc,vC,e1,e2,e3⟩:=(hcs c hc).ex
 rw[hn]at e1
 cases e1
 have k2:Same H0 (Jb H' ar (.ext (Sg ar cls dx))):=λb o e=>by rw[Ha (Pa (sm b o e) fl.nh)];exact sm b o e
 refine RH (t:=SX X.K Ql gsu) I hex hst hfr os bare fl hgC e2 e3 hdC hN hi hk (λa=>(hsu a).h) ⟨W₀,H₀,W,δ.set i (some (.d (.exc c xs))),(sth.same k2).set (x:=.exc c xs) (v:=.ref ar) (by rw[Has];exact⟨ar,cls,dx,rfl,hn,Na,xf.to (λb o u e=>by rw[Ha (Pa e fl.nh)];exact e) λb kvs e=>by rw[Ha (Pa e fl.nh)];exact e⟩),?_⟩
 unfold LM at q
 cases hq:gsu (δ.set i (some (.d (.exc c xs)))) with
 |nx δ'=>rw[hq]at q;exact λW' H2 σ2 stp st2=>q W' H2 _ ((Step.same k2).trans stp) (st2.unset i)
 |bk δ'=>rw[hq]at q;exact λW' H2 σ2 stp st2=>q W' H2 _ ((Step.same k2).trans stp) (st2.unset i)
 |ct δ'=>rw[hq]at q;exact λW' H2 σ2 stp st2=>q W' H2 _ ((Step.same k2).trans stp) (st2.unset i)
 |rt d=>rw[hq]at q;exact q
 |ex c' fs'=>rw[hq]at q;exact q.elim
 |stuck=>rw[hq]at q;exact q.elim
theorem GX(i:Nat)(cs:List Str)(F:FnX X.prog X.w X.K X.mg X.base k x nn m)(hcs:∀ c∈cs,MatchX X.K C c)(hN:X.N.Nodup)(hr:Room k X.A)(ha:XA X.nox Ql (a::es) fs)(kd:KindX X (.Call (.Name x p) (a::es) [] cpos) st gK)(hor:XSs X xw orelse go)(hsu:∀ a,XSs (Fl X a) Ql (b₀::suite) gsu)(hi:X.N[i]? =some n:=by rfl)(hk:X.env.kindOf n=some .local:=by rfl)(hex:X.ex= []:=by rfl)(hst:X.stack=X.env::X.outer:=by rfl)(hfr:X.env.frame=some X.env.locals:=by rfl)(hgC:Gl X C:=by rfl)(hdC:(C==("__debug__":Str))=false:=by decide)(hg:Gl X x:=by rfl)(hdb:(x==("__debug__":Str))=false:=by decide)(he:starEach (a::es) X.env=(false,eval a X.env)::starEach es X.env:=by rfl)(hpl:(backTo cpos (starEach es X.env)).any (·.1)=false:=by rfl):
  XS X xw (.Try [st] [.ExceptHandler (some (.Name C np)) (some n) (b₀::suite) hpos] orelse [] tpos) (Hu cs (AE fs nn m []) gK go (LM i gsu)):=by
 obtain⟨fa,fd,ps,G,hm,hkp,hb⟩:=F.ex
 exact YA cs G hm hkp hb .nil (λW H=>HasL.nil) hr ha kd hor (PZ i cs hcs hex hst hfr hN hi hk hgC hdC hsu) hg hdb he hpl
end
end L3
namespace L3
open PySem PySem.Spec PySem.Calls PyProof.Rows PySem.W Builtin Builtin.ObjectAttr Builtin.Getset_descriptor
structure ExcK(K:Frag)(C:Addr):Prop where
 ga:findIn K (.ref C) "__getattribute__"=some (some (.builtin "BaseException.__getattribute__"))
 gt:findIn K (.ref C) "__getattr__"=some none
 cl:findIn K (.ref C) "__class__"=some (some (.builtin "object.__class__"))
 ob:mroIn K C (.type "object")=some true
 be:mroIn K C (.type "BaseException")=some true
variable{K:Frag}
theorem ExcK.ci{C:Addr}(z:ExcK K C):(clsIn K C).isSome=true:=by
 obtain⟨cd,e,_⟩:=Option.bind_eq_some_iff.mp z.ob
 rw[e];rfl
variable{R:Result->Shared->Prop}{tk:Tok}
section
variable {prog:Program}{w:World}{A:Around}{E:Value->Shared->Prop}{h:Heap}{g:Array GenState}{d:Drawn}{t:Nat}{os:OsState}{a C:Addr}{o:Obj}
theorem C6{tp:Value}(X:K.In h)(hx:h.get? a=some o)(hc:o.cls=.ref C)(z:ExcK K C)(hq:R (.ok (.ret (.ref C))) ⟨h,g,d,t,os⟩):
  codeAny (model prog w) A (.call (.builtin "getset_descriptor.__get__") ⟨[.builtin "object.__class__",.ref a,tp],[]⟩) R ⟨h,g,d,t,os⟩:=by
 have L0:Looks (model prog w) h (typeOf (.ref a)) (.ref C):=hc▸(Looks.ld hx).andThen .now
 have L1:=looks_mroIn (M:=model prog w) X z.ob
 refine codeAny_call_builtin KF.slot_gs.plain KF.entry_gs (KF.slot_gs.check _ _ _ _ _ _ _ _ KF.type_class (KF.args_gs _ _ _) ?_)
 unfold Builtin.«getset_descriptor.__get__» descrGet
 rw[dga_obj]
 refine wpAny_bind (wpAny_pure ?_)
 unfold descrGetter descrCheckInstance descrNameAndClass isInstance
 simp only[KF.owner_class]
 repeat lk
 refine⟨Code.quiet_builtin _ (by decide +kernel),codeAny_builtin KF.entry_class ?_⟩
 unfold Builtin.«object.__class__» shownTypeOf
 repeat lk
 exact hq
theorem IR{Q:Fin->Shared->Prop}(X:K.In h)(hx:h.get? a=some o)(hc:o.cls=.ref C)(z:ExcK K C)(hq:Q (.done (.ret (.ref C))) ⟨h,g,d,t,os⟩):
  wpAny (model prog w) A (Builtin.«object.__getattribute__» ⟨[.ref a,.str "__class__" tk],[]⟩) Q E ⟨h,g,d,t,os⟩:=by
 have hT5:(⟨h,g,d,t,os⟩:Shared).TypeIs (.builtin "object.__class__") "getset_descriptor":=F.typeOf_object_class
 have L0:Looks (model prog w) h (typeOf (.ref a)) (.ref C):=hc▸(Looks.ld hx).andThen .now
 have L3:=looks_findIn (M:=model prog w) X z.cl
 have f5:=F.typeOf_object_class
 have f6:=F.slot_gs_get.lookup
 have f7:=F.slot_gs_set.lookup
 repeat (any_goals (first|assumption|refine wpAny_bind (L0.at ?_)|refine wpAny_bind (L3.at ?_)|wp_step))
 refine C6 X hx hc z ?_
 repeat (any_goals (first|assumption|wp_step))
theorem FY(X:K.In h)(hx:h.get? a=some o)(hc:o.cls=.ref C)(z:ExcK K C)(hq:R (.ok (.ret (.ref C))) ⟨h,g,d,t,os⟩):
  codeAny (model prog w) A (.call (.builtin "BaseException.__getattribute__") ⟨[.ref a,.str "__class__" tk],[]⟩) R ⟨h,g,d,t,os⟩:=by
 have L0:Looks (model prog w) h (typeOf (.ref a)) (.ref C):=hc▸(Looks.ld hx).andThen .now
 have L1:=looks_mroIn (M:=model prog w) X z.be
 have hk:builtinKind "BaseException.__getattribute__"=some .slot:=by decide +kernel
 have hsplit:splitId "BaseException.__getattribute__"=some ("BaseException","__getattribute__"):=by decide +kernel
 have ha:=F.args_bexc_ga (.ref a) (.str "__class__" tk)
 have hp:plainId "BaseException.__getattribute__"=true:=by decide +kernel
 refine codeAny_call_builtin hp F.entry_bexc_ga ?_
 simp only[checkBuiltinCall,hk,hsplit]
 refine wpAny_bind ((L0.andThen L1).at ?_)
 simp only[Bool.not_true,false_eq_true,if_false]
 repeat (first|assumption|exact IR X hx hc z hq|wp_step)
theorem W9{fill expr:Bool}{Q:Value->Shared->Prop}(X:K.In h)(hx:h.get? a=some o)(hc:o.cls=.ref C)(z:ExcK K C)(hq:Q (.ref C) ⟨h,g,d,t,os⟩):
  wpAny (model prog w) A (getAttrBy (.ref a) (.str "__class__" tk) fill expr) Q E ⟨h,g,d,t,os⟩:=by
 have L0:Looks (model prog w) h (typeOf (.ref a)) (.ref C):=hc▸(Looks.ld hx).andThen .now
 have L1:=looks_findIn (M:=model prog w) X z.ga
 have L2:=looks_findIn (M:=model prog w) X z.gt
 have f3:bindSpecial (.builtin "BaseException.__getattribute__") (.ref a)=pure (.builtin "BaseException.__getattribute__",[.ref a]):=F.excAttr_ValueError.ga.bind (.ref a)
 have hx0:(expr&&onTheHeap (Value.builtin "BaseException.__getattribute__"))=false:=by cases expr<;>rfl
 have hx2:(Value.builtin "BaseException.__getattribute__"==Value.builtin "object.__getattribute__")=false:=by decide +kernel
 have hx1:(onTheHeap (Value.ref C)&&Value.builtin "BaseException.__getattribute__"==Value.builtin "object.__getattribute__")=false:=by rw[hx2];rfl
 repeat (any_goals (first|assumption|refine wpAny_bind (L0.at ?_)|refine wpAny_bind (L1.at ?_)|refine wpAny_bind (L2.at ?_)|wp_step))
 refine FY X hx hc z ?_
 repeat (any_goals (first|assumption|wp_step))
theorem HR{Q:Option Value->Shared->Prop}(X:K.In h)(hx:h.get? a=some o)(hc:o.cls=.ref C)(z:ExcK K C)(hq:Q (some (.ref C)) ⟨h,g,d,t+1,os⟩):
  wpAny (model prog w) A (getAttr? (.ref a) "__class__") Q E ⟨h,g,d,t,os⟩:=by
 unfold getAttr? getAttrBy?
 exact wpAny_bind (wpAny_mkText (wpAny_bind (wpAny_attempt (W9 X hx hc z (wpAny_pure hq)))))
theorem Qz(z:ExcK K C):KitX K (.ref a) (.ref C) (λh=>∃ o,h.get? a=some o/\o.cls=.ref C) where
 ty:=λM h _ ⟨o,hx,hc⟩=>hc▸(Looks.ld hx).andThen .now
 it:=λM h X _=>by
  have hci:=z.ci
  unfold clsIn at hci
  split at hci
  .rename_i c' d' cd' sl' ho
   intro A' Q' E' s' k q
   unfold isType loadHead
   exact wpAny_bind (wpAny_loadPart (k _ _ (X _ _ ho)) (wpAny_pure q))
  .cases hci
 ne:=λh tp dd its n sl X htp=>by
  have hci:=z.ci
  refine Bool.eq_false_iff.mpr λq=>?_
  have e:C=tp:=Value.ref.inj (beq_iff_eq.mp q)
  subst e
  unfold clsIn at hci
  split at hci
  .rename_i c' d' cd' sl' ho
   have zz:=(X _ _ ho).symm.trans htp
   cases zz
  .cases hci
 ca:=λ{prog w A E Q s} X ⟨o,hx,hc⟩ k=>by
  obtain⟨hh,g,d,t,os⟩:=s
  exact HR X hx hc z k
end
end L3
namespace L3
open PySem PySem.Spec PyProof.Rows L2 SeqAt
variable{X:Cx}{xw:XW}{a e:Expr}{es:List Expr}{fa:Ca->Res D}{pos p2:Pos}{c x:Str}{k n:Nat}{vs:List V}{K:Frag}{tb:List (Str×Bool)}{W:WS}{H:Hp}{vc:V}
section
variable {fs:Ca->Res (List D)}{p:Pos}
theorem ZV:Xm (FB X.prog X.w) X (λ_ _ _=>False):=λpins σ H s e s' I ⟨a,cls,dx,H',_,_,_,_,z⟩=>z.elim
theorem BY{m:List D->Res D}(F:FnX X.prog X.w X.K X.mg X.base k x n m)(hr:Room k X.A)(ha:XA X xw (a::es) fs)(hg:Gl X x:=by rfl)(hdb:(x==("__debug__":Str))=false:=by decide)(he:starEach (a::es) X.env=(false,eval a X.env)::starEach es X.env:=by rfl)(hpl:(backTo pos (starEach es X.env)).any (·.1)=false:=by rfl):
  XE X xw (.Call (.Name x p) (a::es) [] pos) (b1 (Wa n m) fs):=⟨by
 obtain⟨fa,fd,ps,G,hm,hk,hb⟩:=F.ex
 refine PE.weak (Co G hr hg hm hk hb .nil ZV ha.h hdb he hpl) λσ H Q ⟨W₀,H₀,W,δ,st,q⟩=>?_
 refine Dh st q λH2 ds vs k w st2 hv _ q2=>?_
 unfold Wa at q2
 split at q2
 .rename_i hn
  rw[append_nil]
  refine⟨by rw[<-hv.length];exact hn,W,ds,w,hv,?_⟩
  cases h:m ds with
  |ok d=>rw[h]at q2;exact q2
  |ex c fs=>rw[h]at q2;exact q2.elim
  |stuck=>rw[h]at q2;exact q2
 .exact q2.elim⟩
inductive IsC(K:Frag)(mg:Str->Option Value):Str->V->Prop
 |own {c:Str} {C:Addr}:mg c=some (.ref C)->IsC K mg c (.ref C)
 |blt {c:Str} {T:String}:mg c=none->bootBuiltins c=some (.type T)->c≠"__name__"->IsC K mg c (.ty T)
structure XC(X:Cx)(e:Expr)(v:V):Prop where
 h:PE X e (tC v)
structure XCs(X:Cx)(es:List Expr)(vs:List V):Prop where
 h:PA X es (λ_ H Q=>Q vs H)
theorem Qo{v:V}(hc:IsC X.K X.mg c v)(hg:Gl X c:=by rfl)(hd:(c==("__debug__":Str))=false:=by decide):XC X (.Name c pos) v:=⟨by
 cases hc with
 |own h=>exact HW hg h rfl hd
 |blt h1 h2 h3=>exact Lx hg h1 h2 rfl h3 hd⟩
theorem RZ:XCs X [] []:=⟨Vf⟩
theorem Rq{v:V}(h:XC X e v)(t:XCs X es vs)(hs:starEach (e::es) X.env=(false,eval e X.env)::starEach es X.env:=by rfl):XCs X (e::es) (v::vs):=⟨PA.weak (Ic h.h t.h hs) λσ H Q q=>q⟩
def AK:V->Value
 | .ref a=>.ref a
 | .ty T=>.type T
 |_=>.none
def Om(tb:List (Str×Bool)):D->Res D
 | .exc c _=>match tb.lookup c with
  |some b=>.ok (.bl b)
  |none=>.stuck
 |_=>.stuck
structure IsiX(K:Frag)(tb:List (Str×Bool))(vs:List V):Prop where
 cls:∀ v∈vs,(∃ a,v=.ref a)\/∃ T,v=.ty T
 ok:∀ c b,tb.lookup c=some b->∃ C,nsIn K mainGlobals c=some (some (.ref C))/\ExcK K C/\kitAny K (.ref C) (vs.map AK)=some b
theorem Jr:∀ v∈([]:List V),(∃ a,v=V.ref a)\/∃ T,v=V.ty T:=λv h=>absurd h (by simp)
theorem Uk{a:Addr}(h:∀ v∈vs,(∃ a,v=V.ref a)\/∃ T,v=V.ty T):∀ v∈V.ref a::vs,(∃ a,v=V.ref a)\/∃ T,v=V.ty T:=forall_mem_cons.mpr ⟨.inl ⟨a,rfl⟩,h⟩
theorem BS{T:String}(h:∀ v∈vs,(∃ a,v=V.ref a)\/∃ T,v=V.ty T):∀ v∈V.ty T::vs,(∃ a,v=V.ref a)\/∃ T,v=V.ty T:=forall_mem_cons.mpr ⟨.inr ⟨T,rfl⟩,h⟩
theorem Vr(h:∀ v∈vs,(∃ a,v=V.ref a)\/∃ T,v=V.ty T):IsiX K [] vs:=⟨h,λc b e=>by simp at e⟩
theorem Eh{c:Str}{C:Addr}{b:Bool}(hn:nsIn K mainGlobals c=some (some (.ref C)))(z:ExcK K C)(hk:kitAny K (.ref C) (vs.map AK)=some b)(t:IsiX K tb vs):IsiX K ((c,b)::tb) vs:=⟨t.cls,λc' b' e=>by
 rw[lookup_cons]at e
 cases hx:c'==c with
 |true=>
  rw[hx]at e
  have e':b=b':=Option.some.inj e
  have ec:c'=c:=by simpa using hx
  subst e';subst ec
  exact⟨C,hn,z,hk⟩
 |false=>rw[hx]at e;exact t.ok c' b' e⟩
theorem VQ:∀ {us:List Value},(∀ v∈vs,(∃ a,v=V.ref a)\/∃ T,v=V.ty T)->Vals vs us->us=vs.map AK:=by
 induction vs with
 |nil=>intro us _ r;cases r;rfl
 |cons v vs ih=>
  intro us h r
  cases r with
  |cons r t=>
   rw[map_cons,<-ih (λw hw=>h w (mem_cons_of_mem _ hw)) t]
   rcases h v mem_cons_self with⟨a,rfl⟩|⟨T,rfl⟩
   .rw[show _=Value.ref a from r];rfl
   .rw[show _=Value.type T from r];rfl
theorem AF{c:Str}{fs:List D}{v:V}(h:HasT K W H (.exc c fs) v):∃ a C dx,v=.ref a/\nsIn K mainGlobals c=some (some C)/\H a=some (.ext (Sg a C dx))/\ExF H dx fs:=by
 rcases h with h|⟨ds,a,xs,h1,_⟩
 .rw[Has]at h
  exact h
 .cases h1
theorem OH(hi:IsiX X.K tb vs):Rg X (.builtin "isinstance") (λxs H Q=>∃ x c a C dx t b,xs= [x,.ref t]/\x=.ref a/\nsIn X.K mainGlobals c=some (some C)/\H a=some (.ext (Sg a C dx))/\H t=some (.tup vs)/\tb.lookup c=some b/\Q (.bl b) H):=by
 intro pins s σ H xs us Q I r h
 obtain⟨x,c,a,C,dx,t,b,rfl,rfl,hn,ha,ht,hb,q⟩:=h
 obtain⟨u,u2,rfl,rx,rc⟩:=r.two
 obtain rfl:u=Value.ref a:=rx
 obtain rfl:u2=Value.ref t:=rc
 obtain⟨C',hn',z,hk⟩:=hi.ok c b hb
 rw[hn]at hn'
 cases hn'
 obtain⟨⟨oe,ws,he,hc,_⟩,_⟩:=I.hok a _ ha
 obtain⟨_,its,rv,⟨cl,dd,dat,sl⟩,ho,hcl,n,hd⟩:=I.hok t _ ht
 simp only at hcl hd
 subst hcl hd
 have ei:=VQ hi.cls rv
 rw[<-ei]at hk
 exact PySem.W.kia_tup (Qz (a:=a) z) I.kIn ⟨oe,he,hc⟩ ho hk (λz=>nomatch z) λtk=>⟨.bl b,H,I.tok tk,rfl,q⟩
theorem PB(hi:IsiX X.K tb [vc]):Rg X (.builtin "isinstance") (λxs H Q=>∃ x c a C dx b,xs= [x,vc]/\x=.ref a/\nsIn X.K mainGlobals c=some (some C)/\H a=some (.ext (Sg a C dx))/\tb.lookup c=some b/\Q (.bl b) H):=by
 intro pins s σ H xs us Q I r h
 obtain⟨x,c,a,C,dx,b,rfl,rfl,hn,ha,hb,q⟩:=h
 obtain⟨u,u2,rfl,rx,rc⟩:=r.two
 obtain rfl:u=Value.ref a:=rx
 obtain⟨C',hn',z,hk⟩:=hi.ok c b hb
 rw[hn]at hn'
 cases hn'
 obtain⟨⟨oe,ws,he,hc,_⟩,_⟩:=I.hok a _ ha
 have ei:u2=AK vc:=by
  rcases hi.cls vc mem_cons_self with⟨a,rfl⟩|⟨T,rfl⟩
  .exact rc
  .exact rc
 subst ei
 have hk1:kitOne X.K (.ref C') (AK vc)=some b:=by
  have hk':(match kitOne X.K (.ref C') (AK vc) with|some true=>some true|some false=>some false|none=>none)=some b:=hk
  split at hk'<;>simp_all
 exact kia_one (Qz (a:=a) z) I.kIn ⟨oe,he,hc⟩ hk1 (λz=>nomatch z) λtk=>⟨.bl b,H,I.tok tk,rfl,q⟩
theorem A6{ces:List Expr}{kt:Nat}(hi:IsiX X.K tb vs)(hm:X.mg "isinstance"=none)(ha:XP X xw a fa)(hcs:XCs X ces vs)(hl:vs.length<=1000:=by simp)(hg:Gl X "isinstance":=by rfl)(he:starEach [a, .Tuple ces kt p2] X.env=(false,eval a X.env)::starEach [.Tuple ces kt p2] X.env:=by rfl)(he2:starEach [.Tuple ces kt p2] X.env=(false,eval (.Tuple ces kt p2) X.env)::starEach [] X.env:=by rfl)(hpl:(backTo pos (starEach [.Tuple ces kt p2] X.env)).any (·.1)=false:=by rfl):
  XE X xw (.Call (.Name "isinstance" p) [a, .Tuple ces kt p2] [] pos) (b1 (Om tb) fa):=⟨
 PE.weak (Dj (OH hi) hg hm (by decide +kernel) (Ic ha.h (Ic (IP hcs.h) Vf he2) he) (by decide) (by decide) he hpl) λσ H Q ⟨W₀,H₀,W,δ,st,q⟩=>Qh st q λH2 d v k w st2 hv _ q2=>by
  unfold Om at q2
  cases d with
  |exc c fs=>
   dsimp only at q2
   split at q2
   .rename_i b hb
    obtain⟨ar,C,dx,e,hn,hH,_⟩:=AF hv
    refine⟨by rw[sizeLine_eq];omega,λt ht=>⟨v,c,ar,C,dx,t,b,rfl,e,hn,?_,Na,hb,?_⟩⟩
    .rw[Ha (Pa hH ht)];exact hH
    .exact q2 _ _ (λb o e=>by rw[Ha (Pa e ht)];exact e) (by rw[Has])
   .exact q2.elim
  |_=>exact q2.elim⟩
theorem FH{ce:Expr}(hi:IsiX X.K tb [vc])(hm:X.mg "isinstance"=none)(ha:XP X xw a fa)(hcs:XC X ce vc)(hg:Gl X "isinstance":=by rfl)(he:starEach [a,ce] X.env=(false,eval a X.env)::starEach [ce] X.env:=by rfl)(he2:starEach [ce] X.env=(false,eval ce X.env)::starEach [] X.env:=by rfl)(hpl:(backTo pos (starEach [ce] X.env)).any (·.1)=false:=by rfl):
  XE X xw (.Call (.Name "isinstance" p) [a,ce] [] pos) (b1 (Om tb) fa):=⟨
 PE.weak (Dj (PB hi) hg hm (by decide +kernel) (Ic ha.h (Ic hcs.h Vf he2) he) (by decide) (by decide) he hpl) λσ H Q ⟨W₀,H₀,W,δ,st,q⟩=>Qh st q λH2 d v k w st2 hv _ q2=>by
  unfold Om at q2
  cases d with
  |exc c fs=>
   dsimp only at q2
   split at q2
   .rename_i b hb
    obtain⟨ar,C,dx,e,hn,hH,_⟩:=AF hv
    exact⟨v,c,ar,C,dx,b,rfl,e,hn,hH,hb,q2.bl⟩
   .exact q2.elim
  |_=>exact q2.elim⟩
end
variable{b:Expr}
section
variable {c tg:Expr}{p:Pos}
end
def Ej{α:Type}(xs:List α)(lo st:Option Int):List α:=(sliceRange (sliceBounds lo none st xs.length).1 (sliceBounds lo none st xs.length).2.1 (sliceBounds lo none st xs.length).2.2).filterMap (xs[·]?)
theorem Yx{xs:List V}{us:List Value}(r:Vals xs us):∀ l:List Nat,Vals (l.filterMap (xs[·]?)) (l.filterMap (us[·]?))
 | []=>.nil
 |i::l=>by
  rw[filterMap_cons,filterMap_cons]
  have g:∀ {xs:List V} {us:List Value},Vals xs us->∀ i:Nat,(xs[i]? =none/\us[i]? =none)\/∃ x u,xs[i]? =some x/\us[i]? =some u/\RelV x u:=by
   intro xs us r
   induction r with
   |nil=>intro i;exact .inl ⟨rfl,rfl⟩
   |cons h r ih=>
    intro i
    cases i with
    |zero=>exact .inr ⟨_,_,rfl,rfl,h⟩
    |succ i=>simpa using ih i
  rcases g r i with⟨e1,e2⟩|⟨x,u,e1,e2,h⟩
  .rw[e1,e2];exact Yx r l
  .rw[e1,e2];exact .cons h (Yx r l)
theorem Mw{K:Frag}{W:WS}{H:Hp}{ds:List D}{xs:List V}(r:HasL K W H ds xs):∀ l:List Nat,HasL K W H (l.filterMap (ds[·]?)) (l.filterMap (xs[·]?))
 | []=>HasL.nil
 |i::l=>by
  rw[filterMap_cons,filterMap_cons]
  have g:∀ {ds:List D} {xs:List V},HasL K W H ds xs->∀ i:Nat,(ds[i]? =none/\xs[i]? =none)\/∃ d x,ds[i]? =some d/\xs[i]? =some x/\Has K W H d x:=by
   intro ds
   induction ds with
   |nil=>intro xs r i;rw[HasL]at r;subst r;exact .inl ⟨rfl,rfl⟩
   |cons d ds ih=>
    intro xs r i
    rw[HasL]at r
    obtain⟨v,r',rfl,hv,hr⟩:=r
    cases i with
    |zero=>exact .inr ⟨_,_,rfl,rfl,hv⟩
    |succ i=>simpa using ih hr i
  rcases g r i with⟨e1,e2⟩|⟨x,u,e1,e2,h⟩
  .rw[e1,e2];exact Mw r l
  .rw[e1,e2];exact HasL.cons h (Mw r l)
section
variable {lo:Option Expr}{st:Expr}{fl fh:Ca->Res (Option Int)}
def K9(K:Frag)(te:TE)(tl th:TO):TE:=λσ H Q=>te σ H λx H1=>tl σ H1 λl H2=>th σ H2 λu H3=>∃ a xs,x=.ref a/\SqL K H3 a xs/\u≠some 0/\∀ p,H3 p=none->Q (.ref p) (Jb H3 p (.lst (Ej xs l u)))
theorem JW{te:TE}{tl th:TO}(he:PE X a te)(hl:PO X lo tl)(hu:PO X (some st) th):PE X (.Subscript a (.Slice lo none (some st) p2) pos) (K9 X.K te tl th):=by
 intro pins s σ H Q I h
 refine Subscript_ (thn (he pins s σ H _ I h) λv s1 ⟨x,H1,I1,r1,q1⟩=>?_)
 refine wpAny_Slice (thn (hl pins s1 σ H1 _ I1 q1) λvl s2 ⟨l,H2,I2,pl,q2⟩=>?_)
 rw[evalPart_none]
 refine wpAny_pure (thn (hu pins s2 σ H2 _ I2 q2) λvu s3 ⟨u,H3,I3,pu,q3⟩=>?_)
 obtain⟨b,xs,rfl,sq,h0,q⟩:=q3
 cases (show v=Value.ref b from r1)
 have I4:Inv X pins σ H3 {s3 with heap:=s3.heap.push {cls:=.type "slice",data:=.fields #[vl,.none,vu]}}:=I3.kept (t':=s3.toks) λb ob q=>get?_push_of_some _ q
 obtain⟨its,r,ht,hz⟩:=I4.list sq
 have hlen:=r.length
 show wpAny (model X.prog X.w) X.A (subscriptTail a (.Slice lo none (some st) p2) (.ref b) (.ref s3.heap.objs.size)) (EP X pins σ Q) X.xe {s3 with heap:=s3.heap.push {cls:=.type "slice",data:=.fields #[vl,.none,vu]}}
 refine tail_any (ops:= [.ref b,.ref s3.heap.objs.size]) ht.isList.typeIs slot_list_getitem.lookup ?_ (by with_unfolding_all rfl)
 refine wpAny_getItem_list_slice ht.isList (Heap.IsSliceOf.new ..) pl .none pu h0 ?_ (by rw[size_toArray]<;>omega)
 have hsz:=slicePick_size_le its.toArray l none u
 have e:slicePick its.toArray l none u=(Ej its l u).toArray:=by
  unfold slicePick Ej
  simp
 rw[e]at hsz ⊢
 have rr:Vals (Ej xs l u) (Ej its l u):=by
  unfold Ej
  rw[hlen]
  exact Yx r _
 exact⟨.ref _,_,I4.laid (t':=s3.toks) (o:=.lst (Ej xs l u)) (λb ob q=>get?_push_of_some _ q) (le_refl _) ⟨by rw[rr.length];simp at hsz;omega,_,0,rr,get?_push_size _ rfl⟩,rfl,q _ (I4.hok.fresh (le_refl _))⟩
def M5(d:D)(lo st:Option Int):Res (List D):=match d with
 | .lst ds=>if st=some 0 then .stuck else .ok (Ej ds lo st)
 |_=>.stuck
theorem OY(ha:XP X xw a fa)(hl:XO X xw lo fl)(hh:XO X xw (some st) fh):XF X xw (.Subscript a (.Slice lo none (some st) p2) pos) (b3 M5 fa fl fh):=
 ⟨PE.weak (JW ha.h hl.h hh.h) λσ H Q ⟨W₀,H₀,W,δ,st,q⟩=>UG (G:=λH r=>RF X.K xw W H r Q) st (λ_ _ _ q=>q) (λ_ q=>q) (λ_ _ _ k q=>RF.same q k) q λH2 d v l u k w hv q2=>by
  unfold M5 at q2
  split at q2
  .split at q2
   .exact q2.elim
   .rename_i h0
    obtain⟨a1,xs,e1,sq,r⟩:=hv.lst
    refine⟨a1,xs,e1,sq,h0,λp hp=>q2 p _ H2 (Same.refl _) hp ?_⟩
    unfold Ej
    rw[r.length]
    exact Mw r _
  .exact q2.elim⟩
end
variable{st:Stmt}{g:Ca->Out}{σ:L2.St}
def Sr(i:Nat)(δ:Ca):Ca:=match δ[i]? with
 |some (some (.o ds))=>δ.set i (some (.d (.lst ds)))
 |_=>δ
def Jg(i:Nat)(g:Ca->Out):Ca->Out:=λδ=>g (Sr i δ)
theorem GI{i:Nat}{Dn:Ends}(h:SX X.K xw (Jg i g) Dn σ H):SX X.K xw g Dn σ H:=by
 obtain⟨W₀,H₀,W,δ,st,q⟩:=h
 have q':RS X.K xw W₀ H₀ W H (g (Sr i δ)) Dn:=q
 unfold Sr at q'
 split at q'
 .rename_i ds h
  obtain⟨v,e,a,xs,r1,r2,r3,r4,r5⟩:=st.at' i _ h
  subst r1
  obtain⟨st2,hd⟩:=st.freeze h e
  exact⟨W₀,H₀,_,_,st2,RS.less (λb z=>z.1) q'⟩
 .exact⟨W₀,H₀,W,δ,st,q'⟩
theorem Ck(i:Nat)(h:XS X xw st g):XS X xw st (Jg i g):=⟨λpins s σ H Dn I q=>h.h pins s σ H Dn I (GI q)⟩
variable{P:List Value->Prop}
theorem BZ(h:∀ a0:Value,P [a0]):∀ us:List Value,us.length=1->P us
 | [a0],_=>h a0
theorem CZ(h:∀ a0 a1:Value,P [a0,a1]):∀ us:List Value,us.length=2->P us
 | [a0,a1],_=>h a0 a1
theorem W5(h:∀ a0 a1 a2:Value,P [a0,a1,a2]):∀ us:List Value,us.length=3->P us
 | [a0,a1,a2],_=>h a0 a1 a2
theorem us5(h:∀ a0 a1 a2 a3 a4:Value,P [a0,a1,a2,a3,a4]):∀ us:List Value,us.length=5->P us
 | [a0,a1,a2,a3,a4],_=>h a0 a1 a2 a3 a4
theorem HA(f:Str)(v:V):∀ fs:List (Str×V),f∉fs.map (·.1)->Nk f v fs=fs++ [(f,v)]
 | [],_=>rfl
 |(g,x)::r,h=>by
  rw[map_cons]at h
  have h1:¬ g=f:=λz=>h (by rw[<-z];exact mem_cons_self)
  have h2:f∉r.map (·.1):=λz=>h (mem_cons_of_mem _ z)
  show(if g=f then(g,v)::r else(g,x)::Nk f v r)=_
  rw[if_neg h1,HA f v r h2];rfl
variable{dx:Addr}
section
variable {W₀:WS}{H₀ H':Hp}{δ:Ca}
theorem StHas.poke{C x:Addr}{fl fl':List (Str×V)}(h:StHas K W₀ H₀ W H σ δ)(hW:W x)(h0:H₀ x=none)(hx:H x=some (.ins C dx fl)):StHas K W₀ H₀ W (Jb H x (.ins C dx fl')) σ δ:=by
 have kk:Mj W H (Jb H x (.ins C dx fl')):=λb o e n=>by rw[Ha (λz=>n (by rw[z];exact hW))];exact e
 have hw:∀ b,W b->W b\/H b=none:=λb z=>.inl z
 refine⟨⟨λb o e=>by rw[Ha (Pa e h0)];exact h.fr.ext _ _ e,h.fr.sub,λb z=>?_,h.fr.wl0⟩,h.len,λi s e=>?_,h.ap⟩
 .by_cases hb:b=x
  .rw[hb];exact⟨_,Na,trivial⟩
  .rw[Ha hb];exact h.fr.wl b z
 .obtain⟨v,h1,h2⟩:=h.at' i s e
  refine⟨v,h1,?_⟩
  cases s with
  |d y=>exact Has.keep kk h.fr.wl hw h2
  |o ds=>
   obtain⟨a,xs,e,g1,g2,g3,g4⟩:=h2
   have hb:a≠x:=λz=>by rw[z,hx]at g3;cases g3
   exact⟨a,xs,e,g1,g2,by rw[Ha hb];exact g3,HasL.keep kk h.fr.wl hw g4⟩
  |q ks ds=>
   obtain⟨a,xs,e,g1,g2,g3,g4,g5⟩:=h2
   have hb:a≠x:=λz=>by rw[z,hx]at g3;cases g3
   exact⟨a,xs,e,g1,g2,by rw[Ha hb];exact g3,g4,HasL.keep kk h.fr.wl hw g5⟩
theorem StHas.born{C x:Addr}(h:StHas K W₀ H₀ W H σ δ)(hx:H x=none)(hd:H dx=none)(ne:dx≠x):
  StHas K W₀ H₀ (λb=>W b\/b=x) (Jb (Jb H dx (.own x)) x (.ins C dx [])) σ δ:=by
 have sm:Same H (Jb (Jb H dx (.own x)) x (.ins C dx [])):=λb o e=>by rw[Ha (Pa e hx),Ha (Pa e hd)];exact e
 have hw:∀ b,(W b\/b=x)->W b\/H b=none:=λb z=>z.elim .inl λz=>.inr (by rw[z];exact hx)
 refine⟨⟨h.fr.ext.trans sm,λb z=>.inl (h.fr.sub b z),λb z=>?_,h.fr.wl0⟩,h.len,λi s e=>?_,h.ap⟩
 .rcases z with z|z
  .exact h.fr.wl.same sm b z
  .rw[z];exact⟨_,Na,trivial⟩
 .obtain⟨v,h1,h2⟩:=h.at' i s e
  exact⟨v,h1,h2.mv h.fr.wl (Same.keep sm) hw λb o _ h1' _ h3' _=>⟨.inl h1',sm _ _ h3'⟩⟩
theorem StHas.front{v:Option V}(h:StHas K W₀ H₀ W H σ δ):StHas K W₀ H₀ W H (v::σ) (none::δ):=by
 refine⟨h.fr,by simp[h.len],λi s e=>?_,λi j s t a hij os ot e1 e2 e3=>?_⟩
 .cases i with
  |zero=>cases e
  |succ i=>exact h.at' i s e
 .cases i with
  |zero=>cases e1
  |succ i=>
   cases j with
   |zero=>cases e2
   |succ j=>exact h.ap i j s t a (λz=>hij (by rw[z])) os ot e1 e2 e3
end
def Nm:List (Str×(Ca->Res D))->Ca->Res (List D)
 | [],_=>.ok []
 |p::r,δ=>(p.2 δ).bind λd=>(Nm r δ).bind λds=>.ok (d::ds)
def As(n:Nat)(c:Str)(fs:List (Str×(Ca->Res D)))(ds:List D):Res D:=(Nm fs (none::Ob n ds)).bind λes=>.ok (.obj c (fs.map (·.1)) es)
def RI(K:Frag)(W₀:WS)(H₀:Hp)(W:WS)(δ:Ca)(σ:L2.St)(C dx x:Addr)(ks:List Str)(ds:List D)(r:Res (List D))(Dn:Ends):Prop:=match r with
 | .ok es=>∀ H' fl',StHas K W₀ H₀ W H' σ δ->H' x=some (.ins C dx fl')->fl'.map (·.1)=ks->HasL K W H' (ds++es) (fl'.map (·.2))->Dn.nx σ H'
 |_=>False
def B9(K:Frag)(C:Addr)(fs:List (Str×(Ca->Res D))):TS:=λDn σ H=>∃ W₀ H₀ W δ x dx fl ds,StHas K W₀ H₀ W H σ δ/\σ[0]? =some (some (.ref x))/\W x/\H₀ x=none/\H x=some (.ins C dx fl)/\
 HasL K W H ds (fl.map (·.2))/\(fl.map (·.1)++fs.map (·.1)).Nodup/\fl.length+fs.length<1000/\RI K W₀ H₀ W δ σ C dx x (fl.map (·.1)++fs.map (·.1)) ds (Nm fs δ) Dn
structure XIn(X:Cx)(C:Addr)(sts:List Stmt)(fs:List (Str×(Ca->Res D))):Prop where
 h:PSs X sts (B9 X.K C fs)
variable{f fb:Ca->Res D}{p1 p3:Pos}
section
variable {C:Addr}{fs:List (Str×(Ca->Res D))}{sts:List Stmt}{p:Pos}{fld:Str}
theorem Z1:XIn X C [] []:=⟨PSs.weak KG λDn σ H ⟨W₀,H₀,W,δ,x,dx,fl,ds,st,_,_,_,hx,hds,_,_,q⟩=>q H fl st hx (by simp) (by rw[append_nil];exact hds)⟩
theorem Wq(cl:Cls X.K C)(hn:NoAttr X.K C fld)(he:XE X Ql e f)(hr:XIn X C sts fs){self:Str}(hN:X.N[0]? =some self:=by rfl)(hv:Kq X.env.scope self:=by first|exact Or.inl rfl|exact Or.inr (Or.inl rfl)|exact Or.inr (Or.inr rfl))(hd:(self==("__debug__":Str))=false:=by decide)(hcd:(self==("__classdict__":Str))=false:=by decide)(hs:swapsWith e (some (.Attribute (.Name self p1) fld p2)) pos.line X.env=pure false:=by rfl):
  XIn X C (.Assign [.Attribute (.Name self p1) fld p2] e pos::sts) ((fld,f)::fs):=⟨by
 refine PSs.weak (Fj (R4 (Zc hN hv hd hcd) he.h hs) hr.h) λDn σ H ⟨W₀,H₀,W,δ,x,dx,fl,ds,st,e0,hW,h0,hx,hds,nd,ln,q⟩=>?_
 rw[List.length_cons]at ln
 show AZ X.K Ql f σ H _
 refine⟨W₀,H₀,W,δ,st,?_⟩
 have eq1:Nm ((fld,f)::fs) δ=(f δ).bind λd=>(Nm fs δ).bind λds=>.ok (d::ds):=rfl
 rw[eq1]at q
 cases h1:f δ with
 |stuck=>rw[h1]at q;exact q.elim
 |ex c fs=>rw[h1]at q;exact q.elim
 |ok d=>
  rw[h1]at q
  intro v H1 k hv
  have hx1:=k _ _ hx
  have st1:=st.same k
  refine⟨.ref x,e0,x,C,dx,fl,rfl,hx1,cl,hn,by omega,?_⟩
  have hf:fld∉fl.map (·.1):=λz=>by
   rw[map_cons,List.nodup_append]at nd
   exact nd.2.2 _ z _ mem_cons_self rfl
  rw[HA _ _ _ hf]
  have kk:Mj W H1 (Jb H1 x (.ins C dx (fl++ [(fld,v)]))):=λb o e n=>by rw[Ha (λz=>n (by rw[z];exact hW))];exact e
  have ek:(fl++ [(fld,v)]).map (·.1)++fs.map (·.1)=fl.map (·.1)++((fld,f)::fs).map (·.1):=by simp
  refine⟨W₀,H₀,W,δ,x,dx,fl++ [(fld,v)],ds++ [d],st1.poke hW h0 hx1,e0,hW,h0,Na,?_,by rw[ek];exact nd,by rw[length_append,length_singleton];omega,?_⟩
  .rw[map_append]
   exact HasL.keep kk st1.fr.wl (λb z=>.inl z) ((hds.same k st.fr.wl).snoc hv)
  .rw[ek]
   cases h2:Nm fs δ with
   |stuck=>rw[h2]at q;exact q.elim
   |ex c gs=>rw[h2]at q;exact q.elim
   |ok es=>
    rw[h2]at q
    intro H' fl' g1 g2 g3 g4
    rw[append_assoc]at g4
    exact q H' fl' g1 g2 g3 g4⟩
end
def spI(K:Frag)(C:Addr)(n:Nat)(nl:Nat)(c:Str)(fs:List (Str×(Ca->Res D))):Sp:=λvs H Q _=>∃ x dx vs' H1 W ds,vs=V.ref x::vs'/\vs'.length=n/\H=Jb (Jb H1 dx (.own x)) x (.ins C dx [])/\H1 x=none/\H1 dx=none/\dx≠x/\
 WL W H1/\HasL K W H1 ds vs'/\match Nm fs (none::Ob nl ds) with
  | .ok es=>∀ H' fl,Same H1 H'->H' x=some (.ins C dx fl)->fl.map (·.1)=fs.map (·.1)->HasL K W H' es (fl.map (·.2))->Q .non H'
  |_=>False
structure FnI(P:Program)(w:World)(K:Frag)(mg:Str->Option Value)(base:Heap)(k:Nat)(c:Str)(n nl:Nat)(fs:List (Str×(Ca->Res D))):Prop where
 ex:∃ j C f fd ps,j+1<=k/\FnOk P w K mg base Po j f fd ps (spI K C n nl c fs)/\Mk K C f/\mg c=some (.ref C)/\nsIn K mainGlobals c=some (some (.ref C))/\Binds K fd ps []
variable{P:Program}{w:World}{mg:Str->Option Value}{base:Heap}{nl:Nat}
theorem FnI.mono{j:Nat}{fs:List (Str×(Ca->Res D))}(F:FnI P w K mg base j c n nl fs)(h:j<=k):FnI P w K mg base k c n nl fs:=by
 obtain⟨i,C,f,fd,ps,a,b⟩:=F.ex
 exact⟨i,C,f,fd,ps,le_trans a h,b⟩
theorem AU{qual:Str}{C fa:Addr}{fd:FuncData}{N ps:List Str}{fs:List (Str×(Ca->Res D))}(F:Fun K "__init__" qual st fa fd)(S:FnScope N ps (Da st))(M:Mk K C fa)(hm:mg c=some (.ref C))(hc:nsIn K mainGlobals c=some (some (.ref C)))(hb:Binds K fd ps [])(body:∀ (cdv:Value) (A:Around) (outer:List Env) (s:Shared) (H:Hp) (E:XK),Room k (A.deeper (envOfC qual (Da st) s.heap.objs.size fa cdv))->
   XIn (Kk Po P w K mg base N qual (Da st) fa cdv A outer s H E).nox C (Fb st) fs)(hps:ps.length=n+1:=by rfl)(hN:N.length=nl+1:=by rfl)(hnd:(fs.map (·.1)).Nodup:=by decide +kernel)(hl:fs.length<1000:=by decide):FnI P w K mg base (k+1+1) c n nl fs:=by
 refine⟨k+1,C,fa,fd,ps,le_refl _,F.ok S (λvs H Q E h=>?_) (λcdv A outer s H vs Q E hr h=>?_),M,hm,hc,hb⟩
 .obtain⟨x,dx,vs',H1,W,ds,rfl,h1,_⟩:=h
  rw[List.length_cons,h1,hps]
 .obtain⟨x,dx,vs',H1,W,ds,rfl,h1,rfl,hx,hdx,ne,wl,hd,q⟩:=h
  have s0:=Ij (N:=replicate nl ("":Str)) wl hd
  rw[length_replicate]at s0
  have es:L2.start N (V.ref x::vs')=some (V.ref x)::L2.start (replicate nl ("":Str)) vs':=by
   unfold L2.start
   rw[length_replicate,hN,List.length_cons,map_cons,cons_append,Nat.add_sub_add_right]
  refine⟨_,(body cdv A outer s _ E hr).h,W,H1,(λb=>W b\/b=x),none::Ob nl ds,x,dx,[],[],?_,by rw[es];rfl,.inr rfl,hx,Na,HasL.nil,by simpa using hnd,by simpa using hl,?_⟩
  .rw[es]
   exact(s0.born hx hdx ne).front
  .cases h2:Nm fs (none::Ob nl ds) with
   |stuck=>rw[h2]at q;exact q.elim
   |ex c gs=>rw[h2]at q;exact q.elim
   |ok es=>
    rw[h2]at q
    exact λH' fl' st' g2 g3 g4=>q H' fl' st'.fr.ext g2 (by simpa using g3) (HasL.keep (λ_ _ e _=>e) st'.fr.wl (λb z=>.inl (.inl z)) (show HasL K (λb=>W b\/b=x) H' es (fl'.map (·.2)) from g4))
variable{gs:Ca->Res (List D)}
section
variable {fs:List (Str×(Ca->Res D))}{p:Pos}{fld:Str}
theorem B6(F:FnI X.prog X.w X.K X.mg X.base k c n nl fs)(hr:Room k X.A)(ha:XA X xw (a::es) gs)(hg:Gl X c:=by rfl)(hdb:(c==("__debug__":Str))=false:=by decide)(he:starEach (a::es) X.env=(false,eval a X.env)::starEach es X.env:=by rfl)(hpl:(backTo pos (starEach es X.env)).any (·.1)=false:=by rfl):
  XE X xw (.Call (.Name c p) (a::es) [] pos) (b1 (Wa n (As nl c fs)) gs):=⟨by
 obtain⟨j,C,fi,fd,ps,hj,G,M,hm,hn,hb⟩:=F.ex
 refine PE.weak (IW M G (hr.mono hj) hg hm hb .nil UY ha.h hdb he hpl) λσ H Q ⟨W₀,H₀,W,δ,st,q⟩=>?_
 refine Dh st q λH2 ds vs k w st2 hv _ q2=>?_
 unfold Wa at q2
 split at q2
 .rename_i hl
  intro x dx hx hdx ne
  rw[append_nil]
  refine⟨x,dx,vs,H2,W,ds,rfl,by rw[<-hv.length];exact hl,rfl,hx,hdx,ne,w,hv,?_⟩
  unfold As at q2
  cases h:Nm fs (none::Ob nl ds) with
  |stuck=>rw[h]at q2;exact q2.elim
  |ex c gs=>rw[h]at q2;exact q2.elim
  |ok es=>
   rw[h]at q2
   exact λH' fl k' g1 g2 g3=>⟨rfl,q2 _ _ k' (by
    rw[Has]
    exact⟨x,C,dx,fl,rfl,hn,g1,(λz=>by obtain⟨o,e,_⟩:=w x z;rw[hx]at e;cases e),g2,g3⟩)⟩
 .exact q2.elim⟩
def Si(c fld:Str):D->Res D
 | .obj c' ks ds=>if c'=c then(match (ks.zip ds).lookup fld with|some d=>.ok d|none=>.stuck) else .stuck
 |_=>.stuck
structure FldK(K:Frag)(c fld:Str):Prop where
 ex:∃ C,nsIn K mainGlobals c=some (some (.ref C))/\Cls K C/\NoAttr K C fld
theorem EF{K:Frag}{W:WS}{H:Hp}{g:Str}{d:D}:∀ {fl:List (Str×V)} {ds:List D},HasL K W H ds (fl.map (·.2))->((fl.map (·.1)).zip ds).lookup g=some d->∃ v,fl.lookup g=some v/\Has K W H d v
 | [],ds,_,e=>by simp at e
 |(k,v)::r,[],h,e=>by simp at e
 |(k,v)::r,d'::ds,h,e=>by
  rw[HasL]at h
  obtain⟨x,r',e1,h1,h2⟩:=h
  rw[map_cons]at e1
  cases e1
  rw[map_cons,zip_cons_cons,lookup_cons]at e
  rw[lookup_cons]
  cases hk:g==k with
  |true=>rw[hk]at e;cases e;exact⟨_,rfl,h1⟩
  |false=>rw[hk]at e;exact EF h2 e
theorem Mt(T:FldK X.K c fld)(he:XE X xw e f)(hb:attributeBase e fld X.env (eval e X.env)=eval e X.env:=by rfl):XE X xw (.Attribute e fld pos) (b1 (Si c fld) f):=
 ⟨PE.weak (D4 he.h hb) λσ H Q ⟨W₀,H₀,W,δ,st,q⟩=>Fp st q λH2 d v k w st2 hv _ q2=>by
  unfold Si at q2
  cases d with
  |obj c' ks ds=>
   dsimp only at q2
   split at q2
   .rename_i hc
    subst hc
    split at q2
    .rename_i d' hd
     rw[Has]at hv
     obtain⟨ar,C,dx,fl,rfl,hn,hH,_,rfl,hL⟩:=hv
     obtain⟨C',hn',cl,na⟩:=T.ex
     rw[hn]at hn'
     cases hn'
     obtain⟨u,hu,hh⟩:=EF hL hd
     exact⟨ar,C,dx,fl,u,rfl,hH,cl,na,hu,q2 u H2 (Same.refl _) hh⟩
    .exact q2.elim
   .exact q2.elim
  |_=>exact q2.elim⟩
def Qa0(w:World)(e:DictEntry)(p:Str×Str):Prop:=e.hash=X7 w (.inr p.1)/\(∃ t,e.key=.str p.1 t)/\∃ t,e.val=.str p.2 t
structure GlobQ(w:World)(K:Frag)(mg:Str->Option Value)(x:Str)(l:List (Str×Str)):Prop where
 h:∃ (ad:Addr) (o:Obj) (es:Array DictEntry) (n:Nat),mg x=some (.ref ad)/\K.lookup ad=some o/\o.ExactDict/\o.data=.dict es n/\Paired (Qa0 w) es.toList l/\(l.map (·.1)).Nodup
end
variable{apos cpos:Pos}
section
variable {pos' p:Pos}
def Tv(j i:Nat):Ca->Out:=λδ=>match δ[i]? with
 |some (some (.o ds))=>match ds[ds.length-1]? with
  |some d=>.nx ((δ.set i (some (.o ds.dropLast))).set j (some (.d d)))
  |none=>.stuck
 |_=>.stuck
theorem HasL.dropLast{ds:List D}{xs:List V}(h:HasL K W H ds xs):HasL K W H ds.dropLast xs.dropLast:=by
 rw[List.dropLast_eq_take,List.dropLast_eq_take,h.length]
 exact HasL.take _ h
theorem K5(j i:Nat){y:Str}(hNd:X.N.Nodup)(hN:X.N[i]? =some x:=by rfl)(hNj:X.N[j]? =some y:=by rfl)(hv:Kq X.env.scope x:=by first|exact Or.inl rfl|exact Or.inr (Or.inl rfl)|exact Or.inr (Or.inr rfl))(hd:(x==("__debug__":Str))=false:=by decide)(hcd:(x==("__classdict__":Str))=false:=by decide)(hx:Cy X.env.scope y:=by first|exact Or.inl rfl|exact Or.inr rfl)(hbase:attributeBase (.Name x p1) "pop" X.env (eval (.Name x p1) X.env)=eval (.Name x p1) X.env:=by rfl)(hline:(p2.endLine==p3.line)=true:=by rfl)(hsw:swapsWith (.Call (.Attribute (.Name x p1) "pop" p2) [] [] p3) (some (.Name y pos')) pos.line X.env=pure false:=by rfl)(hf:X.fn y=true\/X.env.scope.names.lookup y=some .local:=by first|exact .inl rfl|exact .inr rfl|assumption):
  XS X xw (.Assign [.Name y pos'] (.Call (.Attribute (.Name x p1) "pop" p2) [] [] p3) pos) (Tv j i):=⟨
 PS.weak (Vs hNd hNj hx (B4 PySem.F.plainAttrs_list PySem.F.slot_list_pop PySem.F.type_list_pop D3 (Zc hN hv hd hcd) hbase hline) hsw hf) λDn σ H h=>by
  obtain⟨W₀,H₀,W,δ,st,q⟩:=h
  unfold Tv at q
  split at q
  .rename_i ds h
   split at q
   .rename_i d hd
    obtain⟨v,e1,a,xs,rfl,r2,r3,r4,r5⟩:=st.at' i _ h
    rw[r5.length]at hd
    obtain⟨u,hu,hh⟩:=r5.get hd
    have kk:Mj W H (Jb H a (.lst xs.dropLast)):=λb o e n=>by rw[Ha (λz=>n (by rw[z];exact r2))];exact e
    have st2:=st.change h e1 r4 r2 r5.dropLast
    exact⟨_,e1,.inl ⟨rfl,xs,.of r4⟩,a,xs,u,rfl,rfl,r4,hu,q W _ _ ⟨kk,λ_ z=>.inl z⟩ (st2.set (Has.keep kk st.fr.wl (λb z=>.inl z) hh))⟩
   .exact q.elim
  .exact q.elim⟩
theorem Xw(l b:Addr)(xs ys:Array Value)(n m:Nat)(sl:Array (Option Value))(g0:¬(!xs.isEmpty&&Builtin.List.listTooLong (xs.size+ys.size))=true)(g1:xs.size<=sizeLine)(g2:xs.size+ys.size<=sizeLine+1):
  Meets (Builtin.«list.extend» ⟨[.ref l,.ref b],[]⟩) (λ_ R s=>s.heap.get? l=some {cls:=.type "list",data:=.seq xs n}/\s.heap.get? b=some {cls:=.type "list",data:=.seq ys m,slots:=sl}/\
   R (.ok (.ret .none)) {s with heap:=s.heap.update l (Obj.mapSeq (· ++ys))}):=
 .of_wp λ_ _ _ _ s h=>by
  obtain⟨h0,h1,h2,h3,h4⟩:=s
  obtain⟨el,eb,r⟩:=h
  have g3:(xs++ys).size<=sizeLine+1:=by rw[size_append];exact g2
  wp_walk using (wpAny_updateSeq el rfl (hz:=g1) (_hz':=g3)),wpAny_loadPart' el,wpAny_loadPart' eb
  exact⟨_,rfl,r⟩
def Q8(K:Frag):V->List V->Hp->VK->Prop:=λx vs H Q=>∃ l b xs zs,x=.ref l/\vs= [.ref b]/\H l=some (.lst xs)/\SqL K H b zs/\xs.length+zs.length<=sizeLine/\Q .non (Jb H l (.lst (xs++zs)))
theorem XU:T6 X "list.extend" (Q8 X.K):=by
 intro pins s σ H x vs v us Q I rx rv h
 obtain⟨l,b,xs,zs,rfl,rfl,hH,hB,hz,q⟩:=h
 cases rx
 obtain⟨u,rfl,ru⟩:=rv.one
 cases ru
 obtain⟨z,its,n,r,hl,e⟩:=I.lstM hH
 obtain⟨its2,r2,⟨⟨cls2,dd2,data2,sl2⟩,n2,e2,hc2,hd2,hs2⟩,hz2⟩:=I.list hB
 simp only at hc2 hd2 hs2
 subst hc2 hd2 hs2
 have k1:=r.length
 have k2:=r2.length
 have hsz:its.toArray.size+its2.toArray.size<=sizeLine:=by rw[size_toArray,size_toArray];omega
 have hlong:¬ (!its.toArray.isEmpty&&Builtin.List.listTooLong (its.toArray.size+its2.toArray.size))=true:=by rw[MO hsz,Bool.and_false];exact Bool.false_ne_true
 refine call_meets F.slot_list_extend ⟨_,e,rfl⟩ F.entry_list_extend (F.args_list_extend_2 _ _) (Xw l b its.toArray its2.toArray n n2 sl2 hlong (by rw[size_toArray];omega) (by omega)) ⟨e,e2,?_⟩
 refine⟨.non,_,I.lset (its':=its++its2) hH e (by simp) (r.append r2) ?_,rfl,q⟩
 rw[length_append]
 omega
def YL(i:Nat)(δ:Ca)(r:Res D):Out:=match δ[i]? with
 |some (some (.o ds))=>Qk r λx=>match x with
  | .lst es=>@ite Out (ds.length+es.length<=100000) (propDecidable _) (.nx (δ.set i (some (.o (ds++es))))) .stuck
  |_=>.stuck
 |_=>.stuck
def MA(i:Nat)(f:Ca->Res D):Ca->Out:=λδ=>YL i δ (f δ)
theorem J5(i:Nat)(he:XE X xw e f)(hN:X.N[i]? =some x:=by rfl)(hv:Kq X.env.scope x:=by first|exact Or.inl rfl|exact Or.inr (Or.inl rfl)|exact Or.inr (Or.inr rfl))(hd:(x==("__debug__":Str))=false:=by decide)(hcd:(x==("__classdict__":Str))=false:=by decide)(hsE:starEach [e] X.env=(false,eval e X.env)::starEach [] X.env:=by rfl)(hbase:attributeBase (.Name x p1) "extend" X.env (eval (.Name x p1) X.env)=eval (.Name x p1) X.env:=by rfl)(hfew:((backTo p3 (starEach [e] X.env)).all (λx=> !x.1)&&(backToKw p3 (keywordEach [] X.env)).all (λx=>x.1.isSome)
   &&decide (([e]:List Expr).length+([]:List Keyword).length+(if([]:List Keyword).isEmpty then 0 else 1)<30))=true:=by rfl)(hline:(p2.endLine==p3.line)=true:=by rfl)(hplain:(backTo p3 (starEach [] X.env)).any (·.1)=false:=by rfl)(hsw:swapsWith (.Call (.Attribute (.Name x p1) "extend" p2) [e] [] p3) none pos.line X.env=pure false:=by rfl):
  XS X xw (.Expr (.Call (.Attribute (.Name x p1) "extend" p2) [e] [] p3) pos) (MA i f):=⟨
 PS.weak (Do (VY PySem.F.plainAttrs_list PySem.F.slot_list_extend PySem.F.type_list_extend XU (Zc hN hv hd hcd) (Ic he.h Vf hsE) hbase hfew hline hsE hplain) hsw) λDn σ H h=>by
  obtain⟨W₀,H₀,W,δ,st,q⟩:=h
  unfold MA YL at q
  split at q
  .rename_i ds h
   obtain⟨v,e1,a,xs,rfl,r2,r3,r4,r5⟩:=st.at' i _ h
   refine⟨_,e1,.inl ⟨rfl,xs,.of r4⟩,?_⟩
   refine Kj st q λH2 d u st2 hu q2=>?_
   cases d with
   |lst es=>
    dsimp only at q2
    split at q2
    .rename_i hlen
     obtain⟨v',e1',a',ys,e',r2',r3',r4',r5'⟩:=st2.at' i _ h
     rw[e1]at e1'
     cases e1'
     cases e'
     rw[Has]at hu
     obtain⟨b,zs,rfl,lr,hz⟩:=hu
     have sz:sizeLine=16777216:=sizeLine_eq
     refine⟨a,b,ys,zs,rfl,rfl,r4',lr.sq,?_,?_⟩
     .have:=r5'.length;have:=hz.length;omega
     .refine q2 W _ σ ⟨λc o e n=>?_,λ_ z=>.inl z⟩ (st2.change h e1 r4' r2' (r5'.append hz))
      rw[Ha (λz=>n (by rw[z];exact r2'))];exact e
    .exact q2.elim
   |_=>exact q2.elim
  .exact q.elim⟩
def XY:V->List V->Hp->VK->Prop:=λx vs H Q=>∃ a kvs k d,x=.ref a/\vs= [kV k,d]/\Rd H a (.dK kvs)/\Q ((Cc kvs k).getD d) H
theorem YU:T6 X "dict.get" XY:=by
 intro pins s σ H x vs v us Q I rx rv h
 obtain⟨a,kvs,k,d,rfl,rfl,hr,q⟩:=h
 cases rx
 cases rv with
 |cons ry rv=>
  obtain⟨u,rfl,ru⟩:=(show Vals [d] _ from rv).one
  obtain⟨_,hS,ws,rel,dd⟩:=Jk I.hok hr
  refine call_meetsIn PySem.F.slot_dict_get dd.typeIs PySem.F.entry_dict_get (PySem.F.args_dict_get_3 _ _ _) (meets_dict_get_default (Cd X.prog X.w) a (Ap ry) hS u) ⟨_,dd.mapOf,?_⟩
  refine⟨_,H,I.tok _,?_,q⟩
  obtain⟨g1,g2⟩:=Cp rel k
  cases h:Cc kvs k with
  |some z=>
   obtain⟨w',hw,rw'⟩:=g1 z h
   rw[hw];exact rw'
  |none=>rw[g2 h];exact ru
def IF(l:List (Cb×D))(d e:D):Res D:=match Pz d with
 |some k=>.ok ((Cc l k).getD e)
 |none=>.stuck
def MH(f:Ca->Res (List (Cb×D)))(g:Ca->Res (List D)):Ca->Res D:=λδ=>(f δ).bind λl=>(g δ).bind λds=>match ds with
 | [d,e]=>IF l d e
 |_=>.stuck
theorem GW{o:Expr}{to:TE}{t:TA}(ho:PE X o to)(ha:PA X (e::es) t)(hbase:attributeBase o "get" X.env (eval o X.env)=eval o X.env:=by rfl)(hfew:((backTo cpos (starEach (e::es) X.env)).all (λx=> !x.1)&&(backToKw cpos (keywordEach [] X.env)).all (λx=>x.1.isSome)
   &&decide ((e::es).length+([]:List Keyword).length+(if([]:List Keyword).isEmpty then 0 else 1)<30))=true:=by rfl)(hline:(apos.endLine==cpos.line)=true:=by rfl)(hs:starEach (e::es) X.env=(false,eval e X.env)::starEach es X.env:=by rfl)(hplain:(backTo cpos (starEach es X.env)).any (·.1)=false:=by rfl):
  PE X (.Call (.Attribute o "get" apos) (e::es) [] cpos) (λσ H Q=>to σ H λx H1=>(∃ a kvs,x=.ref a/\Rd H1 a (.dK kvs))/\t σ H1 λxs H2=>XY x xs H2 Q):=by
 intro pins s σ H Q I h
 refine wpAny_Call_method_late hbase hfew hline rfl (thn (ho pins s σ H _ I h) λv s1 ⟨x,H1,I1,r1,ty,q1⟩=>?_)
 obtain⟨a,kvs,rfl,hr⟩:=ty
 have r2:=r1
 cases r2
 obtain⟨_,hS,ws,rel,dd⟩:=Jk I1.hok hr
 refine⟨"dict","dict.get",PySem.F.plainAttrs_dict,PySem.F.slot_dict_get,PySem.F.type_dict_get,dd.typeIs,dd.mapOf.noDict,?_⟩
 have hA:=ha cpos pins s1 σ H1 _ I1 q1
 rw[hs]at hA ⊢
 refine Calls.callWith_builtin (by show(false||(backTo cpos (starEach es X.env)).any (·.1))=false;rw[hplain]<;>rfl) (Calls.evalArgs_plain ?_)
 exact thn hA λus s2 ⟨vs,H2,I2,r3,q2⟩=>YU pins s2 σ H2 _ vs _ us Q I2 r1 r3 q2
theorem Y5{fq:Ca->Res (List (Cb×D))}(ho:XQ X xw a fq)(ha:XA X xw (e::es) gs)(hbase:attributeBase a "get" X.env (eval a X.env)=eval a X.env:=by rfl)(hfew:((backTo cpos (starEach (e::es) X.env)).all (λx=> !x.1)&&(backToKw cpos (keywordEach [] X.env)).all (λx=>x.1.isSome)
   &&decide ((e::es).length+([]:List Keyword).length+(if([]:List Keyword).isEmpty then 0 else 1)<30))=true:=by rfl)(hline:(apos.endLine==cpos.line)=true:=by rfl)(hs:starEach (e::es) X.env=(false,eval e X.env)::starEach es X.env:=by rfl)(hplain:(backTo cpos (starEach es X.env)).any (·.1)=false:=by rfl):
  XE X xw (.Call (.Attribute a "get" apos) (e::es) [] cpos) (MH fq gs):=⟨
 PE.weak (GW ho.h ha.h hbase hfew hline hs hplain) λσ H Q h=>by
  obtain⟨W₀,H₀,W,δ,st,q⟩:=h
  unfold MH at q
  refine⟨W₀,H₀,W,δ,st,?_⟩
  cases h1:fq δ with
  |stuck=>rw[h1]at q;exact q
  |ex c fs=>rw[h1]at q;exact q
  |ok l=>
   rw[h1]at q
   intro ar kvs H1 k1 hr hp
   refine⟨⟨ar,kvs,rfl,hr⟩,W₀,H₀,W,δ,st.same k1,?_⟩
   simp only[Res.bind_ok]at q
   cases h2:gs δ with
   |stuck=>rw[h2]at q;exact q
   |ex c fs=>rw[h2]at q;exact λH2 k2=>q H2 (k1.trans k2)
   |ok ds=>
    rw[h2,Res.bind_ok]at q
    intro vs H2 k2 hvs
    split at q
    .rename_i d e'
     unfold IF at q
     split at q
     .rename_i k hk
      rw[HasL]at hvs
      obtain⟨x1,r1,rfl,g1,hvs⟩:=hvs
      rw[HasL]at hvs
      obtain⟨x2,r2,rfl,g2,hvs⟩:=hvs
      rw[HasL]at hvs
      subst hvs
      have e1:=Aj g1.top hk
      have hp2:=hp.same k2 (st.same k1).fr.wl
      obtain⟨p1,p2⟩:=hp2.get k
      refine⟨ar,kvs,k,x2,rfl,by rw[e1],Rd.same hr k2,q _ H2 (k1.trans k2) ?_⟩
      cases hg:Cc l k with
      |some d'=>
       obtain⟨v,hv,hh⟩:=p1 d' hg
       rw[hv];exact hh
      |none=>rw[p2 hg];exact g2
     .exact q.elim
    .exact q.elim⟩
end
section
variable {ff:Ca->Res (List D)}
end
def AJ:D->D->Res D
 | .str x,.int n=>@ite (Res D) (0<=n/\n<=1000/\x.length<=1000) (propDecidable _) (.ok (.str (PySem.Txt.mul x n))) .stuck
 |_,_=>.stuck
theorem VC:MulOk x 0:=by
 refine⟨?_,λ_ h=>?_,λh=>?_⟩<;>first|rfl|omega|simp_all|decide
theorem BR(ha:XP X xw a fa)(hb:XP X xw b fb):XE X xw (.BinOp a .Mult b pos) (b2 AJ fa fb):=⟨by
 refine Bn SV (λW H d e v u Q w hv hu q=>?_) ha.h hb.h
 unfold AJ at q
 split at q
 .split at q
  .rename_i n hj
   refine⟨_,_,hv.str,hu.int,?_,q.str⟩
   by_cases h:1<=n
   .exact Wz h hj.2.1 hj.2.2
   .have:n=0:=by omega
    rw[this];exact VC
  .exact q.elim
 .exact q.elim⟩
end L3
namespace L2
open PySem PySem.Spec PyProof.Rows
variable {X:Cx}{pos:Pos}
end L2
namespace L3
open PySem PySem.Spec PyProof.Rows L2 SeqAt
variable {X:Cx}{pos:Pos}{tgs:List Expr}{ts:List D->Ca->Res Ca}
end L3
namespace PySem
open Sem (wp)
variable{mN:Str->Option Value}
section
variable {prog:Program}{w:World}{A:Around}{E:Value->Shared->Prop}{h:Heap}{g:Array GenState}{d:Drawn}{t:Nat}{os:OsState}
variable {nm q:Str}{C N f:Addr}{bs bm bmB:List Value}{hdct:Bool}{sn:List Str}{sub:List Value}{ab:Bool}{col:Option Bool}{dd:Option Addr}{k0 k1 k2 k3 k5:Option Value}{B newId initId:String}
def Pi(h:Heap)(C:Addr)(rest:List Value):Heap:=(h.push {cls:=.type "tuple",data:=.seq rest.toArray}).push {cls:=.ref C,data:=.fields #[.ref h.objs.size,.none,.none,.none,.bool false,.none]}
theorem Qi{b:Addr}{o:Obj}{rest:List Value}(e:h.get? b=some o):(Pi h C rest).get? b=some o:=get?_push_of_some _ (get?_push_of_some _ e)
theorem Vu(rest:List Value):(Pi h C rest).get? (h.objs.size+1)=some {cls:=.ref C,data:=.fields #[.ref h.objs.size,.none,.none,.none,.bool false,.none]}:=by
 unfold Pi
 heap_get
theorem WN(F:ExcBaseFacts B newId initId bmB)(T:OwnTail h bmB bm){rest:List Value}{Q:Fin->Shared->Prop}(kl:h.get? C=some (excClassObj nm q C N bs bm hdct sn sub ab col dd k0 k1 k2 k3 k5 newId))(ns:h.Ns N mN)(hi:mN "__init__"=some (.ref f))(hrest:rest.length<=sizeLine)(hb:∀ self:Value,W.Looks (model prog w) h (bindSpecial (.ref f) self) (.ref f,[self]))(hq:codeAny (model prog w) A (.call (.ref f) ⟨.ref (h.objs.size+1)::rest,[]⟩) (λr s'=>match r with
   | .ok (.ret v)=>v=.none/\Q (.done (.ret (.ref (h.objs.size+1)))) s'
   | .ok _=>False
   | .error e=>E e s') ⟨Pi h C rest,g,d,t,os⟩):
  wpAny (model prog w) A (Builtin.«type.__call__» ⟨.ref C::rest,[]⟩) Q E ⟨h,g,d,t,os⟩:=by
 repeat (first|with_reducible refine wpAny_loadPart_at kl ?_|with_reducible refine wpAny_madeBy_exc kl ?_|wp_step)
 refine codeAny_call_builtin_code (Code.quiet_builtin _ F.quiet) (wpAny_check_new_subT F T kl ?_)
 refine codeAny_exc_new_subT F T kl ?_ hrest
 show wpAny _ _ _ _ _ _
 have kl1:(Pi h C rest).get? C=_:=Qi kl
 have ns1:(Pi h C rest).Ns N mN:=by
  obtain⟨o,es,ep,e,r⟩:=ns
  exact⟨o,es,ep,Qi e,r⟩
 have tl1:=T.keeps (h':=Pi h C rest) λb o e=>Qi e
 have hb1:=W.Looks.keeps (hb (.ref (h.objs.size+1))) (h':=Pi h C rest) λb o e=>Qi e
 have at1:=Vu (h:=h) (C:=C) rest
 have own:(Value.ref C::bm).contains (.ref C)=true:=by simp
 show wpAny _ _ _ _ _ ⟨Pi h C rest,g,d,t,os⟩
 generalize Pi h C rest=h1 at*
 unfold isInstance
 repeat (first|with_reducible refine wpAny_loadPart_at at1 ?_|(with_reducible refine wpAny_isSubtype_exc kl1 ?_;rw[own])|wp_step)
 show wpAny _ _ (typeLookup (.ref C) _) _ _ _
 refine wpAny_typeLookup_tail kl1 ns1 tl1 F.mroIs F.init.lookup ?_
 rw[hi]
 show wpAny _ _ (holding _ (bindSpecial _ _ >>= _)) _ _ _
 refine wpAny_holding (wpAny_bind (W.Looks.at hb1 ?_))
 refine wpAny_bind (wpAny_call (codeAny_mono hq λr s' z=>?_))
 rcases r with e|(v|_|_|_)<;>first|exact z|exact z.elim|skip
 obtain⟨rfl,z⟩:=z
 exact wpAny_pure (wpAny_pure z)
theorem WK(F:ExcBaseFacts B newId initId bmB)(T:OwnTail h bmB bm){rest:List Value}{Q:Value->Shared->Prop}(kl:h.get? C=some (excClassObj nm q C N bs bm hdct sn sub ab col dd k0 k1 k2 k3 k5 newId))(ns:h.Ns N mN)(hi:mN "__init__"=some (.ref f))(hrest:rest.length<=sizeLine)(hb:∀ self:Value,W.Looks (model prog w) h (bindSpecial (.ref f) self) (.ref f,[self]))(hq:codeAny (model prog w) (A.under (.builtin "type.__call__" ⟨.ref C::rest,[]⟩)) (.call (.ref f) ⟨.ref (h.objs.size+1)::rest,[]⟩) (λr s'=>match r with
   | .ok (.ret v)=>v=.none/\Q (.ref (h.objs.size+1)) s'
   | .ok _=>False
   | .error e=>E e s') ⟨Pi h C rest,g,d,t,os⟩):
  wpAny (model prog w) A (call (.ref C) rest) Q E ⟨h,g,d,t,os⟩:=by
 have look:=tc_lookup
 have bnd:=tc_bind (.ref C)
 have isT:(⟨h,g,d,t,os⟩:Shared).TypeIs (.ref C) "type":=⟨_,kl,rfl⟩
 refine wpAny_call (codeAny_of_tree ?_)
 show wpAny _ _ (callAny (.ref C) _) _ _ _
 repeat (any_goals (first|assumption|with_reducible refine wpAny_loadPart_at kl ?_|wp_step))
 refine⟨rfl,?_⟩
 refine codeAny_call_builtin_at (Code.quiet_builtin _ (by decide +kernel)) entry_typeCall (wpAny_check_type_call_sub kl (WN F T kl ns hi hrest hb ?_))
 exact hq
end
end PySem
namespace PySem
open Sem (wp)
open Builtin Builtin.ObjectAttr W
variable{vs:Array Value}{sl:Array (Option Value)}{name:Str}{tk:Tok}{cd:ClassData}{n:Nat}
section
variable {prog:Program}{w:World}{A:Around}{E:Value->Shared->Prop}{h:Heap}{g:Array GenState}{d:Drawn}{t:Nat}{os:OsState}{K:Frag}
variable {nm q:Str}{C N e:Addr}{bs bm bmB:List Value}{hdct:Bool}{sn:List Str}{sub:List Value}{ab:Bool}{col:Option Bool}{dd:Option Addr}{k0 k1 k2 k3 k5:Option Value}{newId:String}
abbrev CH:List Value:= [.type "ValueError",.type "Exception",.type "BaseException",.type "object"]
def Zn:Nat->List Value->Bool
 |0,l=>l==CH
 |n+1,.ref _::r=>Zn n r
 |_+1,_=>false
theorem Gn(self:Value):∀ {n:Nat} {l:List Value},Zn n l=true->refuseLoop self "__setattr__" l=pure ()
 |0,_,e=>by rw[beq_iff_eq.mp e];exact F.store_ValueError.passes self
 |n+1,.ref _::r,e=>by rw[refuseLoop_ref];exact Gn (n:=n) self e
theorem SL{v:Value}{b:Bool}{Q:Fin->Shared->Prop}(KX:K.In h)(he:h.get? e=some ⟨.ref C,none,.fields vs,sl⟩)(f4:clsIn K C=some cd)(f6:cd.hasDict=true)(hq:∀ h' tk' dx,(∀ b o,b≠e->h.get? b=some o->h'.get? b=some o)->h'.get? e=some ⟨.ref C,some dx,.fields vs,sl⟩->h.objs.size<=dx->h'.Ns1 dx (λx=>if x=name then some v else none)->Q (.done (.ret .none)) ⟨h',g,d,tk',os⟩):
  wpAny (model prog w) A (storeInOwnDict (.ref e) (.ref C) (.str name tk) name v b) Q E ⟨h,g,d,t,os⟩:=by
 have es:e≠h.objs.size:=ne_of_lt (lt_size he)
 have cl:=looks_clsIn (M:=model prog w) KX f4
 let d0:Obj:= {cls:=.type "dict",data:=.dict #[]}
 have he1:(h.push d0).get? e=some ⟨.ref C,none,.fields vs,sl⟩:=get?_push_of_some _ he
 unfold storeInOwnDict
 refine wpAny_bind (wpAny_pure ?_)
 show wpAny _ _ (instanceDict e true >>= _) _ _ _
 unfold instanceDict
 refine wpAny_bind (wpAny_bind (wpAny_loadPart he ?_))
 show wpAny _ _ (classData C >>= _) _ _ _
 refine wpAny_bind (cl.at ?_)
 rw[f6]
 show wpAny _ _ (alloc d0 >>= _) _ _ _
 refine wpAny_bind (wpAny_alloc' ?_)
 refine wpAny_bind (wpAny_update' he1 ?_)
 refine wpAny_pure (a:=some h.objs.size) ?_
 have gd:((h.push d0).update e λo=> {cls:=o.cls,dict:=some h.objs.size,data:=o.data,slots:=o.slots}).get? h.objs.size=some d0:=
  (Heap.get?_update_ne _ _ _ _ es.symm).trans (Heap.get?_push_at rfl rfl)
 have ge:((h.push d0).update e λo=> {cls:=o.cls,dict:=some h.objs.size,data:=o.data,slots:=o.slots}).get? e=some ⟨.ref C,some h.objs.size,.fields vs,sl⟩:=get?_update_self _ he1 rfl
 have kp:∀ b o,b≠e->h.get? b=some o->((h.push d0).update e λo=> {cls:=o.cls,dict:=some h.objs.size,data:=o.data,slots:=o.slots}).get? b=some o:=λb o hb q=>
  (Heap.get?_update_ne _ _ _ _ hb).trans (get?_push_of_some _ q)
 show wpAny _ _ (storeInDict h.objs.size (.str name tk) name v) _ _ ⟨(h.push d0).update e _,g,d,t,os⟩
 revert gd ge kp
 generalize ((h.push d0).update e λo=> {cls:=o.cls,dict:=some h.objs.size,data:=o.data,slots:=o.slots})=h1
 intro gd ge kp
 have nd:h1.Ns h.objs.size (λ_=>none):=⟨_,#[],_,gd,rfl,λe he=>absurd he (by simp),λ_=>rfl⟩
 unfold storeInDict newKeyGuard
 refine wpAny_bind (wpAny_pure (wpAny_bind (wpAny_nsSet1 (Heap.Ns1.of_empty nd) λh' n1 same=>?_)))
 obtain⟨oD,eD,pD,oDh,dD,cD⟩:=n1.count (Within.cons name v Within.nil)
 refine wpAny_bind (wpAny_lookBehind oDh (by rw[dD];exact pastItsLine_dict (le_trans cD (by rw[List.length_cons,length_nil,sizeLine_eq];omega))) ?_)
 refine wpAny_pure (hq h' _ h.objs.size (λb o hb q=>(same.2 b (ne_of_lt (lt_size q))).trans (kp b o hb q)) ((same.2 e es).trans ge) (le_refl _) n1)
theorem WV{v:Value}{R:Result->Shared->Prop}(KX:K.In h)(he:h.get? e=some ⟨.ref C,none,.fields vs,sl⟩)(f2:findIn K (.ref C) name=some none)(f3:mroIn K C (.type "object")=some true)(f4:clsIn K C=some cd)(f5:Zn n cd.mro=true)(f6:cd.hasDict=true)(hq:∀ h' tk' dx,(∀ b o,b≠e->h.get? b=some o->h'.get? b=some o)->h'.get? e=some ⟨.ref C,some dx,.fields vs,sl⟩->h.objs.size<=dx->h'.Ns1 dx (λx=>if x=name then some v else none)->R (.ok (.ret .none)) ⟨h',g,d,tk',os⟩):
  codeAny (model prog w) A (.call (.builtin "object.__setattr__") ⟨[.ref e,.str name tk,v],[]⟩) R ⟨h,g,d,t,os⟩:=by
 have L0:Looks (model prog w) h (typeOf (.ref e)) (.ref C):=(Looks.ld he).andThen .now
 have L2:=looks_findIn (M:=model prog w) KX f2
 have L3:Looks (model prog w) h (isInstance (.ref e) (.type "object")) true:=L0.andThen (looks_mroIn KX f3)
 have L4:Looks (model prog w) h (mroOf (.ref C)) cd.mro:=(looks_clsIn KX f4).andThen .now
 have SF:=F.store_object
 refine codeAny_call_builtin SF.slot.plain SF.entry (@check_slot (model prog w) _ _ ⟨h,g,d,t,os⟩ "object.__setattr__" "object" "__setattr__" (.ref e) [.str name tk,v] [] _ SF.kind SF.split L3 (SF.args (.ref e) (.str name tk) v) ?_)
 rw[osa_eq,refuse_eq]
 refine wpAny_bind (wpAny_bind (L0.at (wpAny_bind (L4.at ?_))))
 rw[Gn _ f5]
 refine wpAny_pure (wpAny_bind (L0.at (wpAny_bind (L2.at (wpAny_bind (wpAny_pure (a:=(none:Option Value)) ?_))))))
 exact SL KX he f4 f6 λh' tk' dx a b c e=>hq h' tk' dx a b c e
theorem Wu{v:Value}{Q:Unit->Shared->Prop}(KX:K.In h)(he:h.get? e=some ⟨.ref C,none,.fields vs,sl⟩)(f1:findIn K (.ref C) "__setattr__"=some (some (.builtin "object.__setattr__")))(f2:findIn K (.ref C) name=some none)(f3:mroIn K C (.type "object")=some true)(f4:clsIn K C=some cd)(f5:Zn n cd.mro=true)(f6:cd.hasDict=true)(hq:∀ h' tk' dx,(∀ b o,b≠e->h.get? b=some o->h'.get? b=some o)->h'.get? e=some ⟨.ref C,some dx,.fields vs,sl⟩->h.objs.size<=dx->h'.Ns1 dx (λx=>if x=name then some v else none)->Q () ⟨h',g,d,tk',os⟩):
  wpAny (model prog w) A (setAttr (.ref e) name v) Q E ⟨h,g,d,t,os⟩:=by
 have L0:Looks (model prog w) h (typeOf (.ref e)) (.ref C):=(Looks.ld he).andThen .now
 have L1:=looks_findIn (M:=model prog w) KX f1
 unfold setAttr callSpecial? specialOf
 repeat (first|with_reducible refine wpAny_call ?_|lk)
 refine WV KX he f2 f3 f4 f5 f6 λh' tk' dx a b c e=>?_
 exact wpAny_pure (wpAny_pure (hq h' tk' dx a b c e))
end
end PySem
namespace PySem
open Sem (wp)
open W
section
variable {prog:Program}{w:World}{A:Around}{E:Value->Shared->Prop}{h:Heap}{g:Array GenState}{d:Drawn}{t:Nat}{os:OsState}
variable {nm q:Str}{C N e:Addr}{bs bm bmB:List Value}{hdct:Bool}{sn:List Str}{sub:List Value}{ab:Bool}{col:Option Bool}{dd:Option Addr}{k0 k1 k2 k3 k5:Option Value}{B newId initId:String}
theorem Tt(F:ExcBaseFacts B newId initId bmB)(T:OwnTail h bmB bm)(kl:h.get? C=some (excClassObj nm q C N bs bm hdct sn sub ab col dd k0 k1 k2 k3 k5 newId)){t0:Addr}{sl:Array (Option Value)}{u:Value}{Q:Value->Shared->Prop}(he:h.get? e=some ⟨.ref C,none,.fields #[.ref t0,.none,.none,.none,.bool false,.none],sl⟩)(hq:∀ h' t1,(∀ b o,b≠e->h.get? b=some o->h'.get? b=some o)->h'.get? e=some ⟨.ref C,none,.fields #[.ref t1,.none,.none,.none,.bool false,.none],sl⟩->Q .none ⟨h',g,d,t,os⟩):
  wpAny (model prog w) A (call (.builtin initId) [.ref e,u]) Q E ⟨h,g,d,t,os⟩:=by
 refine wpAny_call (codeAny_call_builtin F.init.plain F.initEntry (wpAny_check_init_subT F T kl he rfl ?_))
 wp_walk
 have he1:(h.push {cls:=.type "tuple",data:=.seq #[u]}).get? e=some ⟨.ref C,none,.fields #[.ref t0,.none,.none,.none,.bool false,.none],sl⟩:=get?_push_of_some _ he
 refine hq _ h.objs.size (λb o hb k=>?_) ?_
 .rw[get?_update_other _ _ (Ne.symm hb)]
  exact get?_push_of_some _ k
 .rw[get?_update_self _ he1 rfl]
  rfl
end
end PySem
namespace L2
open PySem PySem.Spec PyProof.Rows
def Jq(a C:Addr)(h:Heap):Prop:=∃ t0 sl,h.get? a=some ⟨.ref C,none,.fields #[.ref t0,.none,.none,.none,.bool false,.none],sl⟩
def Hh(a C:Addr)(dx:Option Addr)(h:Heap):Prop:=∃ t0 sl,h.get? a=some ⟨.ref C,dx,.fields #[.ref t0,.none,.none,.none,.bool false,.none],sl⟩
variable{P:Program}{w:World}{H:Hp}{a:Addr}
theorem YE{h:Heap}{C:Addr}(x:Jq a C h):ObjOk P w H h a (.ext (Jq a C)):=by
 obtain⟨t0,sl,e⟩:=x
 exact⟨⟨t0,sl,e⟩,⟨_,e⟩,λh1 h2 ⟨t,z,q⟩ k=>⟨t,z,k _ q⟩⟩
theorem ZE{h:Heap}{C:Addr}{dx:Option Addr}(x:Hh a C dx h):ObjOk P w H h a (.ext (Hh a C dx)):=by
 obtain⟨t0,sl,e⟩:=x
 exact⟨⟨t0,sl,e⟩,⟨_,e⟩,λh1 h2 ⟨t,z,q⟩ k=>⟨t,z,k _ q⟩⟩
variable{X:Cx}
theorem Kz{pins:List (Addr×Obj)}{σ:St}{H':Hp}{s s':Shared}{u:HO}(I:Inv X pins σ H s)(I':Inv X pins σ H' s')(hex:X.ex= [])(new:s.heap.get? a=none)(nh:H' a=none)(x:ObjOk X.prog X.w (Jb H' a u) s'.heap a u):Inv X pins σ (Jb H' a u) s':=by
 have ne:∀ b o,s.heap.get? b=some o->b≠a:=λb o e z=>by rw[z,new]at e;cases e
 have ne0:∀ b o,X.s₀.heap.get? b=some o->b≠a:=λb o e=>by
  obtain⟨o',e'⟩:=I.base.there b o e (by rw[hex];simp)
  exact ne b o' e'
 have up:∀ b o,H' b=some o->Jb H' a u b=some o:=λb o e=>by rw[Ha (Pa e nh)];exact e
 refine⟨I'.ok,I'.os,I'.bare,⟨I'.base.keep,I'.base.slot,λb o e n hx=>?_,I'.base.there,λb xs e=>up _ _ (I'.base.tups b xs e),λb o v e=>up _ _ (I'.base.frzs b o v e),λb ps e=>?_⟩,I'.loc,I'.cell,?_,λy c e=>?_,λp hp=>?_,λb v e=>?_,I'.len⟩
 .rw[Ha (ne0 b o e)];exact I'.base.free b o e n hx
 .obtain⟨m,e1⟩:=I'.base.tbls b ps e
  exact⟨m,up _ _ e1⟩
 .obtain⟨m,⟨o,_,_,ho,_⟩,_⟩:=I.loc
  rw[Ha (ne _ o ho)];exact I'.free
 .obtain⟨v,o,ho,_⟩:=I.cell y c e
  rw[Ha (ne c o ho)];exact I'.freeC y c e
 .obtain⟨e,n,r⟩:=I'.pin p hp
  refine⟨e,?_,r⟩
  rw[Ha (ne p.1 _ (I.pin p hp).1)];exact n
 .by_cases hb:b=a
  .subst hb
   rw[Na]at e
   cases e
   exact x
  .rw[Ha hb]at e
   exact(I'.hok b v e).stay (λ_ _ _ q=>q) (λc q=>up _ _ q) λc xs q=>up _ _ q
theorem UQ{o:HO}(e:H a=some o):Jb H a o=H:=by
 funext b
 unfold Jb
 split
 .rename_i z;rw[z,e]
 .rfl
structure XInit(K:Frag)(C S f:Addr):Prop where
 obj:∃ nm q N bs bm hdct sn sub ab col dd k0 k1 k2 k3 k5,K.lookup C=some (excClassObj nm q C N bs bm hdct sn sub ab col dd k0 k1 k2 k3 k5 "ValueError.__new__")/\nsOkIn K N=true/\
  nsIn K N "__init__"=some (some (.ref f))/\tailIn K CH bm=true
 ini:typeIn K (.ref f)=some (.type "function")
 kpC:keepIn K (.ref C)=true
 sa:findIn K (.ref C) "__setattr__"=some (some (.builtin "object.__setattr__"))
 ob:mroIn K C (.type "object")=some true
 cl:∃ cd n,PySem.W.clsIn K C=some cd/\Zn n cd.mro=true/\cd.hasDict=true
 bga:specialIn K (.ref S) "__getattribute__"=some (some (.builtin "type.__getattribute__"))
 brd:readsIn K S (.type "type")=true
 bfi:findCls K (.ref S) (.type "type") "__init__"=some (.val (.builtin "ValueError.__init__"))
section
variable {pos p apos p2:Pos}{a b o e:Expr}{es:List Expr}{ta tb to:TE}{t:TA}{C S f:Addr}
theorem GA{x:Str}{pl:Sem Bool}(Z:XInit X.K C S f)(hg:Gl X x)(hm:X.mg x=some (.ref S))(ha:PA X (e::es) t)(hdb:(x==("__debug__":Str))=false:=by decide)(hst:starEach (e::es) X.env=(false,eval e X.env)::starEach es X.env:=by rfl)(hpl:(backTo pos (starEach es X.env)).any (·.1)=false:=by rfl)(hkw:backToKw pos (keywordEach [] X.env)= []:=by rfl)(ht:eval (.Call (.Attribute (.Name x p) "__init__" apos) (e::es) [] pos) X.env=(do
   let ov <-eval (.Name x p) X.env
   standAt apos.atName
   let (f,first) <-holding [ov] (getMethod ov "__init__" pl)
   callWith pos f first (backTo pos (starEach (e::es) X.env)) (backToKw pos (keywordEach [] X.env))):=by rfl):
  PE X (.Call (.Attribute (.Name x p) "__init__" apos) (e::es) [] pos) (λσ H Q=>t σ H λvs H1=>∃ a z,vs= [.ref a,.str z]/\H1 a=some (.ext (Jq a C))/\Q .non H1):=by
 intro pins s σ H Q I h
 refine PySem.W.methodCall_KW (pl:=pl) (Xj I hg hm ?_ hdb) ht
 refine PySem.W.method_cls I.kIn Z.bga (PySem.W.cls_value I.kIn Z.brd Z.bfi rfl ?_)
 rw[hkw]
 have hA:=ha pos pins {s with toks:=s.toks+1} σ H _ (I.tok _) h
 rw[hst]at hA ⊢
 refine Calls.callWith_builtin (by show(false||(backTo pos (starEach es X.env)).any (·.1))=false;rw[hpl]<;>rfl) (Calls.evalArgs_plain ?_)
 refine thn hA λus s2 ⟨vs,H2,I2,r2,a,z,ev,hH,q⟩=>?_
 subst ev
 obtain⟨u1,u2,rfl,ra,rz⟩:=Vals.two r2
 obtain rfl:u1=.ref a:=ra
 obtain⟨nm,qn,N,bs,bm,hdct,sn,sub,ab,col,dd,k0,k1,k2,k3,k5,lk,_,_,tl⟩:=Z.obj
 obtain⟨⟨t0,sl,he⟩,_,_⟩:=I2.hok a _ hH
 obtain⟨hp,g,d,tk,os⟩:=s2
 refine Tt F.excBase_ValueError (tail_of_in I2.kIn tl) (I2.kIn _ _ lk) he λh' t1 k ge=>?_
 have I3:=I2.write (h':=h') (t':=tk) (x:=a) (e:=a) (o:=.ext (Jq a C)) (by rw[hH];trivial) (.inl rfl) k ⟨_,ge⟩ (YE ⟨t1,sl,ge⟩)
 rw[UQ hH]at I3
 exact⟨.non,H2,I3,rfl,q⟩
theorem K4{attr:Str}(hex:X.ex= [])(Z:XInit X.K C S f)(hna:findIn X.K (.ref C) attr=some none)(ho:PE X o to):
  PG X (.Attribute o attr apos) (λv σ H Q=>to σ H λx H1=>∃ a,x=.ref a/\H1 a=some (.ext (Jq a C))/\∀ d,H1 d=none->X.s₀.heap.get? d=none->Q σ (Jb (Jb H1 a (.ext (Hh a C (some d)))) d (.xd [(attr,v)]))):=by
 intro pins s σ H v u Q I r h
 rw[arm_assign_Attribute]
 refine wpAny_bind (wpAny_holding (thn (ho pins s σ H _ I h) λov s1 ⟨x,H1,I1,r1,a,ex,hH,q⟩=>?_))
 subst ex
 obtain rfl:ov=.ref a:=r1
 obtain⟨⟨t0,sl,he⟩,_,_⟩:=I1.hok a _ hH
 obtain⟨cd,n,c1,c2,c3⟩:=Z.cl
 obtain⟨hp,g,d,tk,os⟩:=s1
 refine wpAny_bind (wpAny_standAt (wpAny_bind (wpAny_holding (Wu I1.kIn he Z.sa hna Z.ob c1 c2 c3 λh' tk' dx k ge le ns=>?_))))
 have I3:=I1.write (h':=h') (t':=tk') (x:=a) (e:=a) (o:=.ext (Hh a C (some dx))) (by rw[hH];trivial) (.inl rfl) k ⟨_,ge⟩ (ZE ⟨t0,sl,ge⟩)
 have hd1:H1 dx=none:=I1.hok.fresh le
 have hdn:hp.get? dx=none:=Heap.get?_none_of_le le
 have hd0:X.s₀.heap.get? dx=none:=by
  cases z:X.s₀.heap.get? dx with
  |none=>rfl
  |some o=>
   obtain⟨o',e'⟩:=I1.base.there dx o z (by rw[hex];simp)
   rw[show _=hp.get? dx from rfl]at e'
   rw[hdn]at e';cases e'
 have hda:dx≠a:=λz=>by rw[z,hH]at hd1;cases hd1
 have I4:=Kz (u:=.xd [(attr,v)]) I1 I3 hex hdn (by rw[Ha hda];exact hd1) ⟨_,ns,λy=>by
  by_cases hy:y=attr
  .subst hy
   simp only[lookup_cons,beq_self_eq_true,if_true]
   exact r
  .have:(y==attr)=false:=by simp[hy]
   simp only[lookup_cons,this,List.lookup_nil,if_neg hy]
   trivial⟩
 exact wpAny_release ⟨σ,_,I4,q dx hd1 hd0⟩
end
end L2
namespace L3
open PySem PySem.Spec PyProof.Rows L2 SeqAt
def spE(C:Addr)(attr:Str):Sp:=λvs H Q _=>∃ a i,vs= [.ref a,.int i]/\i.natAbs.log2<1920/\(toString i:Str).length<=1000/\H a=some (.ext (Jq a C))/\∀ d,H d=none->Q .non (Jb (Jb H a (.ext (Hh a C (some d)))) d (.xd [(attr,.int i)]))
structure XInE(X:Cx)(C:Addr)(attr:Str)(sts:List Stmt):Prop where
 h:PSs X sts (λD σ H=>∃ a i,σ[0]? =some (some (.ref a))/\σ[1]? =some (some (.int i))/\i.natAbs.log2<1920/\(toString i:Str).length<=1000/\H a=some (.ext (Jq a C))/\∀ d,H d=none->D.nx σ (Jb (Jb H a (.ext (Hh a C (some d)))) d (.xd [(attr,.int i)])))
variable{X:Cx}
section
variable {C S f:Addr}{xb self x attr c0:Str}{p1 p2 p3 p4 p5 p6 p7 p8 p9 q1 q2 q3 q4:Pos}{j:Nat}
end
def Uu(H:Hp)(a:Addr):Hp:=λb=>if b=a then none else H b
variable{H:Hp}{a b:Addr}
theorem Df(h:b≠a):Uu H a b=H b:=by unfold Uu;rw[if_neg h]
theorem Ni:Uu H a a=none:=by unfold Uu;rw[if_pos rfl]
theorem Oi{o:HO}(h:Uu H a b=some o):b≠a/\H b=some o:=by
 unfold Uu at h
 split at h
 .cases h
 .rename_i z;exact⟨z,h⟩
section
variable {pins:List (Addr×Obj)}{σ:L2.St}{s:Shared}{C:Addr}{dx:Option Addr}{M:Model}{Ex:Value->Shared->Prop}
theorem YT{E:XK}{Q:Unit->Shared->Prop}(I:Inv X pins σ H s)(hex:X.ex= [])(hst:X.stack=X.env::X.outer)(hfr:X.env.frame=some X.env.locals)(hH:H a=some (.ext (Hh a C dx)))(hnew:X.s₀.heap.get? a=none)(hE:E (.ref C) (dx,true) (Uu H a))(hQ:∀ s'',FB X.prog X.w X.outer X.H₀ X.s₀ E (.ref a) s''->Q () s''):wpAny M X.A (leaving X.env (.ref a)) Q Ex s:=by
 have es:=Ui hst hfr
 have noex:∀ b,b∉X.ex:=λb=>by rw[hex];simp
 obtain⟨⟨t0,sl,he⟩,_,_⟩:=I.hok a _ hH
 have nst:∀ b u,H b=some u->b∉He X.stack:=λb u q z=>by rw[I.stkFree b z]at q;cases q
 have hin:∀ env∈X.env::X.outer,∀ b,env.frame=some b->b∈a::He X.stack:=λenv q b hb=>by
  rw[hst];exact mem_cons_of_mem _ (List.mem_filterMap.mpr ⟨env,q,hb⟩)
 have ff:s.heap.FunFrames (hideAll s.heap (a::He X.stack)) (X.env::X.outer):=PySem.W.funFrames_hide (by rw[<-hst];exact I.stack) hin
 have old:∀ b o,X.s₀.heap.get? b=some o->b≠a:=λb o q z=>by rw[z,hnew]at q;cases q
 have nl:∀ b,b∉He X.outer->((Uu H a b).isSome=true\/(X.s₀.heap.get? b).isSome=true)->b∉a::He X.stack:=λb hb h z=>by
  rcases mem_cons.mp z with z|z
  .rw[z,Ni,hnew]at h
   rcases h with h|h<;>cases h
  .rw[es]at z
   rcases mem_cons.mp z with z|z
   .rw[z]at h
    rcases h with h|h
    .obtain⟨o,q⟩:=isSome_iff_exists.mp h
     have:=(Oi q).2
     rw[I.free]at this;cases this
    .obtain⟨o,q⟩:=isSome_iff_exists.mp h
     exact absurd (lt_of_lt_of_le (lt_size q) I.ok.above) (lt_irrefl _)
   .exact hb z
 have inB:∀ b o,s.heap.get? b=some o->b∉a::He X.stack->(hideAll s.heap (a::He X.stack)).get? b=some o:=λb o q hb=>hideAll_get _ q hb
 have gone:(hideAll s.heap (a::He X.stack)).get? a=none:=hideAll_none _ (mem_cons_self ..)
 refine(Nz X.env (.ref a)).thn (Q:=λ_ s''=>∃ h',s''= {s with heap:=h'}/\Heap.LeftW (hideAll s.heap (a::He X.stack)) (X.env::X.outer) a (.ref C) (.ref t0) s.heap h') (wpAny_leaving_firstW (base:=hideAll s.heap (a::He X.stack)) (by rw[<-hst];exact I.ok.frames) ff hfr he (λb o q=>of_hideAll _ q) gone rfl rfl rfl λh' hL=>⟨h',rfl,hL⟩) λ_ s'' ⟨h',e'',hL⟩ dk=>?_
 subst e''
 obtain⟨od',ed',dd'⟩:=dk a _ he
 obtain⟨k1,⟨_,_,k2⟩,k3,k4⟩:=hL
 have slots:∀ {b:Addr} {o:Obj},b∈He X.outer->s.heap.get? b=some o->∃ sl,h'.get? b=some {o with slots:=sl}:=λ{b o} hb q=>by
  obtain⟨_,o',e',nf⟩:=I.funs.mem hb
  rw[q]at e';cases e'
  exact k4 b o q nf
 refine hQ _ ⟨a,.ref C,(dx,true),Uu H a,rfl,I.os,I.bare,⟨⟨λb o e n hb hx=>?_,λb o e n hb hx=>?_,λb o e n hx=>?_,λb o e hx=>?_,λb xs e=>?_,λb o u e=>?_,λb ps e=>?_⟩,λb u e=>?_,λb hb=>?_,hnew,Ni,⟨od',ed',DcOk.to (dx:=(dx,true)) ⟨rfl,λ_=>⟨_,rfl,rfl⟩⟩ dd'⟩,_,_,⟨k1,gone,k2,k3⟩,λb hb h=>?_⟩,hE⟩
 .exact k1 b o (inB b o (I.base.keep b o e n hb (noex b)) (nl b hb (.inr (by rw[e];rfl))))
 .obtain⟨z1,e1⟩:=I.base.slot b o e n hb (noex b)
  obtain⟨z2,e2⟩:=slots hb e1
  exact⟨z2,e2⟩
 .rw[Df (old b o e)];exact I.base.free b o e n (noex b)
 .obtain⟨o',e1⟩:=I.base.there b o e (noex b)
  by_cases hb:b∈He X.outer
  .obtain⟨z,e2⟩:=slots hb e1
   exact⟨_,e2⟩
  .exact⟨o',k1 b o' (inB b o' e1 (nl b hb (.inr (by rw[e];rfl))))⟩
 .have q:=I.base.tups b xs e
  rw[Df (λz=>by rw[z,hH]at q;cases q)];exact q
 .have q:=I.base.frzs b o u e
  rw[Df (λz=>by rw[z,hH]at q;cases q)];exact q
 .obtain⟨more,q⟩:=I.base.tbls b ps e
  exact⟨more,by rw[Df (λz=>by rw[z,hH]at q;cases q)];exact q⟩
 .obtain⟨ne,q⟩:=Oi e
  have nin:∀ c v,c≠a->H c=some v->c∉a::He X.stack:=λc v hc hq z=>by
   rcases mem_cons.mp z with z|z
   .exact hc z
   .exact nst c v hq z
  refine(I.hok b u q).stay (λc v hc q2=>?_) (λc z=>?_) λc xs z=>?_
  .rcases hc with rfl|hc
   .exact k1 c v (inB c v q2 (nin c u ne q))
   .exact k1 c v (inB c v q2 (nin c _ (λz=>by rw[z,hH]at hc;cases hc) hc))
  .rw[Df (λy=>by rw[y,hH]at z;cases z)];exact z
  .rw[Df (λy=>by rw[y,hH]at z;cases z)];exact z
 .by_cases hba:b=a
  .rw[hba];exact Ni
  .rw[Df hba];exact I.stkFree b (by rw[es];exact mem_cons_of_mem _ hb)
 .have hb':=nl b hb h
  have:∃ o,s.heap.get? b=some o:=by
   rcases h with h|h
   .obtain⟨u,q⟩:=isSome_iff_exists.mp h
    exact Zw (I.hok b u (Oi q).2)
   .obtain⟨o,q⟩:=isSome_iff_exists.mp h
    exact I.base.there b o q (noex b)
  obtain⟨o,q⟩:=this
  rw[inB b o q hb'];rfl
end
end L3
namespace PySem
open Sem (wp)
section
variable {M:Model}{A:Around}{E:Value->Shared->Prop}{s:Shared}{env:Env}
variable {nm q:Str}{C N:Addr}{bs bm:List Value}{hdct:Bool}{sn:List Str}{sub:List Value}{ab:Bool}{col:Option Bool}{dd:Option Addr}{k0 k1 k2 k3 k5:Option Value}{newId:String}
theorem LD{x:Sem Value}{Q:Flow->Shared->Prop}(hbase:bm.contains (.type "BaseException")=true)(hh:A.handled=none)(h:wpAny M A x (λv s1=>∃ e dx t0 sl,v=.ref e/\s1.heap.get? C=some (excClassObj nm q C N bs bm hdct sn sub ab col dd k0 k1 k2 k3 k5 newId)/\
   s1.heap.get? e=some ⟨.ref C,dx,.fields #[.ref t0,.none,.none,.none,.bool false,.none],sl⟩/\E (.ref e) s1) E s):
  wpAny M A (raiseStmt env (some x) none) Q E s:=by
 have own:(Value.ref C::bm).contains (.type "BaseException")=true:=by rw[List.contains_cons,hbase,Bool.or_true]
 unfold raiseStmt
 refine wpAny_bind (wpAny_mono h (λv s1 z=>?_) λ_ _ y=>y)
 obtain⟨e,dx,t0,sl,rfl,kl,at1,last⟩:=z
 obtain⟨hp,g,d,tk,os⟩:=s1
 repeat (first|with_reducible refine wpAny_loadPart_at at1 ?_|with_reducible refine wpAny_loadPart_at kl ?_|(with_reducible refine wpAny_isSubtype_exc kl ?_;rw[own])|wp_step)
 exact wpAny_raiseNew_none hh last
end
end PySem
namespace L2
open PySem PySem.Spec PyProof.Rows
theorem F3{K:Frag}{h:Heap}{N:Addr}{mN:Str->Option Value}{n:Str}{v:Value}(KX:K.In h)(G:h.Ns N mN)(e:nsIn K N n=some (some v)):mN n=some v:=by
 obtain⟨o,es,ep,at1,dt,_,fnd⟩:=G
 unfold nsIn at e
 split at e
 .rename_i c d es2 n2 sl lk
  have q:=KX _ _ lk
  rw[at1]at q
  cases q
  cases dt
  rw[<-fnd]
  unfold nsFind findBy
  rw[<-Array.find?_toList]
  split at e
  .rename_i en he
   rw[he]
   cases e
   rfl
  .split at e<;>cases e
 .cases e
section
variable {X:Cx}{C S f:Addr}{fd:FuncData}{ps:List Str}{sp:Sp}{k:Nat}{x:Str}{p pos:Pos}{e:Expr}{es:List Expr}{t:TA}
end
end L2
namespace L3
open PySem PySem.Spec PyProof.Rows L2 SeqAt
theorem PX{i:Int}(h0:0<=i)(h1:i<1000):i.natAbs.log2<1920/\(toString i:Str).length<=1000:=by
 obtain⟨n,rfl⟩:∃ n:Nat,i=n:=⟨i.toNat,by omega⟩
 have h:∀ n:Nat,n<1000->(n:Int).natAbs.log2<1920/\(toString (n:Int):Str).length<=1000:=by decide +kernel
 exact h n (by omega)
structure FnE(P:Program)(w:World)(K:Frag)(mg:Str->Option Value)(base:Heap)(k:Nat)(c attr:Str):Prop where
 ex:∃ j C S f fd ps,j+1<=k/\FnOk P w K mg base Po j f fd ps (spE C attr)/\XInit K C S f/\mg c=some (.ref C)/\nsIn K mainGlobals c=some (some (.ref C))/\Binds K fd ps []
def IK(X:Cx)(xw:XW):Prop:=∀ (pins:List (Addr×Obj)) (σ:L2.St) (H:Hp) (s:Shared) (a C:Addr) (dx:Option Addr) (c:Str) (fs:List D),Inv X pins σ H s->H a=some (.ext (Hh a C dx))->X.s₀.heap.get? a=none->
 nsIn X.K mainGlobals c=some (some (.ref C))->ExF (Uu H a) (dx,true) fs->xw c fs (Uu H a)->X.xe (.ref a) s
variable{f:Addr}
theorem QJ{P:Program}{w:World}{K:Frag}{mg:Str->Option Value}{base:Heap}{N:List Str}{qual:Str}{scope:Scope}{cd:Value}{A:Around}{outer:List Env}{s₀:Shared}{H₀:Hp}{E:XK}:
  IK (Kk (FB P w) P w K mg base N qual scope f cd A outer s₀ H₀ E) (P6 K E):=by
 intro pins σ H s a C dx c fs I hH hnew hn xf q
 exact YT I rfl rfl rfl hH hnew (q (.ref C) (dx,true) hn xf) λs'' z=>z
theorem Vn{H:Hp}{a d:Addr}{o u:HO}(h:H a=none)(n:d≠a):Uu (Jb (Jb H a o) d u) a=Jb H d u:=by
 funext b
 unfold Uu Jb
 by_cases h1:b=a
 .rw[if_pos h1,h1,if_neg (Ne.symm n),h]
 .rw[if_neg h1]
  by_cases h2:b=d
  .rw[if_pos h2,if_pos h2]
  .rw[if_neg h2,if_neg h2,if_neg h1]
variable{X:Cx}{xw:XW}
section
variable {C S:Addr}{fd:FuncData}{ps:List Str}{k:Nat}{x c attr:Str}{p pos np cpos:Pos}{e a:Expr}{es:List Expr}{t:TA}{fs:Ca->Res (List D)}
end
section
variable {tg it:Expr}{f:Ca->Res (List D)}
theorem PI.nox{t:TI}(h:PI X.nox tg it t):PI X tg it t:=λpins s σ H R I hw=>
 wpAny_mono (h pins s σ H R (I.wish _) hw) (λv s1 q=>wpAny_mono q (λ_ _ ⟨a,fp,tn,J,H',e,I',r⟩=>⟨a,fp,tn,J,H',e,I'.unwish,r⟩) λ_ _ z=>False.elim z) λ_ _ z=>False.elim z
theorem WM(h:XI X.nox Ql tg it f):XI X xw tg it (Nf f):=⟨PI.weak (PI.nox h.h) λσ H R ⟨W₀,H₀,W,δ,st,q⟩=>⟨W₀,H₀,W,δ,st,by
 dsimp only[Nf]at q
 cases hq:f δ with
 |ok d=>rw[hq]at q;exact q
 |ex c fs=>rw[hq]at q;exact q.elim
 |stuck=>rw[hq]at q;exact q.elim⟩⟩
end
end L3
namespace L3
open PySem PySem.Spec PySem.Calls PyProof.Rows PySem.W Builtin Builtin.ObjectAttr Builtin.Getset_descriptor
variable{tk:Tok}{Q:Value->Shared->Prop}{expr:Bool}
section
variable {prog:Program}{w:World}{A:Around}{E:Value->Shared->Prop}{h:Heap}{g:Array GenState}{d:Drawn}{t:Nat}{os:OsState}{K:Frag}{a C:Addr}{o:Obj}{od:Option Obj}{name:Str}{v:Value}
theorem FR{Q:Fin->Shared->Prop}(X:K.In h)(J:InstAt h a o C od)(hf:findObj K C od name=some (.value v))(hq:Q (.done (.ret v)) ⟨h,g,d,t,os⟩):
  wpAny (model prog w) A (Builtin.«object.__getattribute__» ⟨[.ref a,.str name tk],[]⟩) Q E ⟨h,g,d,t,os⟩:=by
 have L0:=J.type (M:=model prog w)
 have L1:=looks_find (M:=model prog w) X J hf
 unfold Builtin.«object.__getattribute__»
 repeat (first|assumption|refine wpAny_bind (L0.at ?_)|refine wpAny_bind (L1.at ?_)|wp_step)
theorem EY{R:Result->Shared->Prop}(X:K.In h)(J:InstAt h a o C od)(z:ExcK K C)(hf:findObj K C od name=some (.value v))(hq:R (.ok (.ret v)) ⟨h,g,d,t,os⟩):
  codeAny (model prog w) A (.call (.builtin "BaseException.__getattribute__") ⟨[.ref a,.str name tk],[]⟩) R ⟨h,g,d,t,os⟩:=by
 have L0:=J.type (M:=model prog w)
 have L1:=looks_mroIn (M:=model prog w) X z.be
 have hk:builtinKind "BaseException.__getattribute__"=some .slot:=by decide +kernel
 have hsplit:splitId "BaseException.__getattribute__"=some ("BaseException","__getattribute__"):=by decide +kernel
 have ha:=F.args_bexc_ga (.ref a) (.str name tk)
 have hp:plainId "BaseException.__getattribute__"=true:=by decide +kernel
 refine codeAny_call_builtin hp F.entry_bexc_ga ?_
 simp only[checkBuiltinCall,hk,hsplit]
 refine wpAny_bind ((L0.andThen L1).at ?_)
 simp only[Bool.not_true,false_eq_true,if_false]
 repeat (first|assumption|exact FR X J hf hq|wp_step)
theorem V9{fill:Bool}(X:K.In h)(J:InstAt h a o C od)(z:ExcK K C)(hf:findObj K C od name=some (.value v))(hv:handedIn v=true)(hq:Q v ⟨h,g,d,t,os⟩):
  wpAny (model prog w) A (getAttrBy (.ref a) (.str name tk) fill expr) Q E ⟨h,g,d,t,os⟩:=by
 have L0:=J.type (M:=model prog w)
 have L1:=looks_findIn (M:=model prog w) X z.ga
 have L2:=looks_findIn (M:=model prog w) X z.gt
 have f3:bindSpecial (.builtin "BaseException.__getattribute__") (.ref a)=pure (.builtin "BaseException.__getattribute__",[.ref a]):=F.excAttr_ValueError.ga.bind (.ref a)
 have hx0:(expr&&onTheHeap (Value.builtin "BaseException.__getattribute__"))=false:=by cases expr<;>rfl
 have hx2:(Value.builtin "BaseException.__getattribute__"==Value.builtin "object.__getattribute__")=false:=by decide +kernel
 have hx1:(onTheHeap (Value.ref C)&&Value.builtin "BaseException.__getattribute__"==Value.builtin "object.__getattribute__")=false:=by rw[hx2];rfl
 have ho:=handedOut_of hv
 repeat (any_goals (first|assumption|refine wpAny_bind (L0.at ?_)|refine wpAny_bind (L1.at ?_)|refine wpAny_bind (L2.at ?_)|wp_step))
 refine EY X J z hf ?_
 repeat (any_goals (first|assumption|(rw[ho];exact wpAny_pure hq)|wp_step))
theorem DY(X:K.In h)(J:InstAt h a o C od)(z:ExcK K C)(hf:findObj K C od name=some (.value v))(hv:handedIn v=true)(hq:Q v ⟨h,g,d,t+1,os⟩):
  wpAny (model prog w) A (getAttr (.ref a) name expr) Q E ⟨h,g,d,t,os⟩:=by
 unfold getAttr
 repeat (any_goals (first|assumption|with_reducible apply V9 X J z hf hv|wp_step))
end
end L3
namespace L3
open PySem PySem.Spec PyProof.Rows L2 SeqAt
structure FldX(K:Frag)(c attr:Str):Prop where
 ex:∃ C,nsIn K mainGlobals c=some (some (.ref C))/\ExcK K C/\hasDictIn K C=true/\findIn K (.ref C) attr=some none
def Zu(f:Str):List D->List D->Option D
 | .str n::ns,x::vs=>if f=n then some x else Zu f ns vs
 |_,_=>none
def Uy(cs:List Str)(f:Str):D->Res D
 | .exc c (.tup ns::vs)=>if c∈cs then(match Zu f ns vs with|some x=>.ok x|none=>.stuck) else .stuck
 | .exc c (.non:: .tup ns::vs)=>if c∈cs then(match Zu f ns vs with|some x=>.ok x|none=>.stuck) else .stuck
 |_=>.stuck
variable{K:Frag}{W:WS}{H:Hp}{x:D}
theorem NG{v:V}(h:FQ x=some v):Has K W H x v:=by
 cases x with
 |non=>cases h;rw[Has]
 |bl b=>cases h;rw[Has]
 |int i=>cases h;rw[Has]
 |str z=>cases h;rw[Has]
 |_=>cases h
theorem QA{K:Frag}{W:WS}{H:Hp}:∀ {ds:List D} {xs:List V},ds.map FQ=xs.map some->HasL K W H ds xs
 | [],[],_=>by rw[HasL]
 |d::ds,x::xs,h=>by
  rw[map_cons,map_cons]at h
  injection h with h1 h2
  rw[HasL]
  exact⟨x,xs,rfl,NG h1,QA h2⟩
 | [],_::_,h=>by simp at h
 |_::_,[],h=>by simp at h
theorem ExV.has{v:V}(h:ExV H x v):Has K W H x v:=by
 rcases h with h|⟨ds,a,o,xs,rfl,rfl,e,q⟩
 .exact NG h
 .rw[Has]
  exact⟨a,xs,rfl,.inr (.inl ⟨o,e⟩),QA q⟩
theorem Vy{H:Hp}{f:Str}{x:D}:∀ {kvs:List (Str×V)} {vs:List D},ExVs H vs (kvs.map (·.2))->Zu f (kvs.map λp=>D.str p.1) vs=some x->∃ v,kvs.lookup f=some v/\ExV H x v
 | [],[],_,e=>by cases e
 |p::kvs,y::vs,⟨h,t⟩,e=>by
  have e:(if f=p.1 then some y else Zu f (kvs.map λp=>D.str p.1) vs)=some x:=e
  split at e
  .rename_i q
   cases e
   exact⟨p.2,by obtain⟨n,v⟩:=p;simp only at q;subst q;simp[lookup_cons],h⟩
  .rename_i q
   obtain⟨v,h1,h2⟩:=Vy t e
   refine⟨v,?_,h2⟩
   obtain⟨n,u⟩:=p
   rw[lookup_cons,show(f==n)=false from by simpa using q]
   exact h1
 | [],_::_,h,_=>h.elim
 |_::_,[],h,_=>h.elim
section
variable {X:Cx}{xw:XW}{e:Expr}{f:Ca->Res D}{pos:Pos}{attr:Str}{ta:TE}
theorem C4(he:PE X e ta)(hb:attributeBase e attr X.env (eval e X.env)=eval e X.env):PE X (.Attribute e attr pos) (λσ H Q=>ta σ H λx H1=>∃ a C dx z kvs v,x=.ref a/\H1 a=some (.ext (Sg a (.ref C) (some dx,z)))/\H1 dx=some (.xd kvs)/\
  ExcK X.K C/\hasDictIn X.K C=true/\findIn X.K (.ref C) attr=some none/\kvs.lookup attr=some v/\Q v H1):=by
 intro pins s σ H Q I h
 refine OE hb (thn (he pins s σ H _ I h) λu s1 ⟨x,H1,I1,rx,a,C,dx,zz,kvs,v,ex,ea,ed,z,hd,na,lk,q⟩=>?_)
 subst ex
 obtain rfl:u=Value.ref a:=rx
 obtain⟨⟨o,vs,ho,hc,hdx,hdt,_⟩,_⟩:=I1.hok a _ ea
 obtain⟨mA,ns,r⟩:=I1.hok dx _ ed
 obtain⟨od,hod,hl⟩:=Kv ns
 obtain⟨u,hu,ru⟩:=RelO.some_of (v:=v) (o:=mA attr) (by rw[<-lk];exact r attr)
 obtain⟨hp,g,d,tk,os⟩:=s1
 have J:PySem.W.InstAt hp a o C (some od):=⟨ho,hc,by unfold PySem.W.notCls;rw[hdt],by rw[hdx];exact hod⟩
 exact DY I1.kIn J z (PySem.W.findObj_own hd na rfl (by rw[hl,hu])) (Cv ru) ⟨v,H1,I1.tok _,ru,q⟩
theorem EH{cs:List Str}(T:∀ c∈cs,FldX X.K c attr)(he:XE X xw e f)(hb:attributeBase e attr X.env (eval e X.env)=eval e X.env:=by rfl):XE X xw (.Attribute e attr pos) (b1 (Uy cs attr) f):=
 ⟨PE.weak (C4 he.h hb) λσ H Q ⟨W₀,H₀,W,δ,st,q⟩=>Fp st q λH2 d v k w st2 hv _ q2=>by
  have main:∀ (c:Str) (ns vs:List D) (fs:List D),Has X.K W H2 (.exc c fs) v->(∀ dx,ExF H2 dx fs->ExD H2 dx.1 ns vs)->RE X.K xw W H2 (if c∈cs then(match Zu attr ns vs with|some x=>.ok x|none=>.stuck) else .stuck) Q->
    ∃ a C dx z kvs u,v=.ref a/\H2 a=some (.ext (Sg a (.ref C) (some dx,z)))/\H2 dx=some (.xd kvs)/\ExcK X.K C/\hasDictIn X.K C=true/\findIn X.K (.ref C) attr=some none/\kvs.lookup attr=some u/\Q u H2:=by
   intro c ns vs fs hv hx q3
   split at q3
   .rename_i hc
    split at q3
    .rename_i x hx'
     rw[Has]at hv
     obtain⟨a,C,dx,rfl,hn,hH,hF⟩:=hv
     obtain⟨d,kvs,ed,hd,rfl,hvs⟩:=hx dx hF
     obtain⟨C',hn',z,hdt,na⟩:=(T c hc).ex
     rw[hn]at hn'
     cases hn'
     obtain⟨u,h1,h2⟩:=Vy hvs hx'
     obtain⟨d0,z0⟩:=dx
     dsimp only at ed
     subst ed
     exact⟨a,C',d,z0,kvs,u,rfl,hH,hd,z,hdt,na,h1,q3 u H2 (Same.refl _) h2.has⟩
    .exact q3.elim
   .exact q3.elim
  cases d with
  |exc c fs=>
   cases fs with
   |nil=>exact q2.elim
   |cons y vs=>
    cases y with
    |tup ns=>exact main c ns vs _ hv (λdx h=>h.2) q2
    |non=>
     cases vs with
     |nil=>exact q2.elim
     |cons y vs=>
      cases y with
      |tup ns=>exact main c ns vs _ hv (λdx h=>h) q2
      |_=>exact q2.elim
    |_=>exact q2.elim
  |_=>exact q2.elim⟩
end
end L3
namespace PySem
open Sem (wp)
open Builtin Builtin.ObjectAttr W
variable{vs:Array Value}{sl:Array (Option Value)}{name:Str}{tk:Tok}{cd:ClassData}{n:Nat}
section
variable {prog:Program}{w:World}{A:Around}{E:Value->Shared->Prop}{h:Heap}{g:Array GenState}{d:Drawn}{t:Nat}{os:OsState}{K:Frag}{C e dx:Addr}{m:Str->Option Value}{ns:List Str}
theorem EI{v:Value}{b:Bool}{Q:Fin->Shared->Prop}(KX:K.In h)(he:h.get? e=some ⟨.ref C,some dx,.fields vs,sl⟩)(f4:clsIn K C=some cd)(f6:cd.hasDict=true)(hn:h.Ns1 dx m)(hw:Within m ns)(hl:ns.length<=100)(hq:∀ h' tk',SameBut dx h h'->h'.Ns1 dx (λx=>if x=name then some v else m x)->Q (.done (.ret .none)) ⟨h',g,d,tk',os⟩):
  wpAny (model prog w) A (storeInOwnDict (.ref e) (.ref C) (.str name tk) name v b) Q E ⟨h,g,d,t,os⟩:=by
 have cl:=looks_clsIn (M:=model prog w) KX f4
 unfold storeInOwnDict
 refine wpAny_bind (wpAny_pure ?_)
 show wpAny _ _ (instanceDict e true >>= _) _ _ _
 unfold instanceDict
 refine wpAny_bind (wpAny_bind (wpAny_loadPart he ?_))
 show wpAny _ _ (classData C >>= _) _ _ _
 refine wpAny_bind (cl.at ?_)
 rw[f6]
 refine wpAny_pure (a:=some dx) ?_
 show wpAny _ _ (storeInDict dx (.str name tk) name v) _ _ ⟨h,g,d,t,os⟩
 unfold storeInDict newKeyGuard
 refine wpAny_bind (wpAny_pure (wpAny_bind (wpAny_nsSet1 hn λh' n1 same=>?_)))
 obtain⟨oD,eD,pD,oDh,dD,cD⟩:=n1.count (Within.cons name v hw)
 refine wpAny_bind (wpAny_lookBehind oDh (by rw[dD];exact pastItsLine_dict (le_trans cD (by rw[List.length_cons,sizeLine_eq];omega))) ?_)
 exact wpAny_pure (hq h' _ same n1)
theorem YO{v:Value}{R:Result->Shared->Prop}(KX:K.In h)(he:h.get? e=some ⟨.ref C,some dx,.fields vs,sl⟩)(f2:findIn K (.ref C) name=some none)(f3:mroIn K C (.type "object")=some true)(f4:clsIn K C=some cd)(f5:Zn n cd.mro=true)(f6:cd.hasDict=true)(hn:h.Ns1 dx m)(hw:Within m ns)(hl:ns.length<=100)(hq:∀ h' tk',SameBut dx h h'->h'.Ns1 dx (λx=>if x=name then some v else m x)->R (.ok (.ret .none)) ⟨h',g,d,tk',os⟩):
  codeAny (model prog w) A (.call (.builtin "object.__setattr__") ⟨[.ref e,.str name tk,v],[]⟩) R ⟨h,g,d,t,os⟩:=by
 have L0:Looks (model prog w) h (typeOf (.ref e)) (.ref C):=(Looks.ld he).andThen .now
 have L2:=looks_findIn (M:=model prog w) KX f2
 have L3:Looks (model prog w) h (isInstance (.ref e) (.type "object")) true:=L0.andThen (looks_mroIn KX f3)
 have L4:Looks (model prog w) h (mroOf (.ref C)) cd.mro:=(looks_clsIn KX f4).andThen .now
 have SF:=F.store_object
 refine codeAny_call_builtin SF.slot.plain SF.entry (@check_slot (model prog w) _ _ ⟨h,g,d,t,os⟩ "object.__setattr__" "object" "__setattr__" (.ref e) [.str name tk,v] [] _ SF.kind SF.split L3 (SF.args (.ref e) (.str name tk) v) ?_)
 rw[osa_eq,refuse_eq]
 refine wpAny_bind (wpAny_bind (L0.at (wpAny_bind (L4.at ?_))))
 rw[Gn _ f5]
 refine wpAny_pure (wpAny_bind (L0.at (wpAny_bind (L2.at (wpAny_bind (wpAny_pure (a:=(none:Option Value)) ?_))))))
 exact EI KX he f4 f6 hn hw hl λh' tk' a b=>hq h' tk' a b
theorem DC{v:Value}{Q:Unit->Shared->Prop}(KX:K.In h)(he:h.get? e=some ⟨.ref C,some dx,.fields vs,sl⟩)(f1:findIn K (.ref C) "__setattr__"=some (some (.builtin "object.__setattr__")))(f2:findIn K (.ref C) name=some none)(f3:mroIn K C (.type "object")=some true)(f4:clsIn K C=some cd)(f5:Zn n cd.mro=true)(f6:cd.hasDict=true)(hn:h.Ns1 dx m)(hw:Within m ns)(hl:ns.length<=100)(hq:∀ h' tk',SameBut dx h h'->h'.Ns1 dx (λx=>if x=name then some v else m x)->Q () ⟨h',g,d,tk',os⟩):
  wpAny (model prog w) A (setAttr (.ref e) name v) Q E ⟨h,g,d,t,os⟩:=by
 have L0:Looks (model prog w) h (typeOf (.ref e)) (.ref C):=(Looks.ld he).andThen .now
 have L1:=looks_findIn (M:=model prog w) KX f1
 unfold setAttr callSpecial? specialOf
 repeat (first|with_reducible refine wpAny_call ?_|lk)
 refine YO KX he f2 f3 f4 f5 f6 hn hw hl λh' tk' a b=>?_
 exact wpAny_pure (wpAny_pure (hq h' tk' a b))
end
end PySem
namespace L2
open PySem PySem.Spec PyProof.Rows
def Sk:V->Prop
 | .int i=>i.natAbs.log2<1920/\(toString i:Str).length<=1000
 | .str x=>(reprText x).length<=1000
 | .non=>True
 |_=>False
structure PJ(X:Cx)(parts:List Expr)(P:St->Prop)(b:Nat):Prop where
 h:∀ (pins:List (Addr×Obj)) (s:Shared) (σ:St) (H:Hp) (acc:Str) (Q:Value->Shared->Prop),Inv X pins σ H s->P σ->acc.length+b<=sizeLine->(∀ s' z tk,Inv X pins σ H s'->Q (.str z tk) s')->wpAny (model X.prog X.w) X.A (joinParts acc (evalEach parts X.env)) Q X.xe s
variable{X:Cx}{x:Str}{w:World}{A:Around}{s:Shared}
section
variable {pos p:Pos}{parts:List Expr}{P:St->Prop}{b:Nat}
theorem Ym(x y:Str):(x++y).length=x.length+y.length:=by
 show(x++y).cps.size=_
 rw[Str.cps_append,size_append]
 rfl
theorem LP:PJ X [] (λ_=>True) 0:=⟨λpins s σ H acc Q I _ hl q=>joinParts_nil (q _ _ _ (I.tok _)) (by omega)⟩
theorem Mx{z:Str}{j}(h:PJ X parts P b):PJ X (.Constant (.str z) j pos::parts) P (z.length+b):=⟨λpins s σ H acc Q I hp hl q=>by
 show wpAny _ _ (joinParts acc (eval (.Constant (.str z) j pos) X.env::evalEach parts X.env)) _ _ _
 refine joinParts_cons (thn (GP pins s σ H (λx H1=>x=.str z/\H1=H) I ⟨rfl,rfl⟩) λu s1 ⟨x,H1,I1,r1,e1,e2⟩=>?_)
 subst e1 e2
 obtain⟨tk,rfl⟩:=r1
 have e:=Ym acc z
 exact⟨by omega,h.h pins s1 σ _ _ Q I1 hp (by omega) q⟩⟩
theorem KP(i:Nat)(h:PJ X parts P b)(hN:X.N[i]? =some x)(hv:Kq X.env.scope x)(hd:(x==("__debug__":Str))=false:=by decide)(hcd:(x==("__classdict__":Str))=false:=by decide):
  PJ X (.FormattedValue (.Name x p) (-1) none pos::parts) (λσ=>(∃ n,σ[i]? =some (some (.int n))/\Sk (.int n))/\P σ) (1000+b):=⟨λpins s σ H acc Q I ⟨⟨n,hn,s1,s2⟩,hp⟩ hl q=>by
 show wpAny _ _ (joinParts acc (eval (.FormattedValue (.Name x p) (-1) none pos) X.env::evalEach parts X.env)) _ _ _
 refine joinParts_cons (FormattedValue_plain (thn (Zc hN hv hd hcd pins s σ H (λy H1=>y=.int n/\H1=H) I ⟨.int n,hn,rfl,rfl⟩) λu s2 ⟨y,H2,I2,r2,e1,e2⟩=>?_))
 subst e1 e2
 obtain⟨tk,rfl⟩:=r2
 refine formatField_int_small s1 ?_
 have e:=Ym acc (toString n:Str)
 exact⟨by omega,h.h pins _ σ _ _ Q (I2.tok _) hp (by omega) q⟩⟩
theorem BU{prog:Program}{E:Value->Shared->Prop}{v:V}{u:Value}{Q:Value->Shared->Prop}(hs:Sk v)(r:RelV v u)(h:∀ z tk t',z.length<=1000->Q (.str z tk) {s with toks:=t'}):
  wpAny (model prog w) A (pyReprObj u) (λr s₂=>wpAny (model prog w) A (formatField r Str.empty) Q E s₂) E s:=by
 have fin:∀ (z:Str) (tk:Tok) (t1:Nat),z.length<=1000->wpAny (model prog w) A (formatField (.str z tk) Str.empty) Q E {s with toks:=t1}:=λz tk t1 hz=>
  formatField_str (λt' tk'=>h z t' tk' hz) (by rw[sizeLine_eq];omega)
 cases v with
 |int n=>
  obtain⟨tk,rfl⟩:=r
  exact wpAny_pyReprObj_gives (T:="int") (by first|rfl|trivial) F.slot_int_repr F.entry_int_repr (F.args_int_repr_1 _) (gives_int_repr n tk hs.1) (fin _ _ _ hs.2) rfl (by have:=hs.2;rw[sizeLine_eq];omega)
 |str x=>
  obtain⟨tk,rfl⟩:=r
  exact pyReprObj_str (fin _ _ _ hs) (by have:(reprText x).length<=1000:=hs;rw[sizeLine_eq];omega)
 |non=>
  cases (show u=Value.none from r)
  exact wpAny_pyReprObj_gives (T:="NoneType") (by first|rfl|trivial) F.slot_NoneType_repr F.entry_NoneType_repr (F.args_NoneType_repr_1 _) gives_none_repr (fin _ _ _ (by decide)) rfl (by decide)
 |_=>exact hs.elim
theorem QW(i:Nat)(h:PJ X parts P b)(hN:X.N[i]? =some x)(hv:Kq X.env.scope x)(hd:(x==("__debug__":Str))=false:=by decide)(hcd:(x==("__classdict__":Str))=false:=by decide):
  PJ X (.FormattedValue (.Name x p) 114 none pos::parts) (λσ=>(∃ v,σ[i]? =some (some v)/\Sk v)/\P σ) (1000+b):=⟨λpins s σ H acc Q I ⟨⟨v,hn,hs⟩,hp⟩ hl q=>by
 show wpAny _ _ (joinParts acc (eval (.FormattedValue (.Name x p) 114 none pos) X.env::evalEach parts X.env)) _ _ _
 refine joinParts_cons (wpAny_FormattedValue_repr (thn (Zc hN hv hd hcd pins s σ H (λy H1=>y=v/\H1=H) I ⟨v,hn,rfl,rfl⟩) λu s2 ⟨y,H2,I2,r2,e1,e2⟩=>?_))
 subst e1 e2
 refine BU hs r2 λz tk t' hz=>?_
 have e:=Ym acc z
 exact⟨by omega,h.h pins _ σ _ _ Q (I2.tok _) hp (by omega) q⟩⟩
theorem IG{v1 v2:Expr}{rest:List Expr}(h:PJ X (v1::v2::rest) P b)(hb:b<=10000):PE X (.JoinedStr (v1::v2::rest) pos) (λσ H Q=>P σ/\∀ z,Q (.str z) H):=by
 intro pins s σ H Q I ⟨hp,q⟩
 refine JoinedStr_many ?_
 exact h.h pins s σ H Str.empty _ I hp (by rw[sizeLine_eq];show 0+b<=_;omega) λs' z tk I'=>⟨.str z,H,I',⟨tk,rfl⟩,q z⟩
end
variable{P:Program}{f:Addr}{kvs:List (Str×V)}{attr:Str}{H:Hp}
section
variable {apos:Pos}{o:Expr}{to:TE}{C S:Addr}
theorem BK{m:Str->Option Value}(h:∀ y,RelO (kvs.lookup y) (m y)):Within m (kvs.map (·.1)):=λy hy=>by
 have:=h y
 cases hk:kvs.lookup y with
 |none=>rw[hk]at this;cases hm:m y with
  |none=>exact absurd hm hy
  |some u=>rw[hm]at this;exact this.elim
 |some v=>
  have:∀ (l:List (Str×V)),l.lookup y=some v->y∈l.map (·.1):=by
   intro l
   induction l with
   |nil=>intro e;cases e
   |cons p l ih=>
    intro e
    obtain⟨k,u⟩:=p
    rw[lookup_cons]at e
    cases hb:y==k with
    |true=>rw[show y=k by simpa using hb];exact mem_cons_self
    |false=>rw[hb]at e;exact mem_cons_of_mem _ (ih e)
  exact this kvs hk
theorem Sz{y:Str}{v:V}(hn:kvs.lookup attr=none):(kvs++ [(attr,v)]).lookup y=if y=attr then some v else kvs.lookup y:=by
 induction kvs with
 |nil=>
  rw[nil_append,lookup_cons,List.lookup_nil]
  by_cases hy:y=attr
  .subst hy;simp
  .have:(y==attr)=false:=by simp[hy]
   rw[this,if_neg hy]
 |cons p l ih=>
  obtain⟨k,u⟩:=p
  rw[lookup_cons]at hn
  rw[cons_append,lookup_cons,lookup_cons]
  cases hk:attr==k with
  |true=>rw[hk]at hn;cases hn
  |false=>
   rw[hk]at hn
   cases hb:y==k with
   |true=>
    have e:y=k:=by simpa using hb
    have:y≠attr:=λz=>by
     have:attr==k:=by simp[<-z,e]
     rw[this]at hk;cases hk
    rw[if_neg this]
   |false=>exact ih hn
def HK(d:Addr)(kvs:List (Str×V))(h:Heap):Prop:=∃ mA,h.Ns1 d mA/\∀ f,RelO (kvs.lookup f) (mA f)
theorem HV{h:Heap}{d:Addr}(x:HK d kvs h):ObjOk P w H h d (.ext (HK d kvs)):=by
 obtain⟨m,ns,r⟩:=x
 exact⟨⟨m,ns,r⟩,let ⟨o,_,_,e,_⟩:=ns;⟨o,e⟩,λh1 h2 ⟨m1,n1,r1⟩ k=>⟨m1,n1.at λo e=>k o e,r1⟩⟩
theorem LW(hex:X.ex= [])(Z:XInit X.K C S f)(hna:findIn X.K (.ref C) attr=some none)(ho:PE X o to):
  PG X (.Attribute o attr apos) (λv σ H Q=>to σ H λx H1=>∃ a,x=.ref a/\H1 a=some (.ext (Jq a C))/\∀ d,H1 d=none->X.s₀.heap.get? d=none->Q σ (Jb (Jb H1 a (.ext (Hh a C (some d)))) d (.ext (HK d [(attr,v)])))):=by
 intro pins s σ H v u Q I r h
 rw[arm_assign_Attribute]
 refine wpAny_bind (wpAny_holding (thn (ho pins s σ H _ I h) λov s1 ⟨x,H1,I1,r1,a,ex,hH,q⟩=>?_))
 subst ex
 obtain rfl:ov=.ref a:=r1
 obtain⟨⟨t0,sl,he⟩,_,_⟩:=I1.hok a _ hH
 obtain⟨cd,n,c1,c2,c3⟩:=Z.cl
 obtain⟨hp,g,d,tk,os⟩:=s1
 refine wpAny_bind (wpAny_standAt (wpAny_bind (wpAny_holding (Wu I1.kIn he Z.sa hna Z.ob c1 c2 c3 λh' tk' dx k ge le ns=>?_))))
 have I3:=I1.write (h':=h') (t':=tk') (x:=a) (e:=a) (o:=.ext (Hh a C (some dx))) (by rw[hH];trivial) (.inl rfl) k ⟨_,ge⟩ (ZE ⟨t0,sl,ge⟩)
 have hd1:H1 dx=none:=I1.hok.fresh le
 have hdn:hp.get? dx=none:=Heap.get?_none_of_le le
 have hd0:X.s₀.heap.get? dx=none:=by
  cases z:X.s₀.heap.get? dx with
  |none=>rfl
  |some o=>
   obtain⟨o',e'⟩:=I1.base.there dx o z (by rw[hex];simp)
   rw[show _=hp.get? dx from rfl]at e'
   rw[hdn]at e';cases e'
 have hda:dx≠a:=λz=>by rw[z,hH]at hd1;cases hd1
 have I4:=Kz (u:=.ext (HK dx [(attr,v)])) I1 I3 hex hdn (by rw[Ha hda];exact hd1) (HV ⟨_,ns,λy=>by
  by_cases hy:y=attr
  .subst hy
   simp only[lookup_cons,beq_self_eq_true,if_true]
   exact r
  .have:(y==attr)=false:=by simp[hy]
   simp only[lookup_cons,this,List.lookup_nil,if_neg hy]
   trivial⟩)
 exact wpAny_release ⟨σ,_,I4,q dx hd1 hd0⟩
theorem KW(Z:XInit X.K C S f)(hna:findIn X.K (.ref C) attr=some none)(ho:PE X o to):
  PG X (.Attribute o attr apos) (λv σ H Q=>to σ H λx H1=>∃ a d kvs,x=.ref a/\H1 a=some (.ext (Hh a C (some d)))/\H1 d=some (.ext (HK d kvs))/\kvs.lookup attr=none/\kvs.length<=50/\Q σ (Jb H1 d (.xd (kvs++ [(attr,v)])))):=by
 intro pins s σ H v u Q I r h
 rw[arm_assign_Attribute]
 refine wpAny_bind (wpAny_holding (thn (ho pins s σ H _ I h) λov s1 ⟨x,H1,I1,r1,a,dx,kvs,ex,hH,hd,hk,hl,q⟩=>?_))
 subst ex
 obtain rfl:ov=.ref a:=r1
 obtain⟨⟨t0,sl,he⟩,_,_⟩:=I1.hok a _ hH
 obtain⟨⟨mA,ns,rr⟩,_,_⟩:=I1.hok dx _ hd
 obtain⟨cd,n,c1,c2,c3⟩:=Z.cl
 obtain⟨hp,g,d,tk,os⟩:=s1
 refine wpAny_bind (wpAny_standAt (wpAny_bind (wpAny_holding (DC I1.kIn he Z.sa hna Z.ob c1 c2 c3 ns (BK rr) (by rw[length_map];omega) λh' tk' same ns'=>?_))))
 have I3:=I1.write (h':=h') (t':=tk') (x:=dx) (e:=dx) (o:=.xd (kvs++ [(attr,v)])) (by rw[hd];trivial) (.inl rfl) (λb o hb e=>(same.2 b hb).trans e) (by obtain⟨o,_,_,e,_⟩:=ns';exact⟨o,e⟩) ⟨_,ns',λy=>by
  rw[Sz hk]
  by_cases hy:y=attr
  .rw[if_pos hy,if_pos hy];exact r
  .rw[if_neg hy,if_neg hy];exact rr y⟩
 exact wpAny_release ⟨σ,_,I3,q⟩
end
structure RoomH(k:Nat)(A:Around):Prop where
 dp:A.depth+3*k+5<recursionLimit
 un:A.units+16*k+200<cLine
 gd:A.guards=some []
variable{k:Nat}
theorem Room.h(r:Room k A):RoomH k A:=⟨r.dp,r.un,r.gd⟩
theorem RoomH.mono{j:Nat}(r:RoomH k A)(h:j<=k):RoomH j A:=⟨by have:=r.dp;omega,by have:=r.un;omega,r.gd⟩
theorem RoomH.mark(r:RoomH k A)(h:Option Value):RoomH k (A.mark h):=⟨r.dp,r.un,r.gd⟩
theorem RoomH.deeper(r:RoomH (k+1) A)(env:Env):RoomH k (A.deeper env):=
 ⟨by have:=r.dp;show A.depth+1+3*k+5<_;omega,by have:=r.un;show A.units+3+16*k+200<_;omega,r.gd⟩
theorem RoomH.make(r:RoomH (k+1) A)(C:Addr)(us:List Value)(kw:List (Str×Value)):RoomH k (A.under (.builtin "type.__call__" ⟨.ref C::us,kw⟩)):=
 ⟨by have:=r.dp;rw[Bs];omega,by have:=r.un;rw[Cs];omega,by first|exact r.gd|(simpa [Around.under,Code.guards,pushGuards] using r.gd)⟩
theorem RoomH.depth(r:RoomH k A):A.depth<recursionLimit:=by have:=r.dp;omega
abbrev L6(CX:Zv)(P:Program)(w:World)(K:Frag)(mg:Str->Option Value)(base:Heap)(N:List Str)(qual:Str)(scope:Scope)(f:Addr)(cd:Value)(A:Around)(outer:List Env)(s:Shared)(H:Hp)(E:XK):Cx:= {Kk CX P w K mg base N qual scope f cd A outer s H E with calm:=false}
structure FnOkH(P:Program)(w:World)(K:Frag)(mg:Str->Option Value)(base:Heap)(CX:Zv)(k:Nat)(f:Addr)(fd:FuncData)(ps:List Str)(sp:Sp):Prop where
 len:∀ vs H Q E,sp vs H Q E->vs.length=ps.length
 run:∀ (A:Around) (outer:List Env) (s:Shared) (H:Hp) (args:Args) (us:List Value) (vs:List V) (Q:VK) (E:XK),RoomH k A->Env0 P w K mg base A outer s H->BindsTo s fd args (ps.zip us)->Vals vs us->sp vs H Q E->
  codeAny (model P w) A (.call (.ref f) args) (CR CX outer P w H s Q E) s
variable{CX:Zv}{K:Frag}{mg:Str->Option Value}{base:Heap}{ps:List Str}{qual:Str}{scope:Scope}{us:List Value}{vs:List V}
theorem OC{N:List Str}{cd:Value}{outer:List Env}{s1:Shared}{E:XK}(S:FnScope N ps scope)(e0:Env0 P w K mg base A outer s H)(hl:vs.length=ps.length)(r:Vals vs us)(x:InCallC s s.heap.objs.size (bindL (envOfC qual scope s.heap.objs.size f cd).kindOf (ps.zip us) λ_=>none) (cellsFrom (s.heap.objs.size+1) scope.names []) (bindC (envOfC qual scope s.heap.objs.size f cd).kindOf (ps.zip us) λ_=>none) s1):
  Inv (L6 CX P w K mg base N qual scope f cd A outer s H E) [] (start N vs) H s1:=by
 have J:=Dv (CX:=CX) (E:=E) (A:= {A with handled:=none}) S rfl ⟨e0.frames,e0.mod,e0.bs,e0.bsz,e0.funs,e0.frf,e0.hok,e0.bare⟩ hl r x
 exact⟨⟨J.ok.mod,J.ok.kind,J.ok.glob,J.ok.blt,J.ok.above,J.ok.inj,J.ok.has,J.ok.cab,λz=>absurd (show false=true from z) (by decide),J.ok.frames,J.ok.stk,J.ok.exf,J.ok.bs,J.ok.bsz,J.ok.noex,J.ok.exfs,J.ok.funs,J.ok.frf⟩,J.os,J.bare,J.base,J.loc,J.cell,J.free,J.freeC,J.pin,J.hok,J.len⟩
variable{sp:Sp}
theorem R1{name:Str}{params:Arguments}{body:List Stmt}{dV kV doc pm cdv ct oc:Value}{an od:Option Addr}{osl:Array (Option Value)}{N:List Str}(lk:K.lookup f=some ⟨oc,od,.func (fnOf name qual params body scope dV kV doc pm an cdv ct),osl⟩)(hcd:codeIn K cdv qual=true)(S:FnScope N ps scope)(len:∀ vs H Q E,sp vs H Q E->vs.length=ps.length)(hbody:∀ (A:Around) (outer:List Env) (s:Shared) (H:Hp) (vs:List V) (Q:VK) (E:XK),RoomH k (A.deeper (envOfC qual scope s.heap.objs.size f cdv))->sp vs H Q E->
   ∃ t,PSs (L6 CX P w K mg base N qual scope f cdv A outer s H E) body t/\t {nx:=λ_ H'=>Q .non H',rt:=Q} (start N vs) H):
  FnOkH P w K mg base CX (k+1) f (fnOf name qual params body scope dV kV doc pm an cdv ct) ps sp:=by
 refine⟨len,λA outer s H args us vs Q E hr e0 hb r hsp=>?_⟩
 have hl:=len _ _ _ _ hsp
 have KX:K.In s.heap:=e0.mod.kin.keeps λb o e=>(e0.bs b o e).1
 have lim:s.heap.NoLimit:=e0.mod.nolimit.keeps λb o e=>(e0.bs b o e).1
 have hkind:∀ y∈ps.zip us,scope.names.lookup y.1=some .local\/(scope.names.lookup y.1=some .cell/\((cellsFrom (s.heap.objs.size+1) scope.names []).lookup y.1).isSome=true):=λ⟨n,v⟩ hy=>by
  rcases S.par n (List.of_mem_zip hy).1 with q|q
  .exact .inl q
  .exact .inr ⟨q,cellsFrom_some _ _ _ (.inl q)⟩
 refine codeAny_call_function hr.depth (KX _ _ lk) rfl S.co S.gen rfl (PySem.W.codeRec_of KX hcd) (hb _ _ _ _ ?_)
 refine wpAny_newFunctionEnv_cells S.kind hkind λenv he s1 x=>?_
 subst he
 refine⟨lim.keeps x.toInCall.keep,codeAny_func ?_⟩
 obtain⟨t,ht,hq⟩:=hbody A outer s H vs Q E (hr.deeper _) hsp
 have I:Inv (L6 CX P w K mg base N qual scope f cdv A outer s H E) [] (start N vs) H s1:=OC S e0 hl r x
 refine wpAny_mono (ht [] s1 (start N vs) H _ I hq) (λfl s' hs=>?_) λe s' hs=>hs
 have fin:∀ {σ':St} {H':Hp} {v:V} {u:Value},Inv (L6 CX P w K mg base N qual scope f cdv A outer s H E) [] σ' H' s'->RelV v u->Q v H'->CE outer P w H s Q u s':=
  λ{σ' H' v u} J rv q=>⟨v,H',J.os,J.bare,J.base,J.hok,rv,q⟩
 cases fl with
 |ret u=>
  obtain⟨v,σ',H',J,rv,q⟩:=hs
  exact fin J rv q
 |next=>
  obtain⟨σ',H',J,q⟩:=hs
  exact fin (v:=V.non) (u:=Value.none) J rfl q
 |brk=>
  obtain⟨_,_,_,q⟩:=hs
  exact False.elim q
 |cont=>
  obtain⟨_,_,_,q⟩:=hs
  exact False.elim q
variable{fd:FuncData}
theorem Fun.okH{st:Stmt}{N:List Str}(F:Fun K x qual st f fd)(S:FnScope N ps (Da st))(len:∀ vs H Q E,sp vs H Q E->vs.length=ps.length)(hbody:∀ (cdv:Value) (A:Around) (outer:List Env) (s:Shared) (H:Hp) (vs:List V) (Q:VK) (E:XK),RoomH k (A.deeper (envOfC qual (Da st) s.heap.objs.size f cdv))->sp vs H Q E->
   ∃ t,PSs (L6 Po P w K mg base N qual (Da st) f cdv A outer s H E).nox (Fb st) t/\t {nx:=λ_ H'=>Q .non H',rt:=Q} (start N vs) H):FnOkH P w K mg base Po (k+1) f fd ps sp:=by
 obtain⟨oc,od,kV,doc,pm,an,cdv,ct,osl,rfl,lk,hcd⟩:=F.ex
 refine R1 lk hcd S len λA outer s H vs Q E hr hsp=>?_
 obtain⟨t,h,q⟩:=hbody cdv A outer s H vs Q E hr hsp
 exact⟨t,h.nox,q⟩
section
variable {C S:Addr}
theorem UP{pins:List (Addr×Obj)}{σ:St}{Q:VK}(Z:XInit X.K C S f)(F:FnOkH X.prog X.w X.K X.mg X.base Po k f fd ps sp)(hr:RoomH (k+1) X.A)(hb:Binds X.K fd ps [])(I:Inv X pins σ H s)(r:Vals vs us)(hz:us.length<=sizeLine)(h:∀ a,H a=none->s.heap.get? a=none->sp (.ref a::vs) (Jb H a (.ext (Jq a C))) (λv H2=>v=.non/\Q (.ref a) H2) E0):
  wpAny (model X.prog X.w) X.A (call (.ref C) us) (EP X pins σ Q) X.xe s:=by
 have hq:=h (s.heap.objs.size+1) (I.hok.fresh (le_succ _)) (Heap.get?_none_of_le (le_succ _))
 obtain⟨nm,qn,N,bs,bm,hdct,sn,sub,ab,col,dd,k0,k1,k2,k3,k5,lk,ok,ni,tl⟩:=Z.obj
 have ns:=Heap.Ns.of_isNs (PySem.W.isNs_of_in I.kIn ok)
 have hi:s.heap.nsMap N "__init__"=some (.ref f):=F3 I.kIn ns ni
 have I2:Inv X pins σ (Jb H (s.heap.objs.size+1) (.ext (Jq (s.heap.objs.size+1) C))) {s with heap:=Pi s.heap C us}:=
  I.laid (h':=Pi s.heap C us) (t':=s.toks) (λb o z=>Qi z) (le_succ _) (YE ⟨_,_,Vu us⟩)
 have r2:Vals (V.ref (s.heap.objs.size+1)::vs) (Value.ref (s.heap.objs.size+1)::us):=.cons rfl r
 have hl:(Value.ref (s.heap.objs.size+1)::us).length=ps.length:=by
  have e:=r2.length
  rw[F.len _ _ _ _ hq]at e
  exact e.symm
 have run:=F.run _ X.stack _ _ ⟨Value.ref (s.heap.objs.size+1)::us,[]⟩ (Value.ref (s.heap.objs.size+1)::us) _ _ E0 (hr.make C us []) (I2.env0.make C us []) (by
  have:=hb _ (Value.ref (s.heap.objs.size+1)::us) I2.kIn (by simpa using hl)
  simpa using this) r2 hq
 obtain⟨hp,g,d,tk,os⟩:=s
 refine WK PySem.F.excBase_ValueError (tail_of_in I.kIn tl) (I.kIn _ _ lk) ns hi hz (λself=>PySem.W.bind_fn I.kIn self Z.ini) (codeAny_mono run λrr s' z=>?_)
 cases rr with
 |error e=>exact False.elim z
 |ok fl=>
  cases fl with
  |ret u=>
   obtain⟨v,H',I3,rv,ev,q3⟩:=I2.after z
   subst ev
   exact⟨rv,⟨V.ref (hp.objs.size+1),H',I3,rfl,q3⟩⟩
  |next=>exact False.elim z
  |brk=>exact False.elim z
  |cont=>exact False.elim z
end
end L2
namespace L3
open PySem PySem.Spec PyProof.Rows L2 SeqAt
def SmallK:Bool->V->Prop
 |true,v=>∃ n,v=.int n/\Sk (.int n)
 |false,v=>Sk v
theorem SmallK.v{k:Bool}{v:V}(h:SmallK k v):Sk v:=by
 cases k with
 |true=>obtain⟨n,rfl,q⟩:=h;exact q
 |false=>exact h
def SmallL:List (Str×Bool)->List V->Prop
 | [],[]=>True
 |k::ks,v::vs=>SmallK k.2 v/\SmallL ks vs
 |_,_=>False
def spG(C:Addr)(ks:List (Str×Bool)):Sp:=λvs H Q _=>∃ a xs,vs=.ref a::xs/\SmallL ks xs/\H a=some (.ext (Jq a C))/\∀ d,H d=none->Q .non (Jb (Jb H a (.ext (Hh a C (some d)))) d (.xd ((ks.map (·.1)).zip xs)))
theorem SmallL.length:∀ {ks:List (Str×Bool)} {xs:List V},SmallL ks xs->xs.length=ks.length
 | [],[],_=>rfl
 |_::_,_::_,h=>by rw[List.length_cons,List.length_cons,SmallL.length h.2]
 | [],_::_,h=>h.elim
 |_::_,[],h=>h.elim
structure XInG(X:Cx)(C:Addr)(ks:List (Str×Bool))(sts:List Stmt):Prop where
 h:PSs X sts (λD σ H=>∃ a xs,σ[0]? =some (some (.ref a))/\(∀ i v,xs[i]? =some v->σ[i+1]? =some (some v))/\SmallL ks xs/\H a=some (.ext (Jq a C))/\∀ d,H d=none->D.nx σ (Jb (Jb H a (.ext (Hh a C (some d)))) d (.xd ((ks.map (·.1)).zip xs))))
variable{X:Cx}{f:Addr}{x:Str}{k:Bool}
section
variable {C S:Addr}{xb self y attr attr2:Str}{p1 p2 p3 p7 p8 p9 q1 q2 q3 q4 r1 r2 r3 r4:Pos}{v1 v2:Expr}{rest:List Expr}{P:L2.St->Prop}{b:Nat}{k2:Bool}
theorem X1{pl:Sem Bool}(Z:XInit X.K C S f)(hm:X.mg xb=some (.ref S))(hna:findIn X.K (.ref C) attr=some none)(hj:PJ X (v1::v2::rest) P b)(hP:∀ σ v,σ[1]? =some (some v)->SmallK k v->P σ)(hb:b<=10000:=by decide)(hex:X.ex= []:=by rfl)(hg:Gl X xb:=by rfl)(hN0:X.N[0]? =some self:=by rfl)(hN1:X.N[1]? =some x:=by rfl)(hv0:Kq X.env.scope self:=by first|exact Or.inl rfl|exact Or.inr (Or.inl rfl)|exact Or.inr (Or.inr rfl))(hv1:Kq X.env.scope x:=by first|exact Or.inl rfl|exact Or.inr (Or.inl rfl)|exact Or.inr (Or.inr rfl))(d0:(self==("__debug__":Str))=false:=by decide)(d1:(x==("__debug__":Str))=false:=by decide)(d2:(xb==("__debug__":Str))=false:=by decide)(e0:(self==("__classdict__":Str))=false:=by decide)(e1:(x==("__classdict__":Str))=false:=by decide)(s1:starEach [.Name self p3, .JoinedStr (v1::v2::rest) p7] X.env=(false,eval (.Name self p3) X.env)::starEach [.JoinedStr (v1::v2::rest) p7] X.env:=by rfl)(s2:starEach [.JoinedStr (v1::v2::rest) p7] X.env=(false,eval (.JoinedStr (v1::v2::rest) p7) X.env)::starEach [] X.env:=by rfl)(hpl:(backTo p8 (starEach [.JoinedStr (v1::v2::rest) p7] X.env)).any (·.1)=false:=by rfl)(hkw:backToKw p8 (keywordEach [] X.env)= []:=by rfl)(ht:eval (.Call (.Attribute (.Name xb p1) "__init__" p2) [.Name self p3, .JoinedStr (v1::v2::rest) p7] [] p8) X.env=(do
   let ov <-eval (.Name xb p1) X.env
   standAt p2.atName
   let (f,first) <-holding [ov] (getMethod ov "__init__" pl)
   callWith p8 f first (backTo p8 (starEach [.Name self p3, .JoinedStr (v1::v2::rest) p7] X.env)) (backToKw p8 (keywordEach [] X.env))):=by rfl)(w1:swapsWith (.Call (.Attribute (.Name xb p1) "__init__" p2) [.Name self p3, .JoinedStr (v1::v2::rest) p7] [] p8) none p9.line X.env=pure false:=by rfl)(w2:swapsWithSole [.Attribute (.Name self q1) attr q2] (.Name x q3) q4.line X.env=pure false:=by rfl)(w3:swappedStores [.Attribute (.Name self q1) attr q2] (.Name x q3) X.env=pure none:=by rfl)(w4:(assignEach [.Attribute (.Name self q1) attr q2] X.env).map (·.2)= [assign (.Attribute (.Name self q1) attr q2) X.env]:=by rfl):
  XInG X C [(attr,k)] [.Expr (.Call (.Attribute (.Name xb p1) "__init__" p2) [.Name self p3, .JoinedStr (v1::v2::rest) p7] [] p8) p9, .Assign [.Attribute (.Name self q1) attr q2] (.Name x q3) q4]:=⟨by
 refine PSs.weak (Fj (Do (GA (pl:=pl) Z hg hm (Ic (Zc hN0 hv0 d0 e0) (Ic (IG hj hb) Vf s2) s1) d2 s1 hpl hkw ht) w1) (Cm (Ts (Zc hN1 hv1 d1 e1) (K4 hex Z hna (Zc hN0 hv0 d0 e0)) w2 w3 w4))) λD σ H ⟨a,xs,h0,hx,hs,hH,q⟩=>?_
 match xs,hs with
 | [v],hs=>
  have h1:=hx 0 v rfl
  exact⟨.ref a,h0,hP σ v h1 hs.1,λt=>⟨a,t,rfl,hH,v,h1,.ref a,h0,a,rfl,hH,λd hd _=>q d hd⟩⟩⟩
theorem Y1{pl:Sem Bool}(Z:XInit X.K C S f)(hm:X.mg xb=some (.ref S))(hna:findIn X.K (.ref C) attr=some none)(hnb:findIn X.K (.ref C) attr2=some none)(hj:PJ X (v1::v2::rest) P b)(hP:∀ σ v w,σ[1]? =some (some v)->SmallK k v->σ[2]? =some (some w)->SmallK k2 w->P σ)(hne:(attr2==attr)=false:=by decide)(hb:b<=10000:=by decide)(hex:X.ex= []:=by rfl)(hg:Gl X xb:=by rfl)(hN0:X.N[0]? =some self:=by rfl)(hN1:X.N[1]? =some x:=by rfl)(hN2:X.N[2]? =some y:=by rfl)(hv0:Kq X.env.scope self:=by first|exact Or.inl rfl|exact Or.inr (Or.inl rfl)|exact Or.inr (Or.inr rfl))(hv1:Kq X.env.scope x:=by first|exact Or.inl rfl|exact Or.inr (Or.inl rfl)|exact Or.inr (Or.inr rfl))(hv2:Kq X.env.scope y:=by first|exact Or.inl rfl|exact Or.inr (Or.inl rfl)|exact Or.inr (Or.inr rfl))(d0:(self==("__debug__":Str))=false:=by decide)(d1:(x==("__debug__":Str))=false:=by decide)(d2:(xb==("__debug__":Str))=false:=by decide)(d3:(y==("__debug__":Str))=false:=by decide)(e0:(self==("__classdict__":Str))=false:=by decide)(e1:(x==("__classdict__":Str))=false:=by decide)(e2:(y==("__classdict__":Str))=false:=by decide)(s1:starEach [.Name self p3, .JoinedStr (v1::v2::rest) p7] X.env=(false,eval (.Name self p3) X.env)::starEach [.JoinedStr (v1::v2::rest) p7] X.env:=by rfl)(s2:starEach [.JoinedStr (v1::v2::rest) p7] X.env=(false,eval (.JoinedStr (v1::v2::rest) p7) X.env)::starEach [] X.env:=by rfl)(hpl:(backTo p8 (starEach [.JoinedStr (v1::v2::rest) p7] X.env)).any (·.1)=false:=by rfl)(hkw:backToKw p8 (keywordEach [] X.env)= []:=by rfl)(ht:eval (.Call (.Attribute (.Name xb p1) "__init__" p2) [.Name self p3, .JoinedStr (v1::v2::rest) p7] [] p8) X.env=(do
   let ov <-eval (.Name xb p1) X.env
   standAt p2.atName
   let (f,first) <-holding [ov] (getMethod ov "__init__" pl)
   callWith p8 f first (backTo p8 (starEach [.Name self p3, .JoinedStr (v1::v2::rest) p7] X.env)) (backToKw p8 (keywordEach [] X.env))):=by rfl)(w1:swapsWith (.Call (.Attribute (.Name xb p1) "__init__" p2) [.Name self p3, .JoinedStr (v1::v2::rest) p7] [] p8) none p9.line X.env=pure false:=by rfl)(w2:swapsWithSole [.Attribute (.Name self q1) attr q2] (.Name x q3) q4.line X.env=pure false:=by rfl)(w3:swappedStores [.Attribute (.Name self q1) attr q2] (.Name x q3) X.env=pure none:=by rfl)(w4:(assignEach [.Attribute (.Name self q1) attr q2] X.env).map (·.2)= [assign (.Attribute (.Name self q1) attr q2) X.env]:=by rfl)(w5:swapsWithSole [.Attribute (.Name self r1) attr2 r2] (.Name y r3) r4.line X.env=pure false:=by rfl)(w6:swappedStores [.Attribute (.Name self r1) attr2 r2] (.Name y r3) X.env=pure none:=by rfl)(w7:(assignEach [.Attribute (.Name self r1) attr2 r2] X.env).map (·.2)= [assign (.Attribute (.Name self r1) attr2 r2) X.env]:=by rfl):
  XInG X C [(attr,k),(attr2,k2)] [.Expr (.Call (.Attribute (.Name xb p1) "__init__" p2) [.Name self p3, .JoinedStr (v1::v2::rest) p7] [] p8) p9, .Assign [.Attribute (.Name self q1) attr q2] (.Name x q3) q4, .Assign [.Attribute (.Name self r1) attr2 r2] (.Name y r3) r4]:=⟨by
 refine PSs.weak (Fj (Do (GA (pl:=pl) Z hg hm (Ic (Zc hN0 hv0 d0 e0) (Ic (IG hj hb) Vf s2) s1) d2 s1 hpl hkw ht) w1) (Fj (Ts (Zc hN1 hv1 d1 e1) (LW hex Z hna (Zc hN0 hv0 d0 e0)) w2 w3 w4)
  (Cm (Ts (Zc hN2 hv2 d3 e2) (KW Z hnb (Zc hN0 hv0 d0 e0)) w5 w6 w7)))) λD σ H ⟨a,xs,h0,hx,hs,hH,q⟩=>?_
 match xs,hs with
 | [v,w],hs=>
  have h1:=hx 0 v rfl
  have h2:=hx 1 w rfl
  refine⟨.ref a,h0,hP σ v w h1 hs.1 h2 hs.2.1,λt=>⟨a,t,rfl,hH,v,h1,.ref a,h0,a,rfl,hH,λd hd _=>?_⟩⟩
  have hda:d≠a:=λz=>by rw[z,hH]at hd;cases hd
  refine⟨w,h2,.ref a,h0,a,d,[(attr,v)],rfl,by rw[Ha (Ne.symm hda)];exact Na,Na,?_,by simp,?_⟩
  .rw[lookup_cons,hne];rfl
  .rw[BH]
   exact q d hd⟩
end
structure FnG(P:Program)(w:World)(K:Frag)(mg:Str->Option Value)(base:Heap)(k:Nat)(c:Str)(ks:List (Str×Bool)):Prop where
 ex:∃ j C S f fd ps,j+1<=k/\FnOkH P w K mg base Po j f fd ps (spG C ks)/\XInit K C S f/\mg c=some (.ref C)/\nsIn K mainGlobals c=some (some (.ref C))/\Binds K fd ps []
variable{P:Program}{w:World}{K:Frag}{mg:Str->Option Value}{base:Heap}{c:Str}
theorem FnG.mono{j k:Nat}{ks:List (Str×Bool)}(F:FnG P w K mg base j c ks)(h:j<=k):FnG P w K mg base k c ks:=by
 obtain⟨i,C,S,f,fd,ps,a,b⟩:=F.ex
 exact⟨i,C,S,f,fd,ps,le_trans a h,b⟩
variable{fd:FuncData}{ps:List Str}
theorem HF{k:Nat}{qual:Str}{ks:List (Str×Bool)}{st:Stmt}{C S fa:Addr}{N:List Str}(F:Fun K "__init__" qual st fa fd)(T:FnScope N ps (Da st))(Z:XInit K C S fa)(hm:mg c=some (.ref C))(hc:nsIn K mainGlobals c=some (some (.ref C)))(hb:Binds K fd ps [])(body:∀ (cdv:Value) (A:Around) (outer:List Env) (s:Shared) (H:Hp) (E:XK),RoomH k (A.deeper (envOfC qual (Da st) s.heap.objs.size fa cdv))->
   XInG (L6 Po P w K mg base N qual (Da st) fa cdv A outer s H E).nox C ks (Fb st))(hps:ps.length=ks.length+1:=by rfl):FnG P w K mg base (k+1+1) c ks:=by
 refine⟨k+1,C,S,fa,fd,ps,le_refl _,F.okH T (λvs H Q E h=>?_) (λcdv A outer s H vs Q E hr h=>?_),Z,hm,hc,hb⟩
 .obtain⟨a,xs,rfl,hs,_⟩:=h
  rw[hps,List.length_cons,hs.length]
 .obtain⟨a,xs,rfl,hs,h3,q⟩:=h
  refine⟨_,(body cdv A outer s _ E hr).h,a,xs,rfl,λi v e=>?_,hs,h3,q⟩
  have hi:=(List.getElem?_eq_some_iff.mp e).1
  show((V.ref a::xs).map some++replicate _ none)[i+1]? =_
  rw[getElem?_append_left (by rw[length_map,List.length_cons];omega),getElem?_map,List.getElem?_cons_succ,e];rfl
def UJ:Bool->D->Bool
 |_,.int i=>decide (0<=i)&&decide (i<1000)
 |false,.str x=>decide (x.length<=60)&&x.cps.all (λc=>decide (c<1114112))
 |false,.non=>true
 |_,_=>false
def Jp:List (Str×Bool)->List D->Bool
 | [],[]=>true
 |k::ks,d::ds=>UJ k.2 d&&Jp ks ds
 |_,_=>false
theorem MD(h1:x.length<=60)(h2:x.cps.all (λc=>decide (c<1114112))=true):(reprText x).length<=1000:=by
 have:=StrLaws.reprText_len x λc hc=>by
  rw[<-Array.all_toList,all_eq_true]at h2
  have:=of_decide_eq_true (h2 c hc)
  exact lt_trans this (by decide)
 omega
variable{W:WS}{H:Hp}
theorem KQ{d:D}{v:V}(h:UJ k d=true)(r:Has K W H d v):SmallK k v/\FQ d=some v:=by
 cases d with
 |int i=>
  rw[Has]at r;subst r
  have h':(decide (0<=i)&&decide (i<1000))=true:=by cases k<;>exact h
  rw[and_eq_true,decide_eq_true_eq,decide_eq_true_eq]at h'
  have:=PX h'.1 h'.2
  cases k with
  |true=>exact⟨⟨i,rfl,this⟩,rfl⟩
  |false=>exact⟨this,rfl⟩
 |str x=>
  rw[Has]at r;subst r
  cases k with
  |true=>cases h
  |false=>
   have h':(decide (x.length<=60)&&x.cps.all (λc=>decide (c<1114112)))=true:=h
   rw[and_eq_true,decide_eq_true_eq]at h'
   exact⟨MD h'.1 h'.2,rfl⟩
 |non=>
  rw[Has]at r;subst r
  cases k with
  |true=>cases h
  |false=>exact⟨trivial,rfl⟩
 |_=>cases k<;>cases h
theorem Dt{K:Frag}{W:WS}{H:Hp}:∀ {ks:List (Str×Bool)} {ds:List D} {vs:List V},Jp ks ds=true->HasL K W H ds vs->SmallL ks vs/\∀ H',ExVs H' ds vs
 | [],[],vs,_,r=>by rw[HasL]at r;subst r;exact⟨trivial,λ_=>trivial⟩
 |k::ks,d::ds,vs,h,r=>by
  rw[HasL]at r
  obtain⟨v,r',rfl,hv,hr⟩:=r
  have h':(UJ k.2 d&&Jp ks ds)=true:=h
  rw[and_eq_true]at h'
  obtain⟨a,b⟩:=KQ h'.1 hv
  obtain⟨c,e⟩:=Dt h'.2 hr
  exact⟨⟨a,c⟩,λH'=>⟨.inl b,e H'⟩⟩
 | [],_::_,_,h,_=>by cases h
 |_::_,[],_,h,_=>by cases h
theorem IH:∀ {ks:List (Str×Bool)} {vs:List V},SmallL ks vs->((ks.map (·.1)).zip vs).map (·.1)=ks.map (·.1)/\((ks.map (·.1)).zip vs).map (·.2)=vs
 | [],[],_=>⟨rfl,rfl⟩
 |k::ks,v::vs,h=>by
  obtain⟨a,b⟩:=IH h.2
  exact⟨by rw[map_cons,zip_cons_cons,map_cons,a],by rw[map_cons,zip_cons_cons,map_cons,b]⟩
 | [],_::_,h=>h.elim
 |_::_,[],h=>h.elim
def Ci(ks:List (Str×Bool))(ds:List D):List D:=.tup (ks.map λk=>D.str k.1)::ds
def V8(c:Str)(ks:List (Str×Bool))(ds:List D):Out:=if Jp ks ds=true then .ex c (Ci ks ds) else .stuck
def Qx(c:Str)(ks:List (Str×Bool))(fs:Ca->Res (List D)):Ca->Out:=λδ=>Qk (fs δ) (V8 c ks)
theorem UL{d:Addr}{ks:List (Str×Bool)}{ds:List D}{xs:List V}(h:SmallL ks xs)(e:H d=some (.xd ((ks.map (·.1)).zip xs)))(v:ExVs H ds xs):ExD H (some d) (ks.map λk=>D.str k.1) ds:=by
 obtain⟨a,b⟩:=IH h
 refine⟨d,_,rfl,e,?_,by rw[b];exact v⟩
 rw[show((ks.map (·.1)).zip xs).map (λp=>D.str p.1)=(((ks.map (·.1)).zip xs).map (·.1)).map D.str by rw[map_map];rfl,a,map_map]
 rfl
variable{σ:L2.St}
section
variable {xw:XW}{C S:Addr}{k:Nat}{ks:List (Str×Bool)}{p pos np cpos:Pos}{e a:Expr}{es:List Expr}{t:TA}{fs:Ca->Res (List D)}
theorem HG(Z:XInit X.K C S f)(G:FnOkH X.prog X.w X.K X.mg X.base Po k f fd ps (spG C ks))(hr:RoomH (k+1) X.A)(hg:Gl X x)(hm:X.mg x=some (.ref C))(hb:Binds X.K fd ps [])(hex:X.ex= [])(ha:PA X (e::es) t)(hdb:(x==("__debug__":Str))=false:=by decide)(he:starEach (e::es) X.env=(false,eval e X.env)::starEach es X.env:=by rfl)(hpl:(backTo pos (starEach es X.env)).any (·.1)=false:=by rfl)(hks:ks.length<=50:=by decide):
  PE X (.Call (.Name x p) (e::es) [] pos) (λσ H Q=>t σ H λvs H1=>SmallL ks vs/\∀ a d,H1 a=none->H1 d=none->d≠a->X.s₀.heap.get? a=none->Q (.ref a) (Jb (Jb H1 a (.ext (Hh a C (some d)))) d (.xd ((ks.map (·.1)).zip vs)))):=by
 intro pins s σ H Q I h
 refine wpAny_Call_Name_kw (Xj I hg hm ?_ hdb)
 refine callWith_K (h₀:=X.base) I.ok.mod.kin Z.kpC (thn (ha pos pins s σ H _ I h) λus s1 ⟨vs,H1,I1,r,hs,q⟩=>⟨I1.kIn,?_⟩) he hpl
 refine UP Z G hr hb I1 r (by show us.length<=_;rw[<-r.length,hs.length,sizeLine_eq];omega) λb hb1 hb2=>?_
 refine⟨b,vs,rfl,hs,Na,λd hd=>⟨rfl,?_⟩⟩
 have hdb':d≠b:=λz=>by rw[z,Na]at hd;cases hd
 rw[Ha hdb']at hd
 rw[BH]
 refine q b d hb1 hd hdb' ?_
 cases z:X.s₀.heap.get? b with
 |none=>rfl
 |some o=>
  obtain⟨o',e'⟩:=I1.base.there b o z (by rw[hex];simp)
  rw[hb2]at e';cases e'
def F7(X:Cx)(xw:XW)(C:Addr)(c:Str)(ks:List (Str×Bool))(pre:List D):VK:=λv H'=>∃ b d H2 vs ds,v=.ref b/\H'=Jb (Jb H2 b (.ext (Hh b C (some d)))) d (.xd ((ks.map (·.1)).zip vs))/\H2 b=none/\H2 d=none/\d≠b/\X.s₀.heap.get? b=none/\SmallL ks vs/\(∀ H,ExVs H ds vs)/\xw c (pre++Ci ks ds) (Jb H2 d (.xd ((ks.map (·.1)).zip vs)))
theorem Lb0{W₀:WS}{H₀:Hp}{δ:Ca}{Dn:Ends}{pre:List D}(st:StHas X.K W₀ H₀ W H σ δ)(q:RS X.K xw W₀ H₀ W H (Qk (fs δ) λds=>if Jp ks ds=true then .ex c (pre++Ci ks ds) else .stuck) Dn):
  tDA X.K xw fs σ H (λvs H1=>SmallL ks vs/\∀ b d,H1 b=none->H1 d=none->d≠b->X.s₀.heap.get? b=none->F7 X xw C c ks pre (.ref b) (Jb (Jb H1 b (.ext (Hh b C (some d)))) d (.xd ((ks.map (·.1)).zip vs)))):=by
 refine⟨W₀,H₀,W,δ,st,?_⟩
 cases hf:fs δ with
 |stuck=>rw[hf]at q;exact q
 |ex c' fs'=>rw[hf]at q;exact λH2 k2=>q H2 (st.fr.ext.trans k2)
 |ok ds=>
  rw[hf]at q
  have q':RS X.K xw W₀ H₀ W H (if Jp ks ds=true then .ex c (pre++Ci ks ds) else .stuck) Dn:=q
  clear q
  split at q'
  .rename_i hi
   intro vs H2 k2 hv
   obtain⟨s1,s2⟩:=Dt hi hv
   exact⟨s1,λb d hb1 hd1 hdb hb2=>⟨b,d,H2,vs,ds,rfl,rfl,hb1,hd1,hdb,hb2,s1,s2,q' _ ((st.fr.ext.trans k2).trans λx o e=>by rw[Ha (Pa e hd1)];exact e)⟩⟩
  .exact q'.elim
theorem AQ(F:FnG X.prog X.w X.K X.mg X.base k c ks)(hr:Room k X.A)(hx:IK X xw)(hcalm:X.calm=true)(ha:XA X xw (a::es) fs)(hex:X.ex= []:=by rfl)(hg:Gl X c:=by rfl)(hdb:(c==("__debug__":Str))=false:=by decide)(he:starEach (a::es) X.env=(false,eval a X.env)::starEach es X.env:=by rfl)(hpl:(backTo cpos (starEach es X.env)).any (·.1)=false:=by rfl)(hks:ks.length<=50:=by decide):
  XS X xw (.Raise (some (.Call (.Name c np) (a::es) [] cpos)) none pos) (Qx c ks fs):=⟨by
 obtain⟨j,C,S,f,fd,ps,hj,G,Z,hm,hn,hb⟩:=F.ex
 intro pins s σ H Dn I ⟨W₀,H₀,W,δ,st,q⟩
 have rd:=Lb0 (C:=C) (pre:= []) st q
 obtain⟨nm,qn,N,bs,bm,hdct,sn,sub,ab,col,dd,k0,k1,k2,k3,k5,lk,_,_,tl⟩:=Z.obj
 have T:=tail_of_in I.kIn tl
 rw[arm_exec_Raise]
 refine wpAny_bind (wpAny_standAt (LD (C:=C) (nm:=nm) (q:=qn) (N:=N) (bs:=bs) (bm:=bm) (hdct:=hdct) (sn:=sn) (sub:=sub) (ab:=ab) (col:=col) (dd:=dd) (k0:=k0) (k1:=k1) (k2:=k2) (k3:=k3) (k5:=k5) (newId:="ValueError.__new__") (T.hasType PySem.F.excBase_ValueError.hasBase) (I.ok.hd hcalm) ?_))
 refine wpAny_bind (thn (HG Z G (hr.h.mono hj) hg hm hb hex ha.h hdb he hpl hks pins s σ H (F7 X xw C c ks []) I rd) λv s1 ⟨y,H1,I1,r,b,d,H2,vs,ds,ey,eH,h1,hd1,hdb',h2,hs,hv,qx⟩=>?_)
 subst ey eH
 obtain rfl:v=.ref b:=r
 have hbb:Jb (Jb H2 b (.ext (Hh b C (some d)))) d (.xd ((ks.map (·.1)).zip vs)) b=some (.ext (Hh b C (some d))):=by rw[Ha (Ne.symm hdb')];exact Na
 obtain⟨⟨t0,sl,hb'⟩,_,_⟩:=I1.hok b _ hbb
 refine wpAny_bind (wpAny_standAt (wpAny_pure ?_))
 refine⟨b,some d,t0,sl,rfl,I1.kIn _ _ lk,hb',?_⟩
 exact hx pins σ _ s1 b C (some d) c (Ci ks ds) I1 hbb h2 hn (by rw[Vn h1 hdb'];exact⟨rfl,UL hs Na (hv _)⟩) (by rw[Vn h1 hdb'];exact qx)⟩
end
variable{i:Nat}
theorem UM{v:V}(h:σ[i]? =some (some v))(s:SmallK true v):∃ n,σ[i]? =some (some (.int n))/\Sk (.int n):=by
 obtain⟨n,rfl,q⟩:=s
 exact⟨n,h,q⟩
theorem V1{v:V}(h:σ[i]? =some (some v))(s:SmallK k v):∃ v,σ[i]? =some (some v)/\Sk v:=⟨v,h,s.v⟩
end L3
namespace PySem
open Sem (wp)
variable{ar:Addr}
section
variable {prog:Program}{w:World}{A:Around}{E:Value->Shared->Prop}{s:Shared}{env:Env}
theorem Rt:entryFor table "proto.unchain"=some Builtin.«proto.unchain» :=entryFor_of_fast (by kernel_rfl)
theorem Xx{e:Value}{oa:Obj}{va:Array Value}{Q:Value->Shared->Prop}(ho:s.heap.get? ar=some oa)(hd:oa.data=.fields va)(h2:va[2]? =some .none)(hq:Q .none s):
  wpAny (model prog w) A (runValue (.builtin "proto.unchain" ⟨[e,.ref ar,.ref ar,.bool false],[]⟩)) Q E s:=by
 refine wpAny_runValue (codeAny_builtin Rt ?_)
 unfold Builtin.«proto.unchain»
 refine wpAny_bind (wpAny_field ho hd h2 ?_)
 exact wpAny_pure hq
variable {nm q:Str}{C N:Addr}{bs bm:List Value}{hdct:Bool}{sn:List Str}{sub:List Value}{ab:Bool}{col:Option Bool}{dd:Option Addr}{k0 k1 k2 k3 k5:Option Value}{newId:String}
theorem IA{x:Sem Value}{Q:Flow->Shared->Prop}(hbase:bm.contains (.type "BaseException")=true)(hh:A.handled=some (.ref ar)){j:Nat}{p pos:Pos}(h:wpAny (model prog w) A x (λv s1=>∃ e dx t0 sl oa va,v=.ref e/\s1.heap.get? C=some (excClassObj nm q C N bs bm hdct sn sub ab col dd k0 k1 k2 k3 k5 newId)/\
   s1.heap.get? e=some ⟨.ref C,dx,.fields #[.ref t0,.none,.none,.none,.bool false,.none],sl⟩/\e≠ar/\s1.heap.get? ar=some oa/\oa.data=.fields va/\va[2]? =some .none/\
   ∀ h',SameBut e s1.heap h'->h'.get? e=some ⟨.ref C,dx,.fields #[.ref t0,.none,.ref ar,.none,.bool true,.none],sl⟩->E (.ref e) {s1 with heap:=h'}) E s):
  wpAny (model prog w) A (raiseStmt env (some x) (some (do let v <-eval (.Constant .none j p) env;standAt pos;pure v))) Q E s:=by
 have own:(Value.ref C::bm).contains (.type "BaseException")=true:=by rw[List.contains_cons,hbase,Bool.or_true]
 unfold raiseStmt
 refine wpAny_bind (wpAny_mono h (λv s1 z=>?_) λ_ _ y=>y)
 obtain⟨e,dx,t0,sl,oa,va,rfl,kl,at1,ne,ha,hda,h2',last⟩:=z
 obtain⟨hp,g,d,tk,os⟩:=s1
 refine wpAny_bind (wpAny_holding ?_)
 refine wpAny_bind (wpAny_Constant_none (wpAny_bind (wpAny_standAt (wpAny_pure (wpAny_bind (wpAny_pure ?_))))))
 refine wpAny_bind ?_
 unfold excFromValue
 have nC:C≠e:=λz=>by rw[z,at1]at kl;cases kl
 generalize hSF:setField=SF
 repeat (first|with_reducible refine wpAny_loadPart_at at1 ?_|with_reducible refine wpAny_loadPart_at kl ?_|(with_reducible refine wpAny_isSubtype_exc kl ?_;rw[own])|wp_step)
 subst hSF
 have up:∀ (h0:Heap) (vs:Array Value) (i:Nat) (x:Value),h0.get? e=some ⟨.ref C,dx,.fields vs,sl⟩->(h0.update e (Obj.mapFields (·.setIfInBounds i x))).get? e=some ⟨.ref C,dx,.fields (vs.setIfInBounds i x),sl⟩:=λh0 vs i x e0=>get?_update_self _ e0 rfl
 have sb:∀ (h0:Heap) (i:Nat) (x:Value),SameBut e h0 (h0.update e (Obj.mapFields (·.setIfInBounds i x))):=λh0 i x=>SameBut.update h0 e _
 refine wpAny_setField at1 rfl (by simp) ?_
 refine wpAny_bind (wpAny_setField (up _ _ _ _ at1) rfl (by simp) ?_)
 have at2:=up _ _ 4 (.bool true) (up hp _ 3 .none at1)
 have s2:=(sb hp 3 .none).trans (sb _ 4 (.bool true))
 have kl2:=(s2.2 C nC).trans kl
 have ha2:=(s2.2 ar (Ne.symm ne)).trans ha
 revert at2 s2 kl2 ha2
 generalize ((hp.update e (Obj.mapFields (·.setIfInBounds 3 Value.none))).update e (Obj.mapFields (·.setIfInBounds 4 (Value.bool true))))=h2
 intro at2 s2 kl2 ha2
 generalize hRN:(raiseNew:Value->Sem Flow)=RN
 repeat (first|with_reducible refine wpAny_loadPart_at at2 ?_|with_reducible refine wpAny_loadPart_at kl2 ?_|(with_reducible refine wpAny_isSubtype_exc kl2 ?_;rw[own])|wp_step)
 subst hRN
 show wpAny _ _ (raiseNew (.ref e)) _ _ ⟨h2,g,d,tk,os⟩
 unfold raiseNew
 refine wpAny_bind (wpAny_handled ?_)
 rw[hh]
 have nb:(Value.ref ar != Value.ref e)=true:=by simp[Ne.symm ne]
 dsimp only
 rw[if_pos nb]
 refine wpAny_bind (wpAny_holding (Xx ha2 hda h2' ?_))
 have at3:=up h2 _ 2 (.ref ar) at2
 have s3:=s2.trans (sb h2 2 (.ref ar))
 refine wpAny_bind ?_
 show wpAny _ _ (setField (.ref e) 2 (.ref ar)) _ _ _
 exact wpAny_setField (a:=e) (i:=2) (x:=.ref ar) at2 rfl (by simp) (wpAny_throw (last _ s3 at3))
end
end PySem
namespace L3
open PySem PySem.Spec PyProof.Rows L2 SeqAt
def Rk(X:Cx)(s:Shared)(b:Addr)(cls a0:Value)(dx:Option Addr)(s1:Shared):Prop:=
 ∃ h1 t1,s1= {s with heap:=h1,toks:=t1}/\Heap.HeldW (hideAll s.heap (b::He X.stack)) (X.env::X.outer) b cls a0 X.env.locals h1/\
  (∀ c o,c≠X.env.locals->s.heap.get? c=some o->(∀ vs,o.data≠ .fields vs)->∃ sl,h1.get? c=some {o with slots:=sl})/\(∃ o,h1.get? b=some o/\o.dict=dx)/\∃ m,h1.Ns X.env.locals m
variable{X:Cx}{pins:List (Addr×Obj)}{σ:L2.St}{H:Hp}{s:Shared}{b:Addr}{cls:Value}{A:Around}{Ex:Value->Shared->Prop}{u:HO}{n:Str}{pos:Pos}{α:Type}{E:XK}
section
variable {s1:Shared}{C:Addr}{a0:Value}{dx:Option Addr}{M:Model}{Q:Unit->Shared->Prop}
theorem JI{hb:Heap}{vs:Array Value}{sl:Array (Option Value)}(I:Inv X pins σ H s)(hst:X.stack=X.env::X.outer)(hfr:X.env.frame=some X.env.locals)(hA:A.frames=X.A.frames)(hH:H b=some u)(hbf:∃ o vs,s.heap.get? b=some o/\o.data=.fields vs)(same:SameBut b s.heap hb)(at':hb.get? b=some ⟨.ref C,dx,.fields vs,sl⟩)(h0:vs[0]? =some a0)(h1:vs[1]? =some .none)(hq:∀ s1,Rk X s b (.ref C) a0 dx s1->Q () s1):
  wpAny M A (noteFrame (.ref b) X.env) Q Ex {s with heap:=hb}:=by
 have hin:∀ env∈X.env::X.outer,∀ c,env.frame=some c->c∈b::He X.stack:=λenv q c hc=>by
  rw[hst];exact mem_cons_of_mem _ (List.mem_filterMap.mpr ⟨env,q,hc⟩)
 have nst:b∉He X.stack:=λz=>by rw[I.stkFree b z]at hH;cases hH
 have ff0:s.heap.FunFrames (hideAll s.heap (b::He X.stack)) (X.env::X.outer):=PySem.W.funFrames_hide (by rw[<-hst];exact I.stack) hin
 have keep:∀ c o,c≠b->s.heap.get? c=some o->hb.get? c=some o:=λc o hc q=>(same.2 c hc).trans q
 obtain⟨ob,eb⟩:=Zw (I.hok b u hH)
 have ff:hb.FunFrames (hideAll s.heap (b::He X.stack)) (X.env::X.outer):=by
  have:∀ l:List Env,(∀ env∈l,∀ c,env.frame=some c->c≠b)->s.heap.FunFrames (hideAll s.heap (b::He X.stack)) l->hb.FunFrames (hideAll s.heap (b::He X.stack)) l:=by
   intro l
   induction l with
   |nil=>intro _ _;trivial
   |cons env l ih=>
    intro hl ⟨h1,⟨L,o,f1,f2,f3,f4⟩,h3⟩
    exact⟨h1,⟨L,o,f1,f2,keep L o (hl env mem_cons_self L f1) f3,f4⟩,ih (λe he=>hl e (mem_cons_of_mem _ he)) h3⟩
  refine this _ (λenv he c hc z=>nst ?_) ff0
  rw[<-z,hst];exact List.mem_filterMap.mpr ⟨env,he,hc⟩
 have gone:(hideAll s.heap (b::He X.stack)).get? b=none:=hideAll_none _ (mem_cons_self ..)
 have stays:(hideAll s.heap (b::He X.stack)).StaysIn hb:=λc o q=>keep c o (λz=>by rw[z,gone]at q;cases q) (of_hideAll _ q)
 obtain⟨m,hm,_⟩:=id I.loc
 have hbl:X.env.locals≠b:=λz=>nst (by rw[Ui hst hfr,z];exact mem_cons_self)
 have hmb:hb.Ns X.env.locals m:=hm.sameBut same hbl
 refine(Tw (.ref b) X.env).thn (Q:=λ_ s'=>∃ h',s'= {s with heap:=h'}/\Heap.NotedW (hideAll s.heap (b::He X.stack)) (X.env::X.outer) b (.ref C) a0 (rawInt X.env.locals) hb h') ?_ λ_ s' ⟨h',e',nt⟩ dk=>?_
 .unfold noteFrame
  simp only[hfr]
  refine wpAny_bind (wpAny_field at' rfl h1 ?_)
  rw[if_neg (by decide)]
  exact wpAny_entryW (by rw[hA,<-hst];exact I.ok.frames) ff hfr at' stays gone rfl (Array.getElem?_eq_some_iff.mp h1).1 h0 λh' nt=>⟨h',rfl,nt⟩
 .subst e'
  obtain⟨k1,k2,k3,k4⟩:=nt
  obtain⟨o',eo,d2⟩:=dk b _ at'
  refine hq _ ⟨h',s.toks,rfl,⟨k1,gone,k2,k3⟩,λc o hc q nf=>?_,⟨o',eo,d2.1⟩,m,?_⟩
  .have hcb:c≠b:=λz=>by
    obtain⟨o2,vs2,e2,d2⟩:=hbf
    rw[z,e2]at q
    cases q
    exact nf vs2 d2
   exact k4 c o (keep c o hcb q) nf
  .exact Heap.UpToSlots.ns (h:=hb) k4 hmb
theorem Dz(ok:X.Ok)(hst:X.stack=X.env::X.outer)(hfr:X.env.frame=some X.env.locals)(hbL:b≠X.env.locals)(hk:X.env.kindOf n=some .local)(hX:Rk X s b cls a0 dx s1)(hq:∀ s2,Rk X s b cls a0 dx s2->Q () s2):
  wpAny M A (do bindName X.env n .none;unbindBehindTheSuite X.env n pos) Q Ex s1:=by
 obtain⟨h1,t1,rfl,⟨w1,w2,w3,w4⟩,hs,⟨o,eo,ed⟩,m,hm⟩:=hX
 have hp:(X.env.scope.kind== .class||(X.env.scope.kind== .module&&X.env.locals != X.env.globals))=false:=by rw[ok.kind];rfl
 have hL:(hideAll s.heap (b::He X.stack)).get? X.env.locals=none:=hideAll_none _ (mem_cons_of_mem _ (by rw[Ui hst hfr];exact mem_cons_self))
 obtain⟨oL,esL,epL,eL,dL,_⟩:=id hm
 refine wpAny_nameGoes_keeps hk hm hp λh' v hn same=>hq _ ⟨h',t1+1,rfl,⟨λc o' q=>(same.2 c (λz=>by rw[z,hL]at q;cases q)).trans (w1 c o' q),w2,?_,?_⟩,λc o' hc q nf=>?_,⟨o,(same.2 b hbL).trans eo,ed⟩,_,hn⟩
 .obtain⟨oL',esL',epL',eL',dL',_⟩:=id hn
  have:∀ l:List Env,h1.FunFrames (hideAll s.heap (b::He X.stack)) l->h'.FunFrames (hideAll s.heap (b::He X.stack)) l:=by
   intro l
   induction l with
   |nil=>intro _;trivial
   |cons env l ih=>
    intro⟨g1,⟨L,o,f1,f2,f3,f4⟩,g3⟩
    by_cases hc:L=X.env.locals
    .exact⟨g1,⟨L,oL',f1,f2,by rw[hc];exact eL',λvs z=>by rw[dL']at z;cases z⟩,ih g3⟩
    .exact⟨g1,⟨L,o,f1,f2,(same.2 L hc).trans f3,f4⟩,ih g3⟩
  exact this _ w3
 .obtain⟨oe,vs,T,oT,ts,he,hcls,hd,h1',hnT,hTe,hT,hdT,h3⟩:=w4
  have hTL:T≠X.env.locals:=λz=>by
   rw[z,eL]at hT
   cases hT
   rw[dL]at hdT;cases hdT
  exact⟨oe,vs,T,oT,ts,(same.2 b hbL).trans he,hcls,hd,h1',hnT,hTe,(same.2 T hTL).trans hT,hdT,h3⟩
 .obtain⟨sl,e⟩:=hs c o' hc q nf
  exact⟨sl,(same.2 c hc).trans e⟩
theorem Bq(hfr:X.env.frame=some X.env.locals)(hX:Rk X s b cls a0 dx s1)(hq:∀ s2,Rk X s b cls a0 dx s2->Q () s2):
  wpAny M A (setFlight (.ref b) X.env.frame) Q Ex s1:=by
 obtain⟨h1,t1,rfl,⟨w1,w2,w3,oe,vs,T,oT,ts,he,hcls,hd,h1',hnT,hTe,hT,hdT,h3⟩,hs,⟨o,eo,ed⟩,m,hm⟩:=hX
 have hsz:3<ts.size:=(Array.getElem?_eq_some_iff.mp h3).1
 rw[hfr]
 unfold setFlight
 refine wpAny_bind (wpAny_field he hd h1' ?_)
 rw[if_pos (show(Value.ref T != Value.none)=true from by simp)]
 have other:∀ c,c≠T->(h1.update T (Obj.mapFields (·.setIfInBounds 3 ((some X.env.locals:Option Addr).elim Value.none λf=>rawInt f)))).get? c=h1.get? c:=λc hc=>get?_update_other _ _ (Ne.symm hc)
 have noRec:∀ c o',h1.get? c=some o'->(∀ vs,o'.data≠ .fields vs)->c≠T:=λc o' q nf z=>by
  rw[z,hT]at q;cases q;exact nf ts hdT
 obtain⟨oL,esL,epL,eL,dL,rL⟩:=id hm
 have hLT:X.env.locals≠T:=noRec _ oL eL λvs z=>by rw[dL]at z;cases z
 refine wpAny_setField hT hdT hsz (hq _ ⟨_,t1,rfl,⟨λc o' q=>(other c λz=>by rw[z,hnT]at q;cases q).trans (w1 c o' q),w2,w3.of_keeps λc o' q nf=>⟨o',(other c (noRec c o' q nf)).trans q,rfl⟩,oe,vs,T,_,_,(other b (Ne.symm hTe)).trans he,hcls,hd,h1',hnT,hTe,get?_update_self _ hT (Obj.isFreed_of_fields (Obj.data_mapFields hdT _)),Obj.data_mapFields hdT _,by simp[hsz]⟩,
  λc o' hc q nf=>?_,⟨o,(other b (Ne.symm hTe)).trans eo,ed⟩,m,⟨oL,esL,epL,(other _ hLT).trans eL,dL,rL⟩⟩)
 obtain⟨sl,e⟩:=hs c o' hc q nf
 exact⟨sl,(other c (noRec c _ e nf)).trans e⟩
theorem HC(hfr:X.env.frame=some X.env.locals)(hX:Rk X s b cls a0 dx s1)(hq:Q () s1):wpAny M A (noteFrame (.ref b) X.env) Q Ex s1:=by
 obtain⟨h1,t1,rfl,⟨w1,w2,w3,w4⟩,_⟩:=hX
 exact wpAny_noteFrame_againW hfr w4 hq
theorem NF{what:String}{k:Sem α}{Q:α->Shared->Prop}(hX:Rk X s b cls a0 dx s1)(hq:wpAny M A k Q Ex s1):wpAny M A (do
  if(<-field (.ref b) 1)== .none then unsupported what
  k) Q Ex s1:=by
 obtain⟨h1,t1,rfl,⟨w1,w2,w3,oe,vs,T,oT,ts,he,hcls,hd,h1',_⟩,_⟩:=hX
 refine wpAny_bind (wpAny_field he hd h1' ?_)
 rw[if_neg (show ¬ ((Value.ref T==Value.none)=true) from by simp)]
 exact hq
theorem II{A':Around}(hfr:X.env.frame=some X.env.locals)(hX:Rk X s b cls a0 dx s1)(hq:∀ s2,Rk X s b cls a0 dx s2->Ex (.ref b) s2):notedBy M A' X.env (cameBackBy M A X.env Ex) (.ref b) s1:=by
 unfold notedBy
 refine HC hfr hX ?_
 unfold cameBackBy
 exact NF hX (Bq hfr hX λs2 h2=>hq s2 h2)
theorem IC(I:Inv X pins σ H s)(hex:X.ex= [])(hst:X.stack=X.env::X.outer)(hfr:X.env.frame=some X.env.locals)(hH:H b=some u)(hn1:∀ xs,u≠ .tup xs)(hn2:∀ o v,u≠ .frz o v)(hn3:∀ ps,u≠ .tbl ps)(hn4:∀ c,u≠ .own c)(hnew:X.s₀.heap.get? b=none)(hX:Rk X s b cls a0 dx s1)(hE:E cls (dx,false) (Uu H b))(hQ:∀ s'',FB X.prog X.w X.outer X.H₀ X.s₀ E (.ref b) s''->Q () s''):wpAny M A (leaving X.env (.ref b)) Q Ex s1:=by
 have es:=Ui hst hfr
 have noex:∀ c,c∉X.ex:=λc=>by rw[hex];simp
 obtain⟨h1,t1,rfl,hw,hs,⟨o1,eo1,ed1⟩,m,hm⟩:=hX
 have nst:∀ c v,H c=some v->c∉He X.stack:=λc v q z=>by rw[I.stkFree c z]at q;cases q
 have old:∀ c o,X.s₀.heap.get? c=some o->c≠b:=λc o q z=>by rw[z,hnew]at q;cases q
 have ne:∀ {c:Addr} {v:HO},H c=some v->v≠u->c≠b:=λ{c v} q hv z=>by rw[z,hH]at q;cases q;exact hv rfl
 have nl:∀ c,c∉He X.outer->((Uu H b c).isSome=true\/(X.s₀.heap.get? c).isSome=true)->c∉b::He X.stack:=λc hc h z=>by
  rcases mem_cons.mp z with z|z
  .rw[z,Ni,hnew]at h
   rcases h with h|h<;>cases h
  .rw[es]at z
   rcases mem_cons.mp z with z|z
   .rw[z]at h
    rcases h with h|h
    .obtain⟨o,q⟩:=isSome_iff_exists.mp h
     have:=(Oi q).2
     rw[I.free]at this;cases this
    .obtain⟨o,q⟩:=isSome_iff_exists.mp h
     exact absurd (lt_of_lt_of_le (lt_size q) I.ok.above) (lt_irrefl _)
   .exact hc z
 have inB:∀ c o,s.heap.get? c=some o->c∉b::He X.stack->(hideAll s.heap (b::He X.stack)).get? c=some o:=λc o q hc=>hideAll_get _ q hc
 unfold leaving
 refine wpAny_bind (wpAny_noteFrame_againW hfr hw.2.2.2 ?_)
 refine(Zi (.ref b) none).thn (Q:=λ_ s''=>∃ h',s''= {s with heap:=h',toks:=t1}/\FlyingW (hideAll s.heap (b::He X.stack)) (X.env::X.outer) b cls a0 h'/\h1.UpToSlots h') (wpAny_landsW hw λh' hfl up=>⟨h',rfl,hfl,up⟩) λ_ s'' ⟨h',e'',hfl,up⟩ dk=>?_
 subst e''
 obtain⟨o2,eo2,d2⟩:=dk b _ eo1
 obtain⟨k1,k2,⟨_,_,k3⟩,k4⟩:=hfl
 have slots:∀ {c:Addr} {o:Obj},c∈He X.outer->s.heap.get? c=some o->∃ sl,h'.get? c=some {o with slots:=sl}:=λ{c o} hc q=>by
  obtain⟨_,o',e',nf⟩:=I.funs.mem hc
  rw[q]at e';cases e'
  have hcL:c≠X.env.locals:=λz=>by
   obtain⟨_,o0,e0,_⟩:=I.ok.funs.mem hc
   rw[z]at e0
   exact absurd (lt_of_lt_of_le (lt_size e0) I.ok.above) (lt_irrefl _)
  obtain⟨sl,e1⟩:=hs c o hcL q nf
  obtain⟨sl2,e2⟩:=up c _ e1 nf
  exact⟨sl2,e2⟩
 refine hQ _ ⟨b,cls,(dx,false),Uu H b,rfl,I.os,I.bare,⟨⟨λc o e n hc hx=>?_,λc o e n hc hx=>?_,λc o e n hx=>?_,λc o e hx=>?_,λc xs e=>?_,λc o v e=>?_,λc ps e=>?_⟩,λc v e=>?_,λc hc=>?_,hnew,Ni,⟨o2,eo2,d2.1.trans ed1,λz=>by cases z⟩,_,_,⟨k1,k2,k3,k4⟩,λc hc h=>?_⟩,hE⟩
 .exact k1 c o (inB c o (I.base.keep c o e n hc (noex c)) (nl c hc (.inr (by rw[e];rfl))))
 .obtain⟨z1,e1⟩:=I.base.slot c o e n hc (noex c)
  obtain⟨z2,e2⟩:=slots hc e1
  exact⟨z2,e2⟩
 .rw[Df (old c o e)];exact I.base.free c o e n (noex c)
 .obtain⟨o',e1⟩:=I.base.there c o e (noex c)
  by_cases hc:c∈He X.outer
  .obtain⟨z,e2⟩:=slots hc e1
   exact⟨_,e2⟩
  .exact⟨o',k1 c o' (inB c o' e1 (nl c hc (.inr (by rw[e];rfl))))⟩
 .have q:=I.base.tups c xs e
  rw[Df (ne q (Ne.symm (hn1 xs)))];exact q
 .have q:=I.base.frzs c o v e
  rw[Df (ne q (Ne.symm (hn2 o v)))];exact q
 .obtain⟨more,q⟩:=I.base.tbls c ps e
  exact⟨more,by rw[Df (ne q (Ne.symm (hn3 _)))];exact q⟩
 .obtain⟨nb,q⟩:=Oi e
  have nin:∀ c v,c≠b->H c=some v->c∉b::He X.stack:=λc v hc hq z=>by
   rcases mem_cons.mp z with z|z
   .exact hc z
   .exact nst c v hq z
  refine(I.hok c v q).stay (λc' v' hc q2=>?_) (λc' z=>?_) λc' xs z=>?_
  .rcases hc with rfl|hc
   .exact k1 c' v' (inB c' v' q2 (nin c' v nb q))
   .exact k1 c' v' (inB c' v' q2 (nin c' _ (ne hc (Ne.symm (hn4 _))) hc))
  .rw[Df (ne z (Ne.symm (hn4 _)))];exact z
  .rw[Df (ne z (Ne.symm (hn1 _)))];exact z
 .by_cases hcb:c=b
  .rw[hcb];exact Ni
  .rw[Df hcb];exact I.stkFree c (by rw[es];exact mem_cons_of_mem _ hc)
 .have hb':=nl c hc h
  have:∃ o,s.heap.get? c=some o:=by
   rcases h with h|h
   .obtain⟨v,q⟩:=isSome_iff_exists.mp h
    exact Zw (I.hok c v (Oi q).2)
   .obtain⟨o,q⟩:=isSome_iff_exists.mp h
    exact I.base.there c o q (noex c)
  obtain⟨o,q⟩:=this
  rw[inB c o q hb'];rfl
end
abbrev Bz(X:Cx)(ar:Addr)(Ex:Value->Shared->Prop):Cx:= {X with A:=X.A.mark (some (.ref ar)),calm:=false,xe:=Ex}
def IB(X:Cx)(xw:XW):Prop:=∀ (pins:List (Addr×Obj)) (σ:L2.St) (H:Hp) (s s1:Shared) (b C:Addr) (dx:Option Addr) (a0:Value) (c:Str) (fs:List D),Inv X pins σ H s->H b=some (.ext (Hh b C dx))->X.s₀.heap.get? b=none->
 Rk X s b (.ref C) a0 dx s1->nsIn X.K mainGlobals c=some (some (.ref C))->ExF (Uu H b) (dx,false) fs->xw c fs (Uu H b)->X.xe (.ref b) s1
variable{P:Program}{w:World}{K:Frag}{mg:Str->Option Value}{base:Heap}{qual:Str}{H₀:Hp}
theorem OJ{N:List Str}{scope:Scope}{f:Addr}{cd:Value}{outer:List Env}{s₀:Shared}:
  IB (Kk (FB P w) P w K mg base N qual scope f cd A outer s₀ H₀ E) (P6 K E):=by
 intro pins σ H s s1 b C dx a0 c fs I hH hnew hX hn xf q
 exact IC I rfl rfl rfl hH (λ_ z=>by cases z) (λ_ _ z=>by cases z) (λ_ z=>by cases z) (λ_ z=>by cases z) hnew hX (q (.ref C) (dx,false) hn xf) λs'' z=>z
variable{xw:XW}{k j:Nat}{np cpos:Pos}{a:Expr}{es:List Expr}{W₀ W:WS}{δ:Ca}{Dn:Ends}
section
variable {ar:Addr}{c:Str}{ks:List (Str×Bool)}{p:Pos}{fs:Ca->Res (List D)}
theorem LV(ok:X.Ok):(Bz X ar Ex).Ok:=
 ⟨ok.mod,ok.kind,ok.glob,ok.blt,ok.above,ok.inj,ok.has,ok.cab,λz=>absurd (show false=true from z) (by decide),ok.frames,ok.stk,ok.exf,ok.bs,ok.bsz,ok.noex,ok.exfs,ok.funs,ok.frf⟩
theorem AN(I:Inv X pins σ H s):Inv (Bz X ar Ex) pins σ H s:=⟨LV I.ok,I.os,I.bare,I.base,I.loc,I.cell,I.free,I.freeC,I.pin,I.hok,I.len⟩
theorem QC(ok:X.Ok)(I:Inv (Bz X ar Ex) pins σ H s):Inv X pins σ H s:=⟨ok,I.os,I.bare,I.base,I.loc,I.cell,I.free,I.freeC,I.pin,I.hok,I.len⟩
theorem YV{t:TA}(h:PA (Fl X ar) es t):PA (Bz X ar Ex) es t:=λps pins s σ H Q I hw=>by
 have I':Inv (Fl X ar) pins σ H s:=⟨⟨I.ok.mod,I.ok.kind,I.ok.glob,I.ok.blt,I.ok.above,I.ok.inj,I.ok.has,I.ok.cab,I.ok.hd,I.ok.frames,I.ok.stk,I.ok.exf,I.ok.bs,I.ok.bsz,I.ok.noex,I.ok.exfs,I.ok.funs,I.ok.frf⟩,I.os,I.bare,I.base,I.loc,I.cell,I.free,I.freeC,I.pin,I.hok,I.len⟩
 refine wpAny_mono (h ps pins s σ H Q I' hw) (λus s1 ⟨v,H',J,r,z⟩=>⟨v,H',?_,r,z⟩) λ_ _ z=>False.elim z
 exact⟨I.ok,J.os,J.bare,J.base,J.loc,J.cell,J.free,J.freeC,J.pin,J.hok,J.len⟩
theorem JA{H':Hp}{dz:Dx}{Q:Flow->Shared->Prop}(F:FnG X.prog X.w X.K X.mg X.base k c ks)(hr:RoomH k X.A)(ha:XA (Fl X ar) Ql (a::es) fs)(hex:X.ex= [])(hg:Gl X c)(hdb:(c==("__debug__":Str))=false)(he:starEach (a::es) X.env=(false,eval a X.env)::starEach es X.env)(hpl:(backTo cpos (starEach es X.env)).any (·.1)=false)(hks:ks.length<=50)(I:Inv X pins σ H s)(hA:H ar=some (.ext (Sg ar cls dz)))(hz:dz.2=true)(st:StHas X.K W₀ H₀ W H σ δ)(q:RS X.K xw W₀ H₀ W H (Qk (Nf fs δ) λds=>if Jp ks ds=true then .ex c (.non::Ci ks ds) else .stuck) Dn)(hEx:∀ (b C:Addr) (dx:Option Addr) (H1:Hp) (s1:Shared) (h':Heap) (t0:Addr) (sl:Array (Option Value)) (fs':List D),Inv X pins σ H1 s1->H1 b=some (.ext (Hh b C dx))->X.s₀.heap.get? b=none->SameBut b s1.heap h'->
   h'.get? b=some ⟨.ref C,dx,.fields #[.ref t0,.none,.ref ar,.none,.bool true,.none],sl⟩->nsIn X.K mainGlobals c=some (some (.ref C))->ExF (Uu H1 b) (dx,false) fs'->xw c fs' (Uu H1 b)->Ex (.ref b) {s1 with heap:=h'}):
  wpAny (model X.prog X.w) (X.A.mark (some (.ref ar))) (execs [.Raise (some (.Call (.Name c np) (a::es) [] cpos)) (some (.Constant .none j p)) pos] X.env) Q Ex s:=by
 obtain⟨i,C,S,f,fd,ps,hj,G,Z,hm,hn,hb⟩:=F.ex
 obtain⟨nm,qn,N,bs,bm,hdct,sn,sub,ab,col,dd,k0,k1,k2,k3,k5,lk,_,_,tl⟩:=Z.obj
 have T:=tail_of_in I.kIn tl
 have rd:tDA X.K Ql fs σ H (λvs H1=>(SmallL ks vs/\∀ b d,H1 b=none->H1 d=none->d≠b->X.s₀.heap.get? b=none->(∃ H2 ds vs',H1=H2/\vs'=vs/\(∀ H,ExVs H ds vs)/\H2 b=none/\H2 d=none/\H2 ar=some (.ext (Sg ar cls dz))/\xw c (.non::Ci ks ds) (Jb H2 d (.xd ((ks.map (·.1)).zip vs)))))):=by
  refine⟨W₀,H₀,W,δ,st,?_⟩
  have q0:RS X.K xw W₀ H₀ W H (Qk (noex (fs δ)) λds=>if Jp ks ds=true then .ex c (.non::Ci ks ds) else .stuck) Dn:=q
  cases hf:fs δ with
  |stuck=>rw[hf]at q0;exact q0
  |ex c' fs'=>rw[hf]at q0;exact q0.elim
  |ok ds=>
   rw[hf]at q0
   have q':RS X.K xw W₀ H₀ W H (if Jp ks ds=true then .ex c (.non::Ci ks ds) else .stuck) Dn:=q0
   split at q'
   .rename_i hi
    intro vs H2 k2 hv
    obtain⟨s1,s2⟩:=Dt hi hv
    exact⟨s1,λb d hb1 hd1 hdb hb2=>⟨H2,ds,vs,rfl,rfl,s2,hb1,hd1,k2 _ _ hA,q' _ ((st.fr.ext.trans k2).trans λx o e=>by rw[Ha (Pa e hd1)];exact e)⟩⟩
   .exact q'.elim
 refine wpAny_execs_cons ?_
 rw[arm_exec_Raise]
 refine wpAny_bind (wpAny_standAt (IA (C:=C) (ar:=ar) (nm:=nm) (q:=qn) (N:=N) (bs:=bs) (bm:=bm) (hdct:=hdct) (sn:=sn) (sub:=sub) (ab:=ab) (col:=col) (dd:=dd) (k0:=k0) (k1:=k1) (k2:=k2) (k3:=k3) (k5:=k5) (newId:="ValueError.__new__") (T.hasType PySem.F.excBase_ValueError.hasBase) rfl ?_))
 have pe:=HG (X:=Bz X ar Ex) (p:=np) (pos:=cpos) Z G ((hr.mark _).mono hj) hg hm hb hex (YV (Ex:=Ex) ha.h) hdb he hpl hks pins s σ H (λv H'=>∃ b d H2 vs ds,v=.ref b/\H'=Jb (Jb H2 b (.ext (Hh b C (some d)))) d (.xd ((ks.map (·.1)).zip vs))/\H2 b=none/\H2 d=none/\d≠b/\X.s₀.heap.get? b=none/\SmallL ks vs/\(∀ H,ExVs H ds vs)/\H2 ar=some (.ext (Sg ar cls dz))/\xw c (.non::Ci ks ds) (Jb H2 d (.xd ((ks.map (·.1)).zip vs)))) (AN I) (by
  obtain⟨W₀',H₀',W',δ',st',q'⟩:=rd
  refine⟨W₀',H₀',W',δ',st',?_⟩
  revert q'
  cases hf:fs δ' with
  |stuck=>exact id
  |ex c' fs'=>exact id
  |ok ds0=>
   intro q' vs H1 k1 hv
   obtain⟨s1,q1⟩:=q' vs H1 k1 hv
   refine⟨s1,λb d hb1 hd1 hdb' hb2=>?_⟩
   obtain⟨H2,ds,vs',rfl,rfl,s2,e1,e2,e3,e4⟩:=q1 b d hb1 hd1 hdb' hb2
   exact⟨b,d,_,_,ds,rfl,rfl,hb1,hd1,hdb',hb2,s1,s2,e3,e4⟩)
 refine wpAny_bind (thn pe λv s1 ⟨y,H1,I1,r,b,d,H2,vs,ds,ey,eH,h1,hd1,hdb',h2,hs,hv,hA2,qx⟩=>?_)
 subst ey eH
 obtain rfl:v=.ref b:=r
 have hbb:Jb (Jb H2 b (.ext (Hh b C (some d)))) d (.xd ((ks.map (·.1)).zip vs)) b=some (.ext (Hh b C (some d))):=by rw[Ha (Ne.symm hdb')];exact Na
 obtain⟨⟨t0,sl,hb'⟩,_,_⟩:=I1.hok b _ hbb
 have hab:ar≠b:=λz=>by rw[z,h1]at hA2;cases hA2
 have had:ar≠d:=λz=>by rw[z,hd1]at hA2;cases hA2
 obtain⟨⟨oa,va,ea,_,_,da,za⟩,_,_⟩:=I1.hok ar (.ext (Sg ar cls dz)) (by rw[Ha had,Ha hab];exact hA2)
 refine wpAny_bind (wpAny_standAt (wpAny_pure ?_))
 refine⟨b,some d,t0,sl,oa,va,rfl,I1.kIn _ _ lk,hb',Ne.symm hab,ea,da,za hz,λh' same at'=>?_⟩
 refine hEx b C (some d) _ s1 h' t0 sl (.non::Ci ks ds) (QC I.ok I1) hbb h2 same at' hn ?_ ?_
 .rw[Vn h1 hdb'];exact UL hs Na (hv _)
 .rw[Vn h1 hdb'];exact qx
end
def P7(i:Nat)(c2:Str)(ks:List (Str×Bool))(fa:Ca->Res (List D)):Str->List D->Ca->Out:=λc xs δ=>match xs with
 | .non::_=>.stuck
 |xs=>Qk (Nf fa (δ.set i (some (.d (.exc c xs))))) λds=>if Jp ks ds=true then .ex c2 (.non::Ci ks ds) else .stuck
theorem VL{dx:Dx}{xs:List D}(h:ExF H dx xs)(hn:∀ r,xs≠ .non::r):dx.2=true:=by
 cases xs with
 |nil=>exact h.1
 |cons y r=>
  cases y with
  |non=>exact absurd rfl (hn r)
  |_=>exact h.1
variable{pos2 p2:Pos}{st:Stmt}{x:Str}{m:List D->Res D}
section
variable {ea:Expr}{eas:List Expr}{fs fa:Ca->Res (List D)}{p hpos tpos np2 cpos2:Pos}{orelse:List Stmt}{k2 nn jj:Nat}{C c2:Str}{ks:List (Str×Bool)}{gK:D->Ca->Out}{go:Ca->Out}
theorem YR(i:Nat)(cs:List Str)(hcs:∀ c∈cs,MatchX X.K C c)(hex:X.ex= [])(hst:X.stack=X.env::X.outer)(hfr:X.env.frame=some X.env.locals)(hN:X.N.Nodup)(hi:X.N[i]? =some n)(hk:X.env.kindOf n=some .local)(hgC:Gl X C)(hdC:(C==("__debug__":Str))=false)(F:FnG X.prog X.w X.K X.mg X.base k2 c2 ks)(hr:RoomH k2 X.A)(hx:IB X xw)(ha:∀ ar,XA (Fl X ar) Ql (ea::eas) fa)(hg:Gl X c2)(hdb:(c2==("__debug__":Str))=false)(he:starEach (ea::eas) X.env=(false,eval ea X.env)::starEach eas X.env)(hpl:(backTo cpos2 (starEach eas X.env)).any (·.1)=false)(hks:ks.length<=50)(pins:List (Addr×Obj))(σ:L2.St)(H H0 H':Hp)(s s':Shared)(ar:Addr)(cls:Value)(dx:Dx)(c:Str)(xs:List D)(W₀:WS)(H₀:Hp)(W:WS)(δ:Ca)(Dn:Ends)(I:Inv X pins σ H s)(os:s'.os=s.os)(bare:AllBare s'.gens)(fl:Fly X.prog X.w X.stack H s H' ar cls dx s'.heap)(xf:ExF H' dx xs)(hn:nsIn X.K mainGlobals c=some (some cls))(hc:c∈cs)(sth:StHas X.K W₀ H₀ W H0 σ δ)(sm:Same H0 H')(q:RS X.K xw W₀ H₀ W H0 (P7 i c2 ks fa c xs δ) Dn):
  wpAny (model X.prog X.w) X.A (noteFrame (.ref ar) X.env) (λ_ s₂=>wpAny (model X.prog X.w) X.A (setFlight (.ref ar) none) (λ_ s₃=>
   wpAny (model X.prog X.w) X.A (handleBy (.ref ar) X.env [.ExceptHandler (some (.Name C np)) (some n) [.Raise (some (.Call (.Name c2 np2) (ea::eas) [] cpos2)) (some (.Constant .none jj p2)) pos2] hpos]) (SP X pins Dn) X.xe s₃) X.xe s₂) X.xe s':=by
 obtain⟨vc,vC,e1,e2,e3⟩:=(hcs c hc).ex
 rw[hn]at e1
 cases e1
 have k2:Same H0 (Jb H' ar (.ext (Sg ar cls dx))):=λb o e=>by rw[Ha (Pa (sm b o e) fl.nh)];exact sm b o e
 have hnn:∀ r,xs≠ .non::r:=λr z=>by rw[z]at q;exact q
 have q1:RS X.K xw W₀ H₀ W H0 (Qk (Nf fa (δ.set i (some (.d (.exc c xs))))) λds=>if Jp ks ds=true then .ex c2 (.non::Ci ks ds) else .stuck) Dn:=by
  unfold P7 at q
  split at q
  .exact q.elim
  .exact q
 have q2:=RS.step q1 (Step.same (W:=W) k2)
 refine Wp I hst hfr fl λh5 x5=>?_
 refine wpAny_handleBy_cons (Xp (s':= {s' with heap:=h5}) I hst hfr os bare x5 hgC e2 e3 hdC λh6 x6=>codeAny_handlers_suite_as ?_) (by intro q;cases q)
 obtain⟨B,a0,f,cov⟩:=x6.fl
 refine(Zi (.ref ar) none).thn (Q:=λ_ s7=>∃ h7,s7= {s' with heap:=h7}/\FlyingW B X.stack ar cls a0 h7/\h6.UpToSlots h7) (lands_againW f λh7 f7 up7=>⟨h7,rfl,f7,up7⟩) λ_ s7 ⟨h7,e7,f7,up7⟩ dk7=>?_
 subst e7
 have x7:=Qr (s':= {s' with heap:=h6}) x6 f cov f7 up7 dk7
 have I7:Inv X pins σ H' {s' with heap:=h7}:=Bm (s':= {s' with heap:=h7}) I os bare x7
 have I8:=Fv I I7 hex x7.new x7.nh (TL (FF x7))
 have hloc:Cy X.env.scope n:=.inl hk
 refine Nl I8 hN hi hloc (v:=.ref ar) rfl (λs8 I9=>?_) (.inr hk)
 refine JA (H':=H') F hr (ha ar) hex hg hdb he hpl hks I9 Na (VL xf hnn) ((sth.same k2).set (x:=.exc c xs) (v:=.ref ar) (by rw[Has];exact⟨ar,cls,dx,rfl,hn,Na,xf.to (λb o u e=>by rw[Ha (Pa e fl.nh)];exact e) λb kvs e=>by rw[Ha (Pa e fl.nh)];exact e⟩)) q2 λb C1 dx1 H1 s1 h' t0 sl fs' I1 hb1 hb2 same at' hn1 xf1 qx=>?_
 obtain⟨⟨t9,sl9,e9⟩,_,_⟩:=I1.hok b _ hb1
 have hbL:b≠X.env.locals:=λz=>by rw[z,I1.free]at hb1;cases hb1
 refine JI I1 hst hfr rfl hb1 ⟨_,_,e9,rfl⟩ same at' rfl rfl λs2 h2=>?_
 refine Dz I.ok hst hfr hbL hk h2 λs3 h3=>?_
 unfold PySem.passOn
 refine NF h3 (wpAny_bind (Bq hfr h3 λs4 h4=>wpAny_throw ?_))
 exact II hfr h4 λs5 h5=>hx pins _ H1 s1 s5 b C1 dx1 _ c2 fs' I1 hb1 hb2 h5 hn1 xf1 qx
theorem BQ(i:Nat)(cs:List Str)(F:FnX X.prog X.w X.K X.mg X.base k x nn m)(hcs:∀ c∈cs,MatchX X.K C c)(hN:X.N.Nodup)(hr:Room k X.A)(ha:XA X.nox Ql (a::es) fs)(kd:KindX X (.Call (.Name x p) (a::es) [] cpos) st gK)(hor:XSs X xw orelse go)(F2:FnG X.prog X.w X.K X.mg X.base k2 c2 ks)(hr2:Room k2 X.A)(hx:IB X xw)(ha2:∀ ar,XA (Fl X ar) Ql (ea::eas) fa)(hi:X.N[i]? =some n:=by rfl)(hk:X.env.kindOf n=some .local:=by rfl)(hex:X.ex= []:=by rfl)(hst:X.stack=X.env::X.outer:=by rfl)(hfr:X.env.frame=some X.env.locals:=by rfl)(hgC:Gl X C:=by rfl)(hdC:(C==("__debug__":Str))=false:=by decide)(hg:Gl X x:=by rfl)(hdb:(x==("__debug__":Str))=false:=by decide)(he:starEach (a::es) X.env=(false,eval a X.env)::starEach es X.env:=by rfl)(hpl:(backTo cpos (starEach es X.env)).any (·.1)=false:=by rfl)(hg2:Gl X c2:=by rfl)(hdb2:(c2==("__debug__":Str))=false:=by decide)(he2:starEach (ea::eas) X.env=(false,eval ea X.env)::starEach eas X.env:=by rfl)(hpl2:(backTo cpos2 (starEach eas X.env)).any (·.1)=false:=by rfl)(hks:ks.length<=50:=by decide):
  XS X xw (.Try [st] [.ExceptHandler (some (.Name C np)) (some n) [.Raise (some (.Call (.Name c2 np2) (ea::eas) [] cpos2)) (some (.Constant .none jj p2)) pos2] hpos] orelse [] tpos) (Hu cs (AE fs nn m []) gK go (P7 i c2 ks fa)):=by
 obtain⟨fa',fd,ps,G,hm,hkp,hb⟩:=F.ex
 exact YA cs G hm hkp hb .nil (λW H=>HasL.nil) hr ha kd hor (YR i cs hcs hex hst hfr hN hi hk hgC hdC F2 hr2.h hx ha2 hg2 hdb2 he2 hpl2 hks) hg hdb he hpl
end
def eqT(l m:List (Cb×D)):Bool:=(l.length==m.length)&&l.all λp=>match Cc m p.1 with
 |some y=>Gg p.2 y
 |none=>false
def YB(d e:D):Res D:=match d,e with
 | .dct ks ds,.dct js es=>if(ds.all (Lb 39)&&es.all (Lb 39))=true then .ok (.bl (eqT (ks.zip ds) (js.zip es))) else .stuck
 |_,_=>.stuck
def BJ(d e:D):Res D:=match d,e with
 | .dct ks ds,.dct js es=>if(ds.all (Lb 39)&&es.all (Lb 39))=true then .ok (.bl (!eqT (ks.zip ds) (js.zip es))) else .stuck
 |_,_=>.stuck
variable{kb:List (Cb×V)}{ds:List D}{l:List (Cb×D)}
theorem OM(I:Inv X pins σ H s)(hu:A.units+39<cLine){m:List (Cb×D)}{vb:List (Cb×Value)}(hm:HasP X.K W H m kb)(rb:KV kb vb)(gm:∀ p∈m,Lb 39 p.2=true):
  ∀ {l:List (Cb×D)} {ka:List (Cb×V)} {va:List (Cb×Value)},HasP X.K W H l ka->KV ka va->(∀ p∈l,Lb 39 p.2=true)->
   PySem.W.KeqHits A s vb va (l.all λp=>match Cc m p.1 with|some y=>Gg p.2 y|none=>false):=by
 intro l
 induction l with
 |nil=>
  intro ka va h r _
  obtain⟨h1,_⟩:=h
  cases ka with
  |nil=>cases r;exact .nil
  |cons _ _=>cases h1
 |cons p l ih=>
  intro ka va h r g
  obtain⟨v,t,rfl,h1,h2⟩:=h.cons
  cases r with
  |cons q r=>
   rename_i b u
   obtain⟨k,d⟩:=p
   obtain⟨kk,uu⟩:=b
   obtain⟨q1,q2⟩:=q
   dsimp only at q1 q2
   subst q1
   rw[all_cons]
   cases hg:Cc m k with
   |none=>
    have:=(Cp rb k).2 ((hm.get k).2 hg)
    exact .miss this
   |some y=>
    obtain⟨w1,e1,hy⟩:=(hm.get k).1 y hg
    obtain⟨u1,e2,r1⟩:=(Cp rb k).1 w1 e1
    have gy:Lb 39 y=true:=by
     have:∀ (m:List (Cb×D)),Cc m k=some y->∃ p∈m,p.2=y:=by
      intro m
      induction m with
      |nil=>intro e;cases e
      |cons z m ih2=>
       intro e
       by_cases hz:z.1=k
       .rw[Lg hz]at e;cases e;exact⟨z,mem_cons_self,rfl⟩
       .rw[Mf hz]at e
        obtain⟨p,hp,ep⟩:=ih2 e
        exact⟨p,mem_cons_of_mem _ hp,ep⟩
     obtain⟨p,hp,ep⟩:=this m hg
     rw[<-ep];exact gm p hp
    exact .hit e2 (XB I 39 A hu (.inl h1) (.inl hy) q2 r1 (g _ mem_cons_self) gy).1 (ih h2 r λz hz=>g z (mem_cons_of_mem _ hz))
def A5(K:Frag)(f:Bool->Bool):R2:=λx y H Q=>∃ W l m a b ka kb,x=.ref a/\y=.ref b/\Rd H a (.dK ka)/\Rd H b (.dK kb)/\HasP K W H l ka/\HasP K W H m kb/\(∀ p∈l,Lb 39 p.2=true)/\(∀ p∈m,Lb 39 p.2=true)/\Q (.bl (f (eqT l m))) H
theorem R3(hu:X.A.units+40<cLine):OpR X (compareOp .Eq) (A5 X.K id):=by
 intro pins s σ H x y v u Q I rx ry h
 obtain⟨W,l,m,a,b,ka,kb,rfl,rfl,ha,hb,hl,hm,g1,g2,q⟩:=h
 cases rx
 cases ry
 obtain⟨_,sa,va,ra,da⟩:=Jk I.hok ha
 obtain⟨_,sb,vb,rb,db⟩:=Jk I.hok hb
 have hits:=OM I (A:=X.A.in1) (by show X.A.units+1+39<cLine;omega) hm rb g2 hl ra g1
 refine PySem.W.keq_eq sa sb da db (by omega) (λ_=>hits) ⟨.bl (va.length==vb.length&&l.all λp=>match Cc m p.1 with|some y=>Gg p.2 y|none=>false),H,I,rfl,?_⟩
 rw[<-Pe ra,<-Pe rb,<-hl.len,<-hm.len]
 exact q
theorem WO(hu:X.A.units+40<cLine):OpR X (compareOp .NotEq) (A5 X.K not):=by
 intro pins s σ H x y v u Q I rx ry h
 obtain⟨W,l,m,a,b,ka,kb,rfl,rfl,ha,hb,hl,hm,g1,g2,q⟩:=h
 cases rx
 cases ry
 obtain⟨_,sa,va,ra,da⟩:=Jk I.hok ha
 obtain⟨_,sb,vb,rb,db⟩:=Jk I.hok hb
 have hits:=OM I (A:=X.A.in1) (by show X.A.units+1+39<cLine;omega) hm rb g2 hl ra g1
 refine PySem.W.keq_ne sa sb da db (by omega) (λ_=>hits) ⟨.bl (!(va.length==vb.length&&l.all λp=>match Cc m p.1 with|some y=>Gg p.2 y|none=>false)),H,I,rfl,?_⟩
 rw[<-Pe ra,<-Pe rb,<-hl.len,<-hm.len]
 exact q
theorem Gw{ks:List Cb}{v:V}(h:HasT K W H (.dct ks ds) v):∃ a kvs,v=.ref a/\Rd H a (.dK kvs)/\HasP K W H (ks.zip ds) kvs/\(ks.zip ds).map (·.2)=ds:=by
 rcases h with h|⟨_,_,_,h1,_⟩
 .rw[Has]at h
  obtain⟨a,kvs,rfl,e,h1,h2⟩:=h
  obtain⟨p1,p2,p3⟩:=HasP.of h1 h2
  exact⟨a,kvs,rfl,.inr e,p1,p3⟩
 .cases h1
theorem Oo(h:l.map (·.2)=ds)(g:ds.all (Lb 39)=true):∀ p∈l,Lb 39 p.2=true:=λp hp=>by
 rw[<-h,all_eq_true]at g
 exact g _ (mem_map.mpr ⟨p,hp,rfl⟩)
theorem KY(hu:X.A.units+40<cLine):CmpR X xw .Eq YB:=⟨⟨_,R3 hu,λW H d e v u Q w hv hu q=>by
  unfold YB at q
  split at q
  .split at q
   .rename_i hs
    rw[and_eq_true]at hs
    obtain⟨a,ka,e1,r1,p1,z1⟩:=Gw hv
    obtain⟨b,kb,e2,r2,p2,z2⟩:=Gw hu
    exact⟨W,_,_,a,b,ka,kb,e1,e2,r1,r2,p1,p2,Oo z1 hs.1,Oo z2 hs.2,q.bl⟩
   .exact q.elim
  .exact q.elim⟩,(λd e z h=>by
   unfold YB at h
   split at h
   .split at h<;>cases h;exact⟨_,rfl⟩
   .cases h),by decide,by decide⟩
theorem Z6(hu:X.A.units+40<cLine):CmpR X xw .NotEq BJ:=⟨⟨_,WO hu,λW H d e v u Q w hv hu q=>by
  unfold BJ at q
  split at q
  .split at q
   .rename_i hs
    rw[and_eq_true]at hs
    obtain⟨a,ka,e1,r1,p1,z1⟩:=Gw hv
    obtain⟨b,kb,e2,r2,p2,z2⟩:=Gw hu
    exact⟨W,_,_,a,b,ka,kb,e1,e2,r1,r2,p1,p2,Oo z1 hs.1,Oo z2 hs.2,q.bl⟩
   .exact q.elim
  .exact q.elim⟩,(λd e z h=>by
   unfold BJ at h
   split at h
   .split at h<;>cases h;exact⟨_,rfl⟩
   .cases h),by decide,by decide⟩
section
variable {p:Pos}{fa:Ca->Res D}
theorem MB:Rg X (.type "dict") (λxs H Q=>∃ (l:Addr) (kvs:List (Cb×V)),xs= [.ref l]/\Rd H l (.dK kvs)/\∀ n o,H n=none->Q (.ref n) (Jb H n (.frz o (.dK kvs)))):=by
 intro pins s σ H xs us Q I r h
 obtain⟨l,kvs,rfl,hq,q⟩:=h
 obtain⟨u,rfl,ru⟩:=DB r
 cases ru
 obtain⟨hz,hS,vs,kv,dd⟩:=Jk I.hok hq
 have big:sysModules<s.heap.objs.size:=by
  have h:mainGlobals<s.heap.objs.size:=(I.mod.glob.keeps I.bk).lt
  exact lt_trans (by decide) h
 refine kt_call_dict hS dd (by rw[<-Pe kv];exact hz) λh' dn same=>?_
 obtain⟨ob',es,ep,ho',rr⟩:=id dn
 have kk:∀ b o,s.heap.get? b=some o->h'.get? b=some o:=λb o e=>(same.2 b (ne_of_lt (lt_size e))).trans (get?_push_of_some _ e)
 exact⟨.ref s.heap.objs.size,_,I.laid (a:=s.heap.objs.size) (o:=.frz ob' (.dK kvs)) (t':=s.toks) kk (le_refl _) ⟨ho',hz,beq_eq_false_iff_ne.mpr (Ne.symm (ne_of_lt big)),_,kv,dn⟩,rfl,q _ ob' I.fresh⟩
def Hw:D->Res D
 | .dct ks ds=>.ok (.dct ks ds)
 |_=>.stuck
theorem CY(hm:X.mg "dict"=none)(ha:XP X xw a fa)(hg:Gl X "dict":=by rfl)(he:starEach [a] X.env=(false,eval a X.env)::starEach [] X.env:=by rfl)(hpl:(backTo pos (starEach [] X.env)).any (·.1)=false:=by rfl):
  XE X xw (.Call (.Name "dict" p) [a] [] pos) (b1 Hw fa):=
 ⟨So MB (λW H d v Q w hv q=>by
  unfold Hw at q
  split at q
  .rcases hv with hv|⟨_,_,_,h1,_⟩
   .rw[Has]at hv
    obtain⟨ad,kvs,rfl,e,h1,h2⟩:=hv
    refine⟨ad,kvs,rfl,.inr e,λn o hn=>q _ _ (Xc hn) ?_⟩
    rw[Has]
    exact⟨n,kvs,rfl,⟨o,Na⟩,h1,h2.same (Xc hn) w⟩
   .cases h1
  .exact q.elim) hm (by decide +kernel) ha.h hg (by decide) (by decide) he hpl⟩
end
section
variable {W1:WS}{H1:Hp}
def IZ(K:Frag)(W₀:WS)(H₀:Hp)(ks:List Cb)(ds:List D)(Q:V->Hp->Prop):Prop:=∀ a kvs H',Same H₀ H'->H₀ a=none->H' a=some (.dK kvs)->kvs.map (·.1)=ks->HasL K (λb=>W₀ b\/b=a) H' ds (kvs.map (·.2))->Q (.ref a) H'
def RSQ(K:Frag)(xw:XW)(W₀:WS)(H₀:Hp)(W:WS)(H:Hp)(o:Out)(Dn:Ends):Prop:=match o with
 | .rt (.dct ks ds)=>IZ K W₀ H₀ ks ds Dn.rt
 |o=>RS K xw W₀ H₀ W H o Dn
theorem RSQ.step{o:Out}(h:RSQ K xw W₀ H₀ W H o Dn)(k:Step W H W1 H1):RSQ K xw W₀ H₀ W1 H1 o Dn:=by
 cases o with
 |rt d=>cases d<;>exact h
 |nx δ=>exact RS.step (xw:=xw) (o:=.nx δ) h k
 |bk δ=>exact RS.step (xw:=xw) (o:=.bk δ) h k
 |ct δ=>exact RS.step (xw:=xw) (o:=.ct δ) h k
 |ex c fs=>exact h
 |stuck=>exact h
def Ub0(K:Frag)(xw:XW)(g:Ca->Out):TS:=λDn σ H=>∃ W₀ H₀ W δ,StHas K W₀ H₀ W H σ δ/\RSQ K xw W₀ H₀ W H (g δ) Dn
end
structure NoQ(g:Ca->Out):Prop where
 h:∀ δ ks ds,g δ≠ .rt (.dct ks ds)
theorem Ax{r:Res α}{k:α->Out}{ks:List Cb}(h:∀ a,k a≠ .rt (.dct ks ds)):Qk r k≠ .rt (.dct ks ds):=by
 cases r with
 |ok a=>exact h a
 |ex c fs=>intro e;cases e
 |stuck=>intro e;cases e
variable{g:Ca->Out}
theorem NoQ.nox(h:NoQ g):NoQ (Vh g):=⟨λδ ks ds e=>by
 unfold Vh at e
 cases z:g δ with
 |rt d=>rw[z]at e;exact h.h δ ks ds (by rw[z];exact e)
 |_=>rw[z]at e;cases e⟩
variable{i:Nat}
theorem NoQ.ownQ:NoQ (Th i):=⟨λδ ks ds e=>by cases e⟩
variable{f:Ca->Res D}
theorem NoQ.put{fi:Ca->Res D}:NoQ (Lf i fi f):=⟨λδ ks ds=>Ax λd=>by
 unfold OP
 split
 .refine Ax λz=>?_
  unfold NP
  split
  .split
   .intro e;cases e
   .intro e;cases e
  .intro e;cases e
 .intro e;cases e⟩
theorem Rr{t:D->Ca->Res Ca}{body:Ca->Out}(hb:NoQ body):∀ (xs:List D) (δ:Ca) (ks:List Cb) (ds:List D),Ng t body xs δ≠ .rt (.dct ks ds)
 | [],δ,ks,ds=>by intro e;cases e
 |x::xs,δ,ks,ds=>by
  cases ht:t x δ with
  |ok δ'=>
   rw[Yl x xs δ δ' ht]
   cases h:body δ' with
   |nx δ2=>exact Rr hb xs δ2 ks ds
   |ct δ2=>exact Rr hb xs δ2 ks ds
   |bk δ2=>intro e;cases e
   |rt d=>intro e;exact hb.h δ' ks ds (by rw[h];exact e)
   |ex c fs=>intro e;cases e
   |stuck=>intro e;cases e
  |ex c fs=>unfold Ng;rw[ht];intro e;cases e
  |stuck=>unfold Ng;rw[ht];intro e;cases e
theorem NoQ.for_{t:D->Ca->Res Ca}{body:Ca->Out}{f:Ca->Res (List D)}(hb:NoQ body):NoQ (Kf t body f):=⟨λδ ks ds=>Ax λxs=>Rr hb xs δ ks ds⟩
variable{n:Nat}{pos':Pos}
section
variable {sts:List Stmt}{g1 g2:Ca->Out}{p:Pos}
structure XSQ(X:Cx)(xw:XW)(sts:List Stmt)(g:Ca->Out):Prop where
 h:PSs X sts (Ub0 X.K xw g)
theorem ZG(h1:XS X xw st g1)(n:NoQ g1)(h2:XSQ X xw sts g2):XSQ X xw (st::sts) (Ab g1 g2):=⟨PSs.weak (Fj h1.h h2.h) λDn σ H ⟨W₀,H₀,W,δ,st,q⟩=>by
 refine⟨W₀,H₀,W,δ,st,?_⟩
 have q':RSQ X.K xw W₀ H₀ W H (Jm (g1 δ) g2) Dn:=q
 cases h:g1 δ with
 |nx δ'=>
  rw[h]at q'
  exact λW' H' σ' k st'=>⟨W₀,H₀,W',δ',st',RSQ.step (o:=g2 δ') q' k⟩
 |bk δ'=>rw[h]at q';exact q'
 |ct δ'=>rw[h]at q';exact q'
 |rt d=>
  rw[h]at q'
  cases d with
  |dct ks ds=>exact absurd h (n.h δ ks ds)
  |_=>exact q'
 |ex c fs=>rw[h]at q';exact q'
 |stuck=>rw[h]at q';exact q'⟩
def LG(i:Nat):Ca->Out:=λδ=>match δ[i]? with
 |some (some (.q ks ds))=>.rt (.dct ks ds)
 |_=>.stuck
theorem N5(i:Nat)(hN:X.N[i]? =some x:=by rfl)(hv:Kq X.env.scope x:=by first|exact Or.inl rfl|exact Or.inr (Or.inl rfl)|exact Or.inr (Or.inr rfl))(hd:(x==("__debug__":Str))=false:=by decide)(hcd:(x==("__classdict__":Str))=false:=by decide):XSQ X xw [.Return (some (.Name x pos')) pos] (LG i):=⟨PSs.weak (Cm (Us (Zc hN hv hd hcd))) λDn σ H ⟨W₀,H₀,W,δ,st,q⟩=>by
 unfold LG at q
 split at q
 .rename_i ks ds h
  obtain⟨v,e,a,kvs,r1,r2,r3,r4,r5,r6⟩:=st.at' i _ h
  subst r1
  have up:∀ b,(W₀ b\/b=a)->W b\/H b=none:=λb z=>z.elim (λz=>.inl (st.fr.sub b z)) λz=>.inl (by rw[z];exact r2)
  exact⟨_,e,q a kvs H st.fr.ext r3 r4 r5 (HasL.keep (λ_ _ e _=>e) st.fr.wl up r6)⟩
 .exact q.elim⟩
def Nb0(K:Frag)(n:Nat)(m:List D->Res D):Sp:=λvs H Q E=>vs.length=n/\∃ W ds,WL W H/\HasL K W H ds vs/\match m ds with
 | .ok (.dct ks fs)=>IZ K W H ks fs Q
 | .ok d=>∀ v H',Same H H'->Has K W H' d v->Q v H'
 | .ex c fs=>∀ cls dx H',nsIn K mainGlobals c=some (some cls)->Same H H'->ExF H' dx fs->E cls dx H'
 | .stuck=>False
structure FnQX(P:Program)(w:World)(K:Frag)(mg:Str->Option Value)(base:Heap)(k:Nat)(x:Str)(n:Nat)(m:List D->Res D):Prop where
 ex:∃ f fd ps,FnOk P w K mg base (FB P w) k f fd ps (Nb0 K n m)/\mg x=some (.ref f)/\keepIn K (.ref f)=true/\Binds K fd ps []
theorem FnQX.mono(F:FnQX P w K mg base j x n m)(h:j<=k):FnQX P w K mg base k x n m:=by
 obtain⟨f,fd,ps,a,b⟩:=F.ex
 exact⟨f,fd,ps,a.mono h,b⟩
theorem Xy{st:Stmt}{fa:Addr}{fd:FuncData}{N ps:List Str}(F:Fun K x qual st fa fd)(S:FnScope N ps (Da st))(hm:mg x=some (.ref fa))(hb:Binds K fd ps [])(body:∀ (cdv:Value) (A:Around) (outer:List Env) (s:Shared) (H:Hp) (E:XK),Room k (A.deeper (envOfC qual (Da st) s.heap.objs.size fa cdv))->
   XSQ (Kk (FB P w) P w K mg base N qual (Da st) fa cdv A outer s H E) (P6 K E) (Fb st) g):FnQX P w K mg base (k+1) x ps.length (Ip N.length g):=by
 obtain⟨oc,od,kV,doc,pm,an,cdv,ct,osl,hf,lk,hcd⟩:=F.ex
 subst hf
 refine⟨fa,_,ps,CM lk hcd S (λvs H Q E h=>h.1) λA outer s H vs Q E hr hsp=>?_,hm,F.kp,hb⟩
 obtain⟨hl,W,ds,hw,hd,q⟩:=hsp
 refine⟨_,(body cdv A outer s H E hr).h,W,H,W,Ob N.length ds,Ij hw hd,?_⟩
 unfold Ip at q
 cases h:g (Ob N.length ds) with
 |rt d=>
  rw[h]at q
  cases d with
  |dct ks fs=>exact λa kvs H' k n e1 e2 r=>q a kvs H' k n e1 e2 r
  |_=>exact λv H' k hv=>q v H' k hv
 |nx δ=>rw[h]at q;exact λW' H' σ' k st'=>q .non H' st'.fr.ext (by rw[Has])
 |bk δ=>rw[h]at q;exact q.elim
 |ct δ=>rw[h]at q;exact q.elim
 |ex c fs=>rw[h]at q;exact λH' k cls dx hn xf=>q cls dx H' hn k xf
 |stuck=>rw[h]at q;exact q.elim
theorem QX{fs:Ca->Res (List D)}{rpos:Pos}(F:FnQX X.prog X.w X.K X.mg X.base k x n m)(hp:Fy X xw)(hr:Room k X.A)(ha:XA X xw (a::es) fs)(hg:Gl X x:=by rfl)(hdb:(x==("__debug__":Str))=false:=by decide)(he:starEach (a::es) X.env=(false,eval a X.env)::starEach es X.env:=by rfl)(hpl:(backTo pos (starEach es X.env)).any (·.1)=false:=by rfl):
  XSQ X xw [.Return (some (.Call (.Name x p) (a::es) [] pos)) rpos] (Rb (b1 (Kc n m) fs)):=by
 obtain⟨fa,fd,ps,G,hm,hk,hb⟩:=F.ex
 refine⟨PSs.weak (Cm (Us (Co G hr hg hm hk hb .nil hp ha.h hdb he hpl))) λDn σ H ⟨W₀,H₀,W,δ,st,q⟩=>?_⟩
 refine⟨W₀,H₀,W,δ,st,?_⟩
 have q':RSQ X.K xw W₀ H₀ W H (Qk ((fs δ).bind (Kc n m)) .rt) Dn:=q
 cases h1:fs δ with
 |stuck=>rw[h1]at q';exact q'
 |ex c gs=>rw[h1]at q';exact λH' k'=>q' H' (st.fr.ext.trans k')
 |ok ds=>
  rw[h1]at q'
  intro vs H1 k1 hv
  have q2:RSQ X.K xw W₀ H₀ W H (Qk (Kc n m ds) .rt) Dn:=q'
  unfold Kc at q2
  split at q2
  .rename_i hn
   rw[append_nil]
   have st1:=st.same k1
   refine⟨by rw[<-hv.length];exact hn,W,ds,st1.fr.wl,hv,?_⟩
   cases h:m ds with
   |ex c fs=>rw[h]at q2;exact λcls dx H' hn' k' xf=>⟨c,fs,hn',q2 H' (st1.fr.ext.trans k'),xf⟩
   |stuck=>rw[h]at q2;exact q2.elim
   |ok d=>
    rw[h]at q2
    cases d with
    |dct ks fs=>
     intro a kvs H' k' n' e1 e2 r
     have q3:IZ X.K W₀ H₀ ks fs Dn.rt:=q2
     have up:∀ b,(W₀ b\/b=a)->(W b\/b=a)\/H' b=none:=λb z=>z.elim (λz=>.inl (.inl (st.fr.sub b z))) λz=>.inl (.inr z)
     have wl':WL (λb=>W b\/b=a) H':=λb z=>z.elim (st1.fr.wl.same k' b) λz=>by rw[z];exact⟨_,e1,trivial⟩
     exact q3 a kvs H' (st1.fr.ext.trans k') (Same.free st1.fr.ext n') e1 e2 (HasL.keep (λ_ _ e _=>e) wl' up r)
    |_=>exact λv H' k' hv'=>q2 v H' (st1.fr.ext.trans k') (Has.keep (λ_ _ e _=>e) (st1.fr.wl.same k') (λb z=>.inl (st.fr.sub b z)) hv')
  .exact q2.elim
def CG(i:Nat)(δ:Ca):D->Out
 | .dct ks ds=>.nx (δ.set i (some (.q ks ds)))
 |d=>.nx (δ.set i (some (.d d)))
def PD(i:Nat)(f:Ca->Res D):Ca->Out:=λδ=>Qk (f δ) (CG i δ)
theorem RD(i:Nat){f:Str}{fs:Ca->Res (List D)}{spos:Pos}(hN:X.N.Nodup)(F:FnQX X.prog X.w X.K X.mg X.base k f n m)(hp:Fy X xw)(hr:Room k X.A)(ha:XA X xw (a::es) fs)(hg:Gl X f:=by rfl)(hdb:(f==("__debug__":Str))=false:=by decide)(he:starEach (a::es) X.env=(false,eval a X.env)::starEach es X.env:=by rfl)(hpl:(backTo pos (starEach es X.env)).any (·.1)=false:=by rfl)(hi:X.N[i]? =some x:=by rfl)(hx:Cy X.env.scope x:=by first|exact Or.inl rfl|exact Or.inr rfl)(hs:swapsWith (.Call (.Name f p) (a::es) [] pos) (some (.Name x pos')) spos.line X.env=pure false:=by rfl)(hf:X.fn x=true\/X.env.scope.names.lookup x=some .local:=by first|exact .inl rfl|exact .inr rfl|assumption):
  XS X xw (.Assign [.Name x pos'] (.Call (.Name f p) (a::es) [] pos) spos) (PD i (b1 (Kc n m) fs)):=by
 obtain⟨fa,fd,ps,G,hm,hk,hb⟩:=F.ex
 refine⟨PS.weak (Vs hN hi hx (Co G hr hg hm hk hb .nil hp ha.h hdb he hpl) hs hf) λDn σ H ⟨W₀,H₀,W,δ,st,q⟩=>?_⟩
 refine⟨W₀,H₀,W,δ,st,?_⟩
 have q':RS X.K xw W₀ H₀ W H (Qk ((fs δ).bind (Kc n m)) (CG i δ)) Dn:=q
 cases h1:fs δ with
 |stuck=>rw[h1]at q';exact q'
 |ex c gs=>rw[h1]at q';exact λH' k'=>q' H' (st.fr.ext.trans k')
 |ok ds=>
  rw[h1]at q'
  intro vs H1 k1 hv
  have q2:RS X.K xw W₀ H₀ W H (Qk (Kc n m ds) (CG i δ)) Dn:=q'
  unfold Kc at q2
  split at q2
  .rename_i hn
   rw[append_nil]
   have st1:=st.same k1
   refine⟨by rw[<-hv.length];exact hn,W,ds,st1.fr.wl,hv,?_⟩
   cases h:m ds with
   |ex c fs=>rw[h]at q2;exact λcls dx H' hn' k' xf=>⟨c,fs,hn',q2 H' (st1.fr.ext.trans k'),xf⟩
   |stuck=>rw[h]at q2;exact q2.elim
   |ok d=>
    rw[h]at q2
    have plain:(∀ ks es,d≠ .dct ks es)->∀ v H',Same H1 H'->Has X.K W H' d v->Bv i v σ H' Dn.nx:=λhd v H' k' hv'=>by
     have q3:RS X.K xw W₀ H₀ W H (.nx (δ.set i (some (.d d)))) Dn:=by
      cases d with
      |dct ks es=>exact absurd rfl (hd ks es)
      |_=>exact q2
     exact q3 W H' _ (Step.same (k1.trans k')) ((st1.same k').set hv')
    cases d with
    |dct ks es=>
     intro a kvs H' k' hn' ha' hks hx'
     have q3:RS X.K xw W₀ H₀ W H (.nx (δ.set i (some (.q ks es)))) Dn:=q2
     refine q3 _ H' _ ⟨λb o e nb=>k' b o (k1 b o e),λb z=>z.elim .inl λz=>.inr (by rw[z];exact Same.free k1 hn')⟩ (st1.ownG (W':=W) k' hn' ha' trivial ⟨a,kvs,rfl,.inr rfl,Same.free st1.fr.ext hn',ha',hks,hx'⟩)
    |_=>exact plain (λks es e=>by cases e)
  .exact q2.elim
theorem G8:Fy X Ql:=λpins σ H s e s' I h=>by
 obtain⟨a,cls,dx,H',rfl,os,bare,x,c,fs,hn,q,xf⟩:=h
 exact q.elim
end
theorem CN:Ur "dict":=by intro K T hT;simp only[mem_cons,not_mem_nil,or_false]at hT;rcases hT with rfl|rfl|rfl|rfl|rfl|rfl|rfl<;>kernel_rfl
theorem Zx:∀ {xs:List V} {us:List Value},xs.length=us.length->(∀ (i:Nat) (x:V) (u:Value),xs[i]? =some x->us[i]? =some u->RelV x u)->Vals xs us
 | [],[],_,_=>.nil
 | [],_::_,h,_=>by simp at h
 |_::_,[],h,_=>by simp at h
 |x::xs,u::us,h,r=>.cons (r 0 x u rfl rfl) (Zx (by simpa using h) λi y v e1 e2=>r (i+1) y v (by simpa using e1) (by simpa using e2))
variable{e:Expr}
section
variable {p:Pos}
theorem Jv{K:Frag}{W:WS}{H:Hp}:∀ ks:List Cb,HasL K W H (ks.map Ik) (ks.map kV)
 | []=>by rw[map_nil,map_nil,HasL]
 |k::ks=>by rw[map_cons,map_cons,HasL];exact⟨_,_,rfl,Zo k,Jv ks⟩
end
def CK(G H:Hp):Hp:=λb=>match G b with
 |some o=>some o
 |none=>H b
variable{G:Hp}
theorem Zr{o:HO}(h:G b=some o):CK G H b=some o:=by unfold CK;rw[h]
theorem El(h:G b=none):CK G H b=H b:=by unfold CK;rw[h]
theorem _root_.L2.Inv.laids{h':Heap}{t':Nat}(I:Inv X pins σ H s)(k:∀ b u,s.heap.get? b=some u->h'.get? b=some u)(hG:∀ b o,G b=some o->s.heap.objs.size<=b)(new:∀ b o,G b=some o->ObjOk X.prog X.w (CK G H) h' b o):Inv X pins σ (CK G H) {s with heap:=h',toks:=t'}:=by
 have gn:∀ b o,H b=some o->G b=none:=λb o e=>by
  cases h:G b with
  |none=>rfl
  |some u=>
   have:=hG b u h
   rw[I.hok.fresh this]at e;cases e
 have gh:∀ b o,s.heap.get? b=some o->G b=none:=λb o e=>by
  cases h:G b with
  |none=>rfl
  |some u=>exact absurd (lt_of_lt_of_le (lt_size e) (hG b u h)) (lt_irrefl _)
 have keep:∀ b o,H b=some o->CK G H b=some o:=λb o e=>by rw[El (gn b o e)];exact e
 refine I.un ⟨λb u q _ _ _=>k b u q,λb u q _ _ _=>⟨u.slots,k b u q⟩,λb u q n _=>by rw[El (gh b u q)];exact n,λb u q _=>⟨u,k b u q⟩,λb xs q=>keep b _ q,λb o u q=>keep b _ q,λb ps q=>⟨#[],by rw[keep b _ q];simp⟩⟩ λb u e=>?_
 cases h:G b with
 |some o=>
  rw[Zr h]at e;cases e
  exact new b u h
 |none=>
  rw[El h]at e
  exact(I.hok b u e).stay (λc v _ q=>k c v q) (λc q=>keep c _ q) λc xs q=>keep c _ q
theorem MR{β:Type}:∀ {as:List Addr} {ks:List β} {j:Nat} {b:Addr} {p:β},as.Nodup->as[j]? =some b->ks[j]? =some p->(as.zip ks).lookup b=some p
 | [],_,_,_,_,_,h,_=>by simp at h
 |_::_,[],_,_,_,_,_,h=>by simp at h
 |a::as,q::ks,0,b,p,hn,h1,h2=>by
  have e1:a=b:=by simpa using h1
  have e2:q=p:=by simpa using h2
  subst e1 e2
  simp
 |a::as,q::ks,j+1,b,p,hn,h1,h2=>by
  rw[nodup_cons]at hn
  have h1':as[j]? =some b:=by simpa using h1
  have ne:(b==a)=false:=by
   rw[beq_eq_false_iff_ne]
   intro z
   rw[z]at h1'
   exact hn.1 (mem_of_getElem? h1')
  rw[zip_cons_cons,lookup_cons,ne]
  exact MR hn.2 h1' (by simpa using h2)
theorem UN{β:Type}:∀ {as:List Addr} {ks:List β} {b:Addr} {p:β},(as.zip ks).lookup b=some p->∃ j:Nat,as[j]? =some b/\ks[j]? =some p
 | [],_,_,_,h=>by simp at h
 |_::_,[],_,_,h=>by simp at h
 |a::as,q::ks,b,p,h=>by
  rw[zip_cons_cons,lookup_cons]at h
  by_cases e:(b==a)=true
  .rw[e]at h
   have:q=p:=by simpa using h
   exact⟨0,by simpa using (beq_iff_eq.mp e).symm,by simpa using this⟩
  .have e':(b==a)=false:=by simpa using e
   rw[e']at h
   obtain⟨j,h1,h2⟩:=UN h
   exact⟨j+1,by simpa using h1,by simpa using h2⟩
variable{te:TE}
section
variable {p apos:Pos}
def OI(a:Addr):Obj:= {cls:=.type "dict_items",data:=.fields #[.ref a]}
theorem BP(hc:X.calm=true)(hm:X.mg "list"=none)(hg:Gl X "list")(h:PE X e te)(hbase:attributeBase e "items" X.env (eval e X.env)=eval e X.env)(hline:(apos.endLine==pos2.line)=true)(he:starEach [.Call (.Attribute e "items" apos) [] [] pos2] X.env=(false,eval (.Call (.Attribute e "items" apos) [] [] pos2) X.env)::starEach [] X.env)(hpl:(backTo pos (starEach [] X.env)).any (·.1)=false):
  PE X (.Call (.Name "list" p) [.Call (.Attribute e "items" apos) [] [] pos2] [] pos) (λσ H Q=>te σ H λx H1=>∃ a o kvs,x=.ref a/\H1 a=some (.frz o (.dK kvs))/\kvs.length<=sizeLine/\
   ∀ (n:Addr) (as:List Addr) (H2:Hp),as.length=kvs.length->Same H1 H2->(∀ (j:Nat) (b:Addr) (q:Cb×V),as[j]? =some b->kvs[j]? =some q->H1 b=none/\H2 b=some (.tup [kV q.1,q.2]))->H2 n=none->Q (.ref n) (Jb H2 n (.lst (as.map V.ref)))):=by
 intro pins s σ H Q I q
 refine wpAny_Call_Name_kw (Li I hg hm (show bootBuiltins "list"=some (.type "list") by decide +kernel) ?_ (by decide) (by decide))
 refine PyProof.Rows.callWith_type1 ?_ he hpl
 rw[he]
 show wpAny _ _ (spliced ((false,eval _ X.env)::backTo pos (starEach [] X.env))) _ _ s
 refine Calls.spliced_cons (wpAny_Call_method0_late hbase hline (thn (h pins s σ H _ I q) λv s1 ⟨x,H1,I1,r1,q1⟩=>?_))
 obtain⟨a,o,kvs,rfl,hq,hn,qn⟩:=q1
 cases r1
 obtain⟨h1',_,hS,vs',r',o',es,ep,g1,g2,g3,g4⟩:=(show _/\_ from I1.hok a _ hq)
 rw[h1']at g1;cases g1
 obtain⟨hs,vs,rel,dat⟩:=Kw I1.hok hq g3
 refine⟨"dict","dict.items",F.plainAttrs_dict,F.slot_dict_items,F.type_dict_items,dat.dictOf.typeIs,λb z=>by cases z;exact⟨o,h1',g2.2.1⟩,Calls.callWith_builtin rfl (PySem.evalArgs_none ?_)⟩
 refine call_meetsIn F.slot_dict_items dat.dictOf.typeIs F.entry_dict_items (F.args_dict_items_1 _) (meets_dict_items (Cd X.prog X.w) a hs) ⟨⟨vs,dat.dictOf⟩,?_⟩
 refine Calls.spliced_nil ?_
 have v1:Heap.IsItemsView (s1.heap.push (OI a)) s1.heap.objs.size a:=⟨_,get?_push_size _ rfl,rfl,rfl⟩
 have sz:(s1.heap.push (OI a)).objs.size=s1.heap.objs.size+1:=size_push ..
 refine PySem.W.kdx_call (s:= {s1 with heap:=s1.heap.push (OI a)}) (knd:=Cd X.prog X.w) (kvs:=vs) (ep:=ep) (I1.ok.hd hc) v1 (dat.push _) (by rw[<-Pe rel];exact hn) λh' tk acc c as kk hS' hl hG hacc=>?_
 have hlen:as.length=kvs.length:=by rw[hl];exact(Pe rel).symm
 have nd:as.Nodup:=Pairwise.imp (λh=>ne_of_lt h) hG.rise
 have n0:s1.heap.objs.size<=(s1.heap.push (OI a)).objs.size:=by rw[sz];exact le_succ _
 have ab:∀ b∈as,(s1.heap.push (OI a)).objs.size<b:=hG.above
 obtain⟨G,hGd⟩:∃ G:Hp,G=λb=>((as.zip kvs).lookup b).map λq=>HO.tup [kV q.1,q.2]:=⟨_,rfl⟩
 have gs:∀ b o',G b=some o'->∃ (j:Nat) (q:Cb×V),as[j]? =some b/\kvs[j]? =some q/\o'=.tup [kV q.1,q.2]:=λb o' e=>by
  rw[hGd]at e
  obtain⟨q,e1,rfl⟩:=map_eq_some_iff.mp e
  obtain⟨j,h1,h2⟩:=UN e1
  exact⟨j,q,h1,h2,rfl⟩
 have gi:∀ (j:Nat) (b:Addr) (q:Cb×V),as[j]? =some b->kvs[j]? =some q->G b=some (.tup [kV q.1,q.2]):=λj b q h1 h2=>by
  rw[hGd]
  show((as.zip kvs).lookup b).map _=_
  rw[MR nd h1 h2];rfl
 have gn0:G (s1.heap.push (OI a)).objs.size=none:=by
  cases z:G (s1.heap.push (OI a)).objs.size with
  |none=>rfl
  |some o'=>
   obtain⟨j,q,h1,_⟩:=gs _ _ z
   exact absurd (ab _ (mem_of_getElem? h1)) (lt_irrefl _)
 have eqH:Jb (CK G H1) (s1.heap.push (OI a)).objs.size (.lst (as.map V.ref))=CK (Jb G (s1.heap.push (OI a)).objs.size (.lst (as.map V.ref))) H1:=by
  funext b
  by_cases hb:b=(s1.heap.push (OI a)).objs.size
  .subst hb;rw[Na,Zr Na]
  .rw[Ha hb]
   unfold CK
   rw[Ha hb]
 have hv:Vals (as.map V.ref) acc.toList:=by
  rw[hacc]
  refine Zx (by rw[length_map,length_map]) λi x u hx hu=>?_
  rw[getElem?_map]at hx hu
  obtain⟨b,hb,rfl⟩:=map_eq_some_iff.mp hx
  rw[hb]at hu
  cases hu
  rfl
 have kk':∀ b u,s1.heap.get? b=some u->h'.get? b=some u:=λb u e=>kk b u (get?_push_of_some _ e)
 have I2:Inv X pins σ (CK (Jb G (s1.heap.push (OI a)).objs.size (.lst (as.map V.ref))) H1) {s1 with heap:=h',toks:=tk}:=by
  refine I1.laids kk' (λb o' e=>?_) λb o' e=>?_
  .by_cases hb:b=(s1.heap.push (OI a)).objs.size
   .rw[hb];exact n0
   .rw[Ha hb]at e
    obtain⟨j,q,h1,_⟩:=gs _ _ e
    exact le_trans n0 (le_of_lt (ab _ (mem_of_getElem? h1)))
  .by_cases hb:b=(s1.heap.push (OI a)).objs.size
   .subst hb
    rw[Na]at e;cases e
    exact⟨by rw[length_map,hlen];exact hn,acc.toList,c,hv,hS'⟩
   .rw[Ha hb]at e
    obtain⟨j,q,h1,h2,rfl⟩:=gs _ _ e
    obtain⟨key,k,x,e1,e2,e3⟩:=hG.pairs j b h1
    obtain⟨u,e4,ru⟩:=PN rel h2
    rw[e4]at e1
    cases e1
    exact⟨show(2:Nat)<=sizeLine by rw[sizeLine_eq];decide,[key,x],.cons (RC e2) (.cons ru .nil),_,e3,rfl,_,rfl⟩
 refine⟨.ref _,_,I2,rfl,?_⟩
 rw[<-eqH]
 refine qn _ as (CK G H1) hlen (λb o' e=>?_) (λj b q h1 h2=>⟨I1.hok.fresh (le_trans n0 (le_of_lt (ab _ (mem_of_getElem? h1)))),Zr (gi j b q h1 h2)⟩) (by rw[El gn0];exact I1.hok.fresh n0)
 cases z:G b with
 |none=>rw[El z];exact e
 |some o2=>
  obtain⟨j,q,h1,_⟩:=gs _ _ z
  rw[I1.hok.fresh (le_trans n0 (le_of_lt (ab _ (mem_of_getElem? h1))))]at e
  cases e
def Tr:D->Res (List D)
 | .dct ks ds=>@ite (Res (List D)) (ks.length<=sizeLine) (propDecidable _) (.ok ((ks.zip ds).map λp=>.tup [Ik p.1,p.2])) .stuck
 |_=>.stuck
theorem Xr{K:Frag}{W:WS}{H:Hp}:∀ (kvs:List (Cb×V)) (ds:List D) (as:List Addr),HasL K W H ds (kvs.map (·.2))->as.length=kvs.length->(∀ (j:Nat) (b:Addr) (q:Cb×V),as[j]? =some b->kvs[j]? =some q->H b=some (.tup [kV q.1,q.2]))->
  HasL K W H (((kvs.map (·.1)).zip ds).map λp=>D.tup [Ik p.1,p.2]) (as.map V.ref)
 | [],ds,as,h,hl,_=>by
  have:as= []:=List.length_eq_zero_iff.mp (by simpa using hl)
  subst this
  rw[map_nil,List.zip_nil_left,map_nil,map_nil,HasL]
 |q::kvs,[],as,h,hl,_=>by rw[map_cons,HasL]at h;cases h
 |q::kvs,d::ds,[],h,hl,_=>by simp at hl
 |q::kvs,d::ds,b::as,h,hl,ht=>by
  rw[map_cons,HasL]at h
  obtain⟨x,r,e,hx,hr⟩:=h
  cases e
  have h0:=ht 0 b q rfl rfl
  rw[map_cons,zip_cons_cons,map_cons,map_cons,HasL]
  refine⟨_,_,rfl,?_,Xr kvs ds as hr (by simpa using hl) λj b' q' h1 h2=>ht (j+1) b' q' (by simpa using h1) (by simpa using h2)⟩
  rw[Has]
  refine⟨b,_,rfl,.inl (.inl h0),?_⟩
  rw[HasL]
  refine⟨_,_,rfl,Zo q.1,?_⟩
  rw[HasL]
  refine⟨_,_,rfl,hx,?_⟩
  rw[HasL]
theorem QT(hc:X.calm=true)(hm:X.mg "list"=none)(h:XE X xw e f)(hg:Gl X "list":=by rfl)(hbase:attributeBase e "items" X.env (eval e X.env)=eval e X.env:=by rfl)(hline:(apos.endLine==pos2.line)=true:=by rfl)(he:starEach [.Call (.Attribute e "items" apos) [] [] pos2] X.env=(false,eval (.Call (.Attribute e "items" apos) [] [] pos2) X.env)::starEach [] X.env:=by rfl)(hpl:(backTo pos (starEach [] X.env)).any (·.1)=false:=by rfl):
  XF X xw (.Call (.Name "list" p) [.Call (.Attribute e "items" apos) [] [] pos2] [] pos) (KB Tr f):=
 ⟨PE.weak (BP hc hm hg h.h hbase hline he hpl) λσ H Q ⟨W₀,H₀,W,δ,st,q⟩=>by
  refine⟨W₀,H₀,W,δ,st,?_⟩
  unfold KB at q
  cases h1:f δ with
  |stuck=>rw[h1]at q;exact q
  |ex c fs=>rw[h1]at q;exact q
  |ok d=>
   rw[h1]at q
   intro v H1 k1 hv
   have q':RF X.K xw W H (Tr d) Q:=q
   unfold Tr at q'
   split at q'
   .rename_i ks ds
    split at q'
    .rename_i hn
     rw[Has]at hv
     obtain⟨a,kvs,rfl,⟨o,ea⟩,r5,r6⟩:=hv
     have hl:kvs.length<=sizeLine:=by rw[<-r5,length_map]at hn;exact hn
     refine⟨a,o,kvs,rfl,ea,hl,λn as H2 hla k2 ht hn2=>?_⟩
     subst r5
     exact q' n _ H2 (k1.trans k2) hn2 (Xr kvs ds as (HasL.same r6 k2 (st.fr.wl.same k1)) hla λj b q h1 h2=>(ht j b q h1 h2).2)
    .exact q'.elim
   .exact q'.elim⟩
end
variable{Q:VK}
section
variable {b:Expr}{fa fb:Ca->Res (List (Cb×D))}{p:Pos}
def K6(op:List (Cb×D)->List (Cb×D)->Res D)(f g:Ca->Res (List (Cb×D))):Ca->Res D:=λδ=>(f δ).bind λl=>(g δ).bind λm=>op l m
def WC(l m:List (Cb×D)):Res D:=if(l.all (λp=>Lb 39 p.2)&&m.all (λp=>Lb 39 p.2))=true then .ok (.bl (!eqT l m)) else .stuck
theorem WX{op:List (Cb×D)->List (Cb×D)->Res D}{R:V->V->Hp->Prop}(st:StHas X.K W₀ H₀ W H σ δ)(q:RE X.K xw W H (K6 op fa fb δ) Q)(h:∀ H2 l m c d ka kb,Same H H2->Rd H2 c (.dK ka)->Rd H2 d (.dK kb)->HasP X.K W H2 l ka->HasP X.K W H2 m kb->RE X.K xw W H2 (op l m) Q->R (.ref c) (.ref d) H2):
  tDQ X.K xw fa σ H λx H1=>tDQ X.K xw fb σ H1 λy H2=>R x y H2:=by
 refine⟨W₀,H₀,W,δ,st,?_⟩
 unfold K6 at q
 cases h1:fa δ with
 |stuck=>rw[h1]at q;exact q
 |ex c fs=>rw[h1]at q;exact q
 |ok l=>
  rw[h1]at q
  intro c ka H1 k1 hc hp
  refine⟨W₀,H₀,W,δ,st.same k1,?_⟩
  have q':RE X.K xw W H ((fb δ).bind λm=>op l m) Q:=q
  cases h2:fb δ with
  |stuck=>rw[h2]at q';exact q'
  |ex c fs=>rw[h2]at q';exact λH2 k2=>q' H2 (k1.trans k2)
  |ok m=>
   rw[h2]at q'
   intro d kb H2 k2 hd hp2
   exact h H2 l m c d ka kb (k1.trans k2) (hc.imp (k2 _ _) λ⟨o,z⟩=>⟨o,k2 _ _ z⟩) hd (hp.same k2 (st.fr.wl.same k1)) hp2 (RE.same q' (k1.trans k2))
theorem DV{m:List (Cb×D)}{c d:Addr}{ka:List (Cb×V)}(hc:Rd H c (.dK ka))(hd:Rd H d (.dK kb))(h1:HasP X.K W H l ka)(h2:HasP X.K W H m kb)(q:RE X.K xw W H (WC l m) Q):A5 X.K not (.ref c) (.ref d) H Q:=by
 unfold WC at q
 split at q
 .rename_i hs
  rw[and_eq_true,all_eq_true,all_eq_true]at hs
  exact⟨W,l,m,c,d,ka,kb,rfl,rfl,hc,hd,h1,h2,hs.1,hs.2,q.bl⟩
 .exact q.elim
theorem X9(hu:X.A.units+40<cLine)(ha:XQ X xw a fa)(hb:XQ X xw b fb)(hm:behindInMarks .NotEq b=false:=by rfl):XT X xw (.Compare a [.NotEq] [b] pos) (tR (K6 WC fa fb)):=
 ⟨DE.t_of (f:=K6 WC fa fb) (PT.weak (Eo (WO hu) ha.h hb.h hm) λσ H Q ⟨W₀,H₀,W,δ,st,q⟩=>WX st q λH2 l m c d ka kb k hc hd h1 h2 q2=>DV hc hd h1 h2 q2)⟩
theorem NH:Rg X (.builtin "isinstance") (λxs H Q=>∃ (c:Addr) (kvs:List (Cb×V)),xs= [.ref c,.ty "dict"]/\Rd H c (.dK kvs)/\Q (.bl true) H):=by
 intro pins s σ H xs us Q I r h
 obtain⟨c,kvs,rfl,hd,q⟩:=h
 obtain⟨u,u2,rfl,rx,rc⟩:=r.two
 obtain rfl:u2=Value.type "dict":=rc
 have hk:=CN X.K "dict" (by simp)
 cases (show u=Value.ref c from rx)
 obtain⟨_,_,vs,_,o,es,ep,h1,h2,_⟩:=Jk I.hok hd
 exact kia_one PySem.W.kitx_dict I.kIn ⟨o,h1,h2.1⟩ hk (λz=>nomatch z) λtk=>⟨.bl true,H,I.tok tk,rfl,q⟩
def isQ(f:Ca->Res (List (Cb×D))):Ca->Res D:=λδ=>(f δ).bind λ_=>.ok (.bl true)
theorem Z5(hm:X.mg "isinstance"=none)(hmc:X.mg "dict"=none)(ha:XQ X xw a fa)(hg:Gl X "isinstance":=by rfl)(hgc:Gl X "dict":=by rfl)(he:starEach [a, .Name "dict" p2] X.env=(false,eval a X.env)::starEach [.Name "dict" p2] X.env:=by rfl)(he2:starEach [.Name "dict" p2] X.env=(false,eval (.Name "dict" p2) X.env)::starEach [] X.env:=by rfl)(hpl:(backTo pos (starEach [.Name "dict" p2] X.env)).any (·.1)=false:=by rfl):
  XE X xw (.Call (.Name "isinstance" p) [a, .Name "dict" p2] [] pos) (isQ fa):=
 ⟨PE.weak (Dj NH hg hm (by decide +kernel) (Ic ha.h (Ic (Lx (v:=.ty "dict") hgc hmc (by decide +kernel) rfl (by decide) (by decide)) Vf he2) he) (by decide) (by decide) he hpl) λσ H Q ⟨W₀,H₀,W,δ,st,q⟩=>by
  refine⟨W₀,H₀,W,δ,st,?_⟩
  have q':RE X.K xw W H ((fa δ).bind λ_=>.ok (.bl true)) Q:=q
  cases h1:fa δ with
  |stuck=>rw[h1]at q';exact q'
  |ex c fs=>rw[h1]at q';exact q'
  |ok l=>
   rw[h1]at q'
   intro c kvs H' k hd hp
   exact⟨c,kvs,rfl,hd,(RE.same q' k).bl⟩⟩
theorem CP(hc:X.calm=true)(hm:X.mg "list"=none)(hg:Gl X "list")(h:PE X e te)(he:starEach [e] X.env=(false,eval e X.env)::starEach [] X.env)(hpl:(backTo pos (starEach [] X.env)).any (·.1)=false):
  PE X (.Call (.Name "list" p) [e] [] pos) (λσ H Q=>te σ H λx H1=>∃ a kvs,x=.ref a/\Rd H1 a (.dK kvs)/\∀ n,H1 n=none->Q (.ref n) (Jb H1 n (.lst (kvs.map λq=>kV q.1)))):=by
 intro pins s σ H Q I q
 refine wpAny_Call_Name_kw (Li I hg hm (show bootBuiltins "list"=some (.type "list") by decide +kernel) ?_ (by decide) (by decide))
 refine PyProof.Rows.callWith_type1 ?_ he hpl
 rw[he]
 show wpAny _ _ (spliced ((false,eval _ X.env)::backTo pos (starEach [] X.env))) _ _ s
 refine Calls.spliced_cons (thn (h pins s σ H _ I q) λv s1 ⟨x,H1,I1,r1,q1⟩=>?_)
 refine Calls.spliced_nil ?_
 obtain⟨a,kvs,rfl,hq,qn⟩:=q1
 cases r1
 obtain⟨hn,hs,vs,rel,o,es,ep,dat⟩:=Jk I1.hok hq
 refine PySem.W.kdl_call (s:=s1) (PySem.W.kdl_dict (prog:=X.prog) (w:=X.w) (d:=a) (knd:=Cd X.prog X.w) (kvs:=vs) (ep:=ep) hs) (I1.ok.hd hc) ⟨o,es,dat⟩ (by rw[<-Pe rel];exact hn) λh' tk acc' c' kk hS hacc=>?_
 obtain⟨e1,e2⟩:=hacc
 have hv:Vals (kvs.map λq=>kV q.1) acc'.toList:=by
  refine Zx (by have:=Pe rel;have e9:acc'.toList.length=vs.length:=e1;rw[length_map,e9];exact this) λi x u hx hu=>?_
  rw[getElem?_map]at hx
  obtain⟨q,hq',rfl⟩:=map_eq_some_iff.mp hx
  rw[getElem?_toList]at hu
  obtain⟨k,y,ek,hk⟩:=e2 i u hu
  obtain⟨y2,e3,_⟩:=PN rel hq'
  rw[e3]at ek
  cases ek
  exact RC hk
 refine⟨.ref _,_,I1.laid (t':=tk) (o:=.lst (kvs.map λq=>kV q.1)) (λb u e=>kk b u e) (le_refl _) ?_,rfl,qn _ I1.fresh⟩
 exact⟨by rw[length_map];exact hn,acc'.toList,c',hv,hS⟩
def ksT(f:Ca->Res (List (Cb×D))):Ca->Res (List D):=λδ=>(f δ).bind λl=>.ok (l.map λq=>Ik q.1)
theorem HI:∀ {l:List (Cb×D)} {kvs:List (Cb×V)},HasP K W H l kvs->(kvs.map λq=>kV q.1)=l.map λq=>kV q.1:=λ{l kvs} h=>by
 have:=h.1
 have e:∀ {β:Type} (m:List (Cb×β)),(m.map λq=>kV q.1)=(m.map (·.1)).map kV:=λm=>by rw[map_map];rfl
 rw[e,e,this]
theorem UT(hc:X.calm=true)(hm:X.mg "list"=none)(h:XQ X xw e fa)(hg:Gl X "list":=by rfl)(he:starEach [e] X.env=(false,eval e X.env)::starEach [] X.env:=by rfl)(hpl:(backTo pos (starEach [] X.env)).any (·.1)=false:=by rfl):
  XF X xw (.Call (.Name "list" p) [e] [] pos) (ksT fa):=
 ⟨PE.weak (CP hc hm hg h.h he hpl) λσ H Q ⟨W₀,H₀,W,δ,st,q⟩=>by
  refine⟨W₀,H₀,W,δ,st,?_⟩
  have q':RF X.K xw W H ((fa δ).bind λl=>.ok (l.map λq=>Ik q.1)) Q:=q
  cases h1:fa δ with
  |stuck=>rw[h1]at q';exact q'
  |ex c fs=>rw[h1]at q';exact q'
  |ok l=>
   rw[h1]at q'
   intro c kvs H1 k1 hd hp
   refine⟨c,kvs,rfl,hd,λn hn=>?_⟩
   rw[HI hp]
   have:=Jv (K:=X.K) (W:=W) (H:=H1) (l.map (·.1))
   rw[map_map,map_map]at this
   exact q' n _ H1 k1 hn this⟩
end
end L3
namespace G
open PySem PySem.Spec PyProof.Rows L2 L3
def Rj:Ca->Res D:=(b1 Qg (Aa (Ea 0) (Aa (Bf (b1 Qd (Ga 1))) Qa)))
def Iy:Ca->Out:=(Rb (Bf (Fc 2 (Hc 2 (Sa (Gb 0) (Sa (Gb 1) Gc))) (λ_=>.ok true) Rj (b1 Qd (Ea 0)))))
def Ph:List D->Res D:=Pg 1 Iy
def Hg:List (Str×(Ca->Res D)):= [("rules",(Ea 1)),("doors",(Bf (b1 Qd (Ga 2)))),("wings",(b1 (Wa 1 Ph) (Aa (Ea 3) Qa))),("grants",(b1 (Wa 1 Ph) (Aa (Ea 4) Qa)))]
def Xh:Ca->Out:=(Ab (Dg (tR (b2 Y7 (Ga 1) (b1 Yj (Ga 0)))) (Rb (b2 Ki (Ga 0) (Ga 1))) Out.nx)
  (Ab (Jc 2 (b2 Je (b2 Vt (Ga 1) (kD (.int 48271))) (kD (.int 11))))
  (Ab (Dg (tR (b2 LF (b1 Yj (Ga 0)) (kD (.int 0)))) (Jc 2 (b2 Je (Ga 2) (b2 Vt (b2 Kd (b2 Ki (Ga 0) (b2 Kd (b2 Vt (Ga 1) (kD (.int 7))) (b1 Yj (Ga 0)))) (kD (.int 2147483647))) (kD (.int 69621))))) Out.nx)
  (Rb (b2 Kd (b2 Vt (Ga 2) (Ga 2)) (kD (.int 2147483629)))))))
def Ma:List D->Res D:=Pg 3 Xh
def Wg:Ca->Res D:=(KH Zh (Rc 6) (b2 Ki (Ga 1) (kD (.int 0))))
def Ug:Ca->Res Bool:=(tR (b2 QY (Ga 8) (b2 Ki (Ga 5) (Ga 0))))
def Qj:Ca->Res D:=(b2 Ki (Ga 0) (Ga 1))
def Xg:Ca->Res D:=(b1 Se (Bf (b1 Uv (Bf (Fc 1 (Gb 0) (λ_=>.ok true) Qj (b1 Qd (Ea 8)))))))
def Zg:Ca->Out:=(Dg (tR (b2 LF (b1 Yj (Ga 10)) (b2 Ki (Ga 0) (kD (.int 2))))) (Rb (b1 Qg (Aa (Ea 6) (Aa (Ea 9) Qa)))) Out.nx)
def Fd:Ca->Out:=(Ab (Sh 7 (Fc 2 (Hc 2 (Sa (Gb 0) (Sa (Gb 1) Gc))) Ug Wg (b1 Bi (Aa (Ea 2) Qa))))
  (Ab (Jg 7 (Sh 8 (Fc 1 (Gb 0) (λ_=>.ok true) Xg (b1 Fo (Aa (b2 Ki (Ga 0) (kD (.int 0))) Qa)))))
  (Ab (Jg 8 (Kf (Hc 2 (Sa (Gb 9) (Sa (Gb 10) Gc))) Zg (b1 Bi (Aa (Ea 8) Qa))))
  (Ab (Lf 5 (Ea 6) (kD .non))
  (Dg (tR (b2 AG (Ga 7) (Bf (b1 Cf Qa)))) (Lf 5 (Ea 6) (b1 Se (Ga 8))) Out.nx)))))
def Zm:Ca->Out:=(Ab (Th 5)
  (Ab (Kf (Gb 6) Fd (b1 Qd (Ea 1)))
  (Gu 5 (Rb (Ga 5)))))
def Yc:List D->Res D:=Pg 11 Zm
def Tp:Ca->Out:=(Ab (Jc 2 (kD (.str "abcdefghijklmnopqrstuvwxyz")))
  (Ab (Jc 3 (b1 (Wa 2 Ma) (Aa (Ea 0) (Aa (kD (.int 0)) Qa))))
  (Rb (b2 Je (b2 Je (b2 Je (b2 AJ (kD (.str "x")) (b2 Kd (Ga 3) (kD (.int 4)))) (b2 Ki (Ga 2) (b2 Kd (Ga 1) (kD (.int 26))))) (b2 Ki (Ga 2) (b2 Kd (b2 Hk (Ga 1) (kD (.int 26))) (kD (.int 26))))) (b2 AJ (kD (.str "q")) (b2 Kd (b2 Hk (Ga 3) (kD (.int 4))) (kD (.int 5))))))))
def Kb:List D->Res D:=Pg 4 Tp
def Ef:Ca->Res D:=(b1 (Wa 2 Kb) (Aa (Ea 1) (Aa (Ea 0) Qa)))
def Wk:Ca->Res D:=(Ea 1)
def Ih:Ca->Res Bool:=(tR (b2 Aq (b2 Kd (b2 Hk (Ga 11) (b2 Je (kD (.int 3)) (b2 Vt (kD (.int 2)) (Ga 0)))) (kD (.int 3))) (kD (.int 0))))
def Xk:Ca->Res D:=(Ea 1)
def Jh:Ca->Res Bool:=(Pk (tR (b2 QY (Ga 1) (Ga 12))) (tR (b2 PY (Ga 0) (Ga 6))))
def Yk:Ca->Res D:=(Ea 1)
def Kh:Ca->Res Bool:=(Pk (tR (b2 Aq (Ga 0) (kD (.int 0)))) (tR (b2 PY (Ga 0) (Ga 6))))
def Dd:Ca->Out:=(Ab (Jc 9 (b2 Kd (b1 (Wa 2 Ma) (Aa (Ea 0) (Aa (b2 Je (kD (.int 4)) (Ga 8)) Qa))) (b2 NJ (kD (.int 10)) (kD (.int 60)))))
  (Ab (Jg 3 (Sh 10 (Fc 2 (Hc 2 (Sa (Gb 0) (Sa (Gb 1) Gc))) Ih Wk (b1 Bi (Aa (Ea 3) Qa)))))
  (Ab (Jc 11 (Bf (b3 M5 (Ga 10) Qm (b1 Os (b1 Yw (kD (.int 1)))))))
  (Ab (Dg (tR (b2 Aq (b2 Kd (Ga 9) (kD (.int 5))) (kD (.int 1)))) (Ab (Jc 11 (Bf (NZ QB (Ga 11) (Bf (b1 Cf (Aa (b1 (Wa 2 Kb) (Aa (Ea 0) (Aa (kD (.int 40)) Qa))) Qa))))))
  (Jg 3 (Sh 10 (Fc 2 (Hc 2 (Sa (Gb 0) (Sa (Gb 1) Gc))) Jh Xk (b1 Bi (Aa (Ea 3) Qa)))))) Out.nx)
  (Ab (Dg (Pk (tR (b2 Aq (Ga 11) (Bf (b1 Cf Qa)))) (tR (b2 Aq (b2 Kd (Ga 9) (kD (.int 5))) (kD (.int 2))))) (Ab (Jc 11 (Bf (b1 Cf (Aa (b1 (Wa 2 Kb) (Aa (Ea 0) (Aa (kD (.int 41)) Qa))) Qa))))
  (Jg 3 (Sh 10 (Fc 2 (Hc 2 (Sa (Gb 0) (Sa (Gb 1) Gc))) Kh Yk (b1 Bi (Aa (Ea 3) Qa)))))) Out.nx)
  (Ab (Xs 7 (b1 Qg (Aa (b1 (Wa 2 Kb) (Aa (Ea 0) (Aa (b2 Je (kD (.int 20)) (Ga 8)) Qa))) (Aa (Ea 11) Qa))))
  (Jg 10 (Xs 6 (Ea 10)))))))))
def On:Ca->Out:=(Ab (Sh 3 (Fc 1 (Gb 0) (λ_=>.ok true) Ef (b1 Fo (Aa (b2 Je (kD (.int 1)) (b2 Kd (b1 (Wa 2 Ma) (Aa (Ea 0) (Aa (kD (.int 1)) Qa))) (Ga 1))) Qa))))
  (Ab (Jc 4 (b2 Kd (b1 (Wa 2 Ma) (Aa (Ea 0) (Aa (kD (.int 2)) Qa))) (b1 Yj (Ga 3))))
  (Ab (Jc 5 (Bf (b1 Cf (Aa (b1 Qg (Aa (b1 (Wa 2 Kb) (Aa (Ea 0) (Aa (kD (.int 40)) Qa))) (Aa (Bf (b3 N6 (Ga 3) (b1 Os (Ea 4)) Qm)) Qa))) (Aa (b1 Qg (Aa (b1 (Wa 2 Kb) (Aa (Ea 0) (Aa (kD (.int 41)) Qa))) (Aa (Bf (b1 Cf (Aa (b1 (Wa 2 Kb) (Aa (Ea 0) (Aa (kD (.int 40)) Qa))) (Aa (b2 Ki (Ga 3) (kD (.int 0))) Qa)))) Qa))) Qa)))))
  (Ab (Sh 6 (b1 Cf Qa))
  (Ab (Sh 7 (b1 Cf Qa))
  (Ab (Kf (Gb 8) Dd (b1 Fo (Aa (b2 Je (kD (.int 1)) (b2 Kd (b1 (Wa 2 Ma) (Aa (Ea 0) (Aa (kD (.int 3)) Qa))) (Ga 2))) Qa)))
  (Jg 6 (Jg 7 (Jg 3 (Rb (b1 Qg (Aa (Ea 3) (Aa (Ea 5) (Aa (Ea 7) (Aa (Ea 6) Qa)))))))))))))))
def Ud:List D->Res D:=Pg 12 On
def Cg:Ca->Out:=(Ab (Jc 7 (b2 Je (b2 Kd (b2 Vt (Ga 7) (kD (.int 48271))) (kD (.int 1000000000000000003))) (Ga 9)))
  (Ab (Jc 10 (b1 YN (Aa (kD (.int 0)) (Aa (b2 UA (b2 Ki (Ga 8) (b1 Yw (kD (.int 1)))) (Ga 6)) Qa))))
  (Ab (Jc 11 (b1 ZI (Aa (b2 UA (Ga 4) (kD (.int 1))) (Aa (b2 Je (b2 Ki (Ga 8) (b1 Yw (kD (.int 1)))) (Ga 6)) Qa))))
  (Xs 8 (b2 Je (Ga 10) (b2 Kd (b2 Hk (Ga 7) (kD (.int 7))) (b2 Je (b2 UA (Ga 11) (Ga 10)) (kD (.int 1)))))))))
def Rp:Ca->Out:=(Ab (OD (Hc 4 (Sa (Gb 3) (Sa (Gb 4) (Sa (Gb 5) (Sa (Gb 6) Gc))))) (Ea 2))
  (Ab (Jc 7 (b2 Kd (b1 (Wa 2 Ma) (Aa (Ea 0) (Aa (Ea 1) Qa))) (b2 NJ (kD (.int 10)) (kD (.int 60)))))
  (Ab (Sh 8 (b1 Cf (Aa (b2 Kd (Ga 7) (Ga 4)) Qa)))
  (Ab (Kf (Gb 9) Cg (b1 LA (Aa (kD (.int 1)) (Aa (Ea 3) Qa))))
  (Rb (b1 Se (Ga 8)))))))
def Od:List D->Res D:=Pg 12 Rp
def Le:Ca->Out:=(Ab (Lf 3 (b2 Ki (Ga 5) (kD (.int 0))) (b1 (Wa 3 Od) (Aa (Ea 0) (Aa (b2 Je (kD (.int 20)) (Ga 4)) (Aa (Ea 1) Qa)))))
  (Dg (Um (tR (b2 LF (Ga 4) (kD (.int 0)))) (tR (b2 Aq (b2 Kd (b1 (Wa 2 Ma) (Aa (Ea 0) (Aa (b2 Je (kD (.int 30)) (Ga 4)) Qa))) (kD (.int 4))) (kD (.int 0))))) (Lf 3 (b2 Ki (Ga 5) (kD (.int 0))) (KH Zh (Rc 3) (b2 Ki (b2 Ki (Ga 2) (b2 Kd (b2 Hk (b1 (Wa 2 Ma) (Aa (Ea 0) (Aa (b2 Je (kD (.int 30)) (Ga 4)) Qa))) (kD (.int 4))) (Ga 4))) (kD (.int 0))))) Out.nx))
def Vp:Ca->Out:=(Ab (Th 3)
  (Ab (Kf (Hc 2 (Sa (Gb 4) (Sa (Gb 5) Gc))) Le (b1 Bi (Aa (Ea 2) Qa)))
  (Gu 3 (Rb (Ga 3)))))
def Te:List D->Res D:=Pg 6 Vp
def Nj:Ca->Out:=(Ab (Jc 1 (b2 Je (kD (.int 2)) (b2 Kd (b1 (Wa 2 Ma) (Aa (Ea 0) (Aa (kD (.int 15)) Qa))) (kD (.int 19)))))
  (Ab (Jc 2 (b2 Je (kD (.int 1)) (b2 Kd (b1 (Wa 2 Ma) (Aa (Ea 0) (Aa (kD (.int 16)) Qa))) (Ga 1))))
  (Ab (Dg (tR (b2 Aq (b2 Kd (b2 Hk (b1 (Wa 2 Ma) (Aa (Ea 0) (Aa (kD (.int 16)) Qa))) (kD (.int 20))) (kD (.int 2))) (kD (.int 0)))) (Jc 2 (b1 ZI (Aa (Ea 1) (Aa (b2 Je (kD (.int 2)) (b2 Kd (b1 (Wa 2 Ma) (Aa (Ea 0) (Aa (kD (.int 16)) Qa))) (kD (.int 3)))) Qa)))) Out.nx)
  (Rb (b1 Qg (Aa (b2 Je (kD (.int 1)) (b2 Kd (b1 (Wa 2 Ma) (Aa (Ea 0) (Aa (kD (.int 17)) Qa))) (kD (.int 24)))) (Aa (Ea 1) (Aa (Ea 2) (Aa (b2 Je (kD (.int 1)) (b2 Kd (b1 (Wa 2 Ma) (Aa (Ea 0) (Aa (kD (.int 18)) Qa))) (b2 UA (Ga 1) (kD (.int 1))))) Qa)))))))))
def Gd:List D->Res D:=Pg 3 Nj
def Cw:Ca->Out:=(Rb (b2 Ki (Ga 0) (kD (.int 2))))
def Hf:List D->Res D:=Pg 1 Cw
def Jy:Ca->Out:=(Rb (b2 Ki (Ga 0) (kD (.int 0))))
def Ig:List D->Res D:=Pg 1 Jy
def Tj:Ca->Res D:=(b2 Ki (Ga 0) (Ga 4))
def Ah:Ca->Out:=(Ab (Vh (Jc 4 (b1 Se (Bf (b1 Uv (Bf (Fc 1 (Gb 0) (λ_=>.ok true) Tj (b1 Qd (Ea 1)))))))))
  (Ab (Dg (GV (tR (b2 LF (b1 Yj (Ga 4)) (b1 (Wa 1 Hf) (Aa (Ea 0) Qa))))) (Qx "TooHigh" [("place",true)] (Nf (Aa (Ea 3) Qa))) Out.nx)
  (Vh (Xs 2 (Ea 4)))))
def An:Ca->Out:=(Ab (Vh (Sh 2 (b1 Cf Qa)))
  (Ab (Kf (Gb 3) Ah (Nf (b1 Fo (Aa (b1 (Wa 1 Ig) (Aa (Ea 0) Qa)) Qa))))
  (Vh (Rb (b1 Se (Ga 2))))))
def Pc:List D->Res D:=Ip 5 An
def Tg:Ca->Out:=(Ab (Vh (Dg (tR (b2 Aq (b1 Yj (Ga 2)) (kD (.int 0)))) (Rb (kD .non)) Out.nx))
  (Hu ["TooHigh"] (AE (Aa (Ea 0) (Aa (Ea 2) Qa)) 2 Pc []) (λd _=>.rt d) Out.nx (P7 3 "Steep" [("door",false),("place",true)] (Aa (Ea 1) (Aa (b1 (Uy ["Steep","TooHigh"] "place") (Ea 3)) Qa)))))
def Xb:List D->Res D:=Ip 4 Tg
def Md:Ca->Res D:=(KH Zh (Rc 3) (Ga 0))
def Ld:Ca->Res Bool:=(tR (LH Rw (Ga 0) (Rc 3)))
def Nd:Ca->Out:=(Lf 3 (λδ=>noex ((Ea 4) δ)) (b1 (Kc 3 Xb) (Nf (Aa (Ea 0) (Aa (Ea 4) (Aa (Bf (Fc 1 (Gb 0) Ld Md (b1 Qd (Ea 5)))) Qa))))))
def Oj:Ca->Out:=(Ab (Vh (Th 3))
  (Ab (Kf (Hc 2 (Sa (Gb 4) (Sa (Gb 5) Gc))) Nd (Nf (KB Hn (Ea 1))))
  (Vh (Gu 3 (Rb (Ga 3))))))
def Zb:List D->Res D:=Ip 6 Oj
def Hi:Ca->Out:=(Ab (Vh (Th 3))
  (Ab (Kf (Hc 2 (Sa (Gb 4) (Sa (Gb 5) Gc))) Nd (Nf (KB Hn (Ea 1))))
  (LG 3)))
def Ac:List D->Res D:=Ip 6 Hi
def Td:Ca->Out:=(Ab (Tv 5 4)
  (Dg (tR (LH Nv (Ga 5) (Rc 3))) (Ab (Lf 3 (Ea 5) (kD (.bl true)))
  (MA 4 (MH (Rc 2) (Aa (Ea 5) (Aa (Bf (b1 Cf Qa)) Qa))))) Out.nx))
def Sd:Ca->Res Bool:=(tR (b2 LF (b1 Yj (Ga 4)) (kD (.int 0))))
def Sj:Ca->Res D:=(Ea 0)
def Vg:Ca->Res Bool:=(tR (LH Rw (Ga 0) (Rc 4)))
def Br:Ca->Out:=(Ab (Jc 2 (b1 Mg (Bf (NZ QB (b1 (Si "House" "wings") (Ea 0)) (b1 (Si "House" "grants") (Ea 0))))))
  (Ab (Th 3)
  (Ab (Sh 4 (b1 Cf (Aa (Ea 1) Qa)))
  (Ab (QD 100000 Sd Td)
  (Gu 3 (Rb (Bf (Fc 1 (Gb 0) Vg Sj (b1 Qd (b1 (Si "House" "doors") (Ea 0)))))))))))
def Qf:List D->Res D:=Pg 6 Br
def Uj:Ca->Res D:=(Ea 0)
def Cr:Ca->Out:=(Rb (Bf (Fc 2 (Hc 2 (Sa (Gb 0) (Sa (Gb 1) Gc))) (λ_=>.ok true) Uj (b1 Qd (Ea 0)))))
def Rf:List D->Res D:=Pg 1 Cr
def Yg:Ca->Res D:=(b1 Qg (Aa (Ea 0) (Aa (b1 (Wa 2 Qf) (Aa (Ea 1) (Aa (Ea 0) Qa))) Qa)))
def Dr:Ca->Out:=(Rb (b1 Mg (Bf (Fc 1 (Gb 0) (λ_=>.ok true) Yg (b1 Qd (b1 (Wa 1 Rf) (Aa (b1 (Si "House" "grants") (Ea 0)) Qa)))))))
def Sf:List D->Res D:=Pg 1 Dr
def Zk:Ca->Res D:=(Ea 0)
def Yh:Ca->Res Bool:=(tR (b2 QY (Ga 2) (Ga 1)))
def Ai:Ca->Res D:=(b1 Qg (Aa (Ea 0) (Aa (Bf (Fc 2 (Hc 2 (Sa (Gb 0) (Sa (Gb 1) Gc))) Yh Zk (KB Hn (Ea 2)))) Qa)))
def Lu:Ca->Out:=(Ab (Jc 1 (b1 (Wa 1 Sf) (Aa (Ea 0) Qa)))
  (Rb (b1 Mg (Bf (Fc 1 (Gb 0) (λ_=>.ok true) Ai (b1 Qd (b1 (Si "House" "doors") (Ea 0))))))))
def Ue:List D->Res D:=Pg 2 Lu
def Rn:Ca->Out:=(Rb (b1 (Kc 3 Zb) (Nf (Aa (b1 (Si "House" "rules") (Ea 0)) (Aa (b1 (Wa 1 Ue) (Aa (Ea 0) Qa)) (Aa (Ea 1) Qa))))))
def Sb:List D->Res D:=Ip 2 Rn
def Lm:Ca->Out:=(Rb (b1 (Kc 3 Ac) (Nf (Aa (b1 (Si "House" "rules") (Ea 0)) (Aa (b1 (Wa 1 Ue) (Aa (Ea 0) Qa)) (Aa (Ea 1) Qa))))))
def Mc:List D->Res D:=Ip 2 Lm
def Dl:Ca->Out:=(Jc 2 (Ea 3))
def Pn:Ca->Out:=(Ab (Jc 2 (kD .non))
  (Ab (Hu ["Steep"] (AE (Aa (Ea 0) (Aa (Ea 1) Qa)) 2 Sb []) (λ_ δ=>.nx δ) Out.nx (LM 3 Dl))
  (Ab (Dg (Pk (Gi (tR (b1 (Om [("Steep",true),("TooHigh",false)]) (Ga 2)))) (Gi (tR (b1 (Om [("Steep",true),("TooHigh",true)]) (Ga 2))))) (Rb (kD .non)) Out.nx)
  (Ab (Dg (Pk (tR (b1 (Om [("Steep",false),("TooHigh",true)]) (Ga 2))) (tR (b1 (Im "bool") (b1 (Uy ["Steep","TooHigh"] "place") (Ea 2))))) (Rb (kD .non)) Out.nx)
  (Rb (b1 Qg (Aa (b1 (Uy ["Steep"] "door") (Ea 2)) (Aa (b1 (Uy ["Steep","TooHigh"] "place") (Ea 2)) Qa))))))))
def Uc:List D->Res D:=Pg 4 Pn
def Nh:Ca->Out:=(Dg (Pk (Gi (tR (b1 (Im "int") (Ga 2)))) (tR (b1 (Im "bool") (Ga 2)))) (Rb (kD (.bl false))) Out.nx)
def Oh:Ca->Out:=(Ab (Dg (Gi (tR (b1 (Im "tuple") (Ga 1)))) (Rb (kD (.bl false))) Out.nx)
  (Kf (Gb 2) Nh (b1 Qd (Ea 1))))
def Qn:Ca->Out:=(Ab (Dg (Gi (tR (b1 (Im "tuple") (Ga 0)))) (Rb (kD (.bl false))) Out.nx)
  (Ab (Kf (Gb 1) Oh (b1 Qd (Ea 0)))
  (Rb (kD (.bl true)))))
def Vd:List D->Res D:=Pg 3 Qn
def Vw:Ca->Out:=(Dg (Um (tR (b1 Js (KH Zh (Rc 10) (Ga 11)))) (Gi (tR (b1 (Wa 1 Vd) (Aa (KH Zh (Rc 10) (Ga 11)) Qa))))) (Rb (kD (.bl false))) Out.nx)
def NK:Ca->Out:=(Ab (Jc 1 (b1 (Wa 1 Gd) (Aa (Ea 0) Qa)))
  (Ab (OD (Hc 4 (Sa (Gb 2) (Sa (Gb 3) (Sa (Gb 4) (Sa (Gb 5) Gc))))) (b1 (Wa 3 Ud) (Aa (Ea 0) (Aa (kD (.int 8)) (Aa (kD (.int 9)) Qa)))))
  (Ab (Jc 6 (b1 (Wa 4 (As 4 "House" Hg)) (Aa (Ea 1) (Aa (Bf (b1 Qd (Ga 2))) (Aa (Bf (b1 Qd (Ga 3))) (Aa (Bf (b1 Qd (Ga 4))) Qa))))))
  (Ab (Jc 7 (b1 (Wa 3 Te) (Aa (Ea 0) (Aa (Ea 1) (Aa (Ea 4) Qa)))))
  (Ab (Jc 8 (b1 (Wa 5 Yc) (Aa (Ea 1) (Aa (Ea 2) (Aa (Ea 4) (Aa (Ea 5) (Aa (Ea 7) Qa)))))))
  (Ab (Jc 9 (b1 Hw (Ga 7)))
  (Ab (Dg (tR (b2 Aq (b2 Kd (b1 (Wa 2 Ma) (Aa (Ea 0) (Aa (kD (.int 19)) Qa))) (kD (.int 2))) (kD (.int 1)))) (Jc 9 (b1 Mg (Bf (b3 M5 (Bf (KB Tr (Ea 7))) Qm (b1 Os (b1 Yw (kD (.int 1)))))))) Out.nx)
  (Ab (Dg (tR (b1 (Im "tuple") (Ga 8))) (Rb (X5 (b2 Aq (b1 (Wa 2 Uc) (Aa (Ea 6) (Aa (Ea 9) Qa))) (Ga 8)) (b2 YB (Ga 9) (Ga 7)))) Out.nx)
  (Ab (PD 10 (b1 (Kc 2 Mc) (Aa (Ea 6) (Aa (Ea 9) Qa))))
  (Ab (Dg (Pk (Gi (tR (isQ (Rc 10)))) (Pk (tR (b2 AG (Bf (ksT (Rc 10))) (Ga 2))) (Pk (tR (K6 WC (Rc 10) (Rc 8))) (tR (b2 BJ (Ga 9) (Ga 7)))))) (Rb (kD (.bl false))) Out.nx)
  (Ab (Kf (Gb 11) Vw (b1 Qd (Ea 2)))
  (Ab (Lf 10 (b2 Ki (Ga 2) (kD (.int 0))) (kD (.int 5)))
  (Rb (b2 YB (b1 (Wa 2 Sb) (Aa (Ea 6) (Aa (Ea 9) Qa))) (Ga 8)))))))))))))))
def TF:List D->Res D:=Pg 12 NK
local macro_rules| `(tactic| walk_at "s")=> `(tactic| simp only[FX,Ob,map_cons,map_nil,List.length_cons,length_nil,cons_append,nil_append,reduceAdd,reduceSub,replicate])
abbrev sd(x:D):Option S:=some (.d x)
abbrev sQ(l:List (Cb×D)):Option S:=some (.q (l.map (·.1)) (l.map (·.2)))
def pD(p:List Int):D:=.tup (p.map D.int)
def bD(B:List (List Int)):D:=.tup (B.map pD)
theorem Hz:∀ (ns:List Int),Cn (ns.map D.int)=some ns
 | []=>rfl
 |n::ns=>by show(Cn (ns.map D.int)).map (n:: ·)=_;rw[Hz ns];rfl
theorem VG(ns:List Int)(h:ns.length<64):Uv (.lst (ns.map D.int))=.ok ((Qb ns).map D.int):=by
 unfold Uv;dsimp only;rw[Hz];dsimp only;rw[if_pos h]
variable{n:Nat}
theorem KR(h:n<=1000):n<=sizeLine:=le_trans h PF
theorem JB(x y:Str)(h:x.length+y.length<=1000):Je (.str x) (.str y)=.ok (.str (x++y)):=if_pos (KR h)
theorem Sl(x y:Str):(x++y).length=x.length+y.length:=size_append ..
theorem Tf(i j:Int)(h:0<j):Kd (.int i) (.int j)=.ok (.int (i%j)):=by rw[WU,if_pos h]
theorem AI(i j:Int)(h:0<j)(h2:j<1073741824):Hk (.int i) (.int j)=.ok (.int (i / j)):=by rw[ZL,if_pos ⟨h,h2⟩]
theorem UC(i j:Int)(h: -18446744073709551616<j/\j<18446744073709551616):Vt (.int i) (.int j)=.ok (.int (i*j)):=by rw[ZU];exact if_pos (.inr h)
theorem Tn(ns:List Int)(k:Int)(h0:0<=k)(h1:k<=1000):∃ v,Wa 2 Ma [.lst (ns.map D.int),.int k]=.ok (.int v):=by
 by_cases h:k<(ns.length:Int)
 .obtain⟨d,e,hd⟩:=LK (xs:=ns.map D.int) (i:=k) h0 (by rw[length_map];exact h)
  obtain⟨v,_,rfl⟩:=mem_map.mp hd
  have e':=Yr _ _ _ e
  have dt:decide (k<((ns.map D.int).length:Int))=true:=decide_eq_true (by rw[length_map];exact h)
  refine⟨v,Vb _ _ _ _ ?_ rfl⟩
  clear h
  generalize ns.map D.int=ds at*
  unfold Ma Xh
  walk_at "s"
  simp only[tR,b1,b2,Ab,Dg,Rb,Oa,Ua,Res.bind_ok,Dp,SC,dt,Za,Ub,if_true,reduceIte,e',Hb,Fi,Ec]
 .have dt:decide (k<((ns.map D.int).length:Int))=false:=decide_eq_false (by rw[length_map];exact h)
  have x1:=UC k 48271 (by decide)
  have x2:=UC k 7 (by decide)
  by_cases hn:0<(ns.length:Int)
  .have dn:decide (0<((ns.map D.int).length:Int))=true:=decide_eq_true (by rw[length_map];exact hn)
   have m1:=Tf (k*7) ((ns.map D.int).length:Int) (by rw[length_map];exact hn)
   obtain⟨d,e,hd⟩:=LK (xs:=ns.map D.int) (i:=k*7%((ns.map D.int).length:Int)) (emod_nonneg _ (by rw[length_map];omega)) (emod_lt_of_pos _ (by rw[length_map];exact hn))
   obtain⟨v,_,rfl⟩:=mem_map.mp hd
   have e':=Yr _ _ _ e
   have m2:=Tf v 2147483647 (by decide)
   have b0:=emod_nonneg v (show(2147483647:Int)≠0 by decide)
   have b1':=emod_lt_of_pos v (show(0:Int)<2147483647 by decide)
   generalize v%2147483647=r at*
   have x3:=UC r 69621 (by decide)
   have x4:=UC (k*48271+11+r*69621) (k*48271+11+r*69621) (by omega)
   have m3:=Tf ((k*48271+11+r*69621)*(k*48271+11+r*69621)) 2147483629 (by decide)
   refine⟨(k*48271+11+r*69621)*(k*48271+11+r*69621)%2147483629,Vb _ _ _ _ ?_ rfl⟩
   clear h hn b0 b1' hd e
   generalize ns.map D.int=ds at*
   unfold Ma Xh
   walk_at "s"
   simp only[tR,kD,b1,b2,Ab,Dg,Jc,Rb,Oa,Ua,Res.bind_ok,Dp,SC,Wo,dt,dn,Za,Ub,if_true,if_false,false_eq_true,reduceIte,Jd,x1,x2,m1,e',m2,x3,x4,m3,Hb,Bb,Fi,Ec,set_cons_zero,set_cons_succ]
  .have dn:decide (0<((ns.map D.int).length:Int))=false:=decide_eq_false (by rw[length_map];exact hn)
   have x4:=UC (k*48271+11) (k*48271+11) (by omega)
   have m3:=Tf ((k*48271+11)*(k*48271+11)) 2147483629 (by decide)
   refine⟨(k*48271+11)*(k*48271+11)%2147483629,Vb _ _ _ _ ?_ rfl⟩
   clear h hn
   generalize ns.map D.int=ds at*
   unfold Ma Xh
   walk_at "s"
   simp only[tR,kD,b1,b2,Ab,Dg,Jc,Rb,Oa,Ua,Res.bind_ok,Dp,SC,Wo,dt,dn,Za,Ub,if_true,if_false,false_eq_true,reduceIte,Jd,x1,x4,m3,Hb,Bb,Ec,set_cons_zero,set_cons_succ]
def W6:Str:="abcdefghijklmnopqrstuvwxyz"
theorem JK:∀ k:Nat,k<26->Ki (.str W6) (.int (k:Int))=.ok (.str ⟨#[97+k]⟩):=by
 intro k hk
 have:∀ k:Nat,k<26->Ar W6.cps.toList (k:Int)=some (97+k):=by decide +kernel
 show(@ite (Res D) (W6.length<=sizeLine) (propDecidable _) (match Ar W6.cps.toList (k:Int) with|some c=>Res.ok (D.str ⟨#[c]⟩)|none=>.stuck) .stuck)=_
 rw[if_pos (KR (by decide)),this k hk]
def nm(X Q:Str)(k:Nat):Str:=X++⟨#[97+k%26]⟩++⟨#[97+k / 26%26]⟩++Q
variable{X Q:Str}{j k:Nat}
theorem Il(hj:j<600)(hk:k<600)(h:nm X Q j=nm X Q k):j=k:=by
 have h2:=congrArg (λs:Str=>s.cps.toList) h
 simp only[nm,Str.cps_append,Array.toList_append,append_assoc,List.append_cancel_left_eq]at h2
 simp only[cons_append,nil_append,List.cons.injEq]at h2
 omega
theorem EO(x:Str)(n:Int)(h:n<=10)(hx:x.length=1):(PySem.Txt.mul x n).length<=10:=by
 unfold PySem.Txt.mul
 split
 .decide
 .split
  .omega
  .show((replicate n.toNat x.cps).foldl (· ++ ·) #[]).size<=10
   have f:∀ (k:Nat) (b:Array Nat),((replicate k x.cps).foldl (· ++ ·) b).size=b.size+k*x.cps.size:=by
    intro k
    induction k with
    |zero=>intro b;simp
    |succ k ih=>intro b;rw[replicate_succ,foldl_cons,ih,size_append,Nat.succ_mul];omega
   rw[f,show x.cps.size=1 from hx]
   simp
   omega
def FJ(x:Str):Prop:=∀ c∈x.cps.toList,c<1114112
theorem ZF(x:Str)(n:Int)(hx:FJ x):FJ (PySem.Txt.mul x n):=by
 have f:∀ (k:Nat) (b:Array Nat),(∀ c∈b.toList,c<1114112)->∀ c∈((replicate k x.cps).foldl (· ++ ·) b).toList,c<1114112:=by
  intro k
  induction k with
  |zero=>intro b hb;exact hb
  |succ k ih=>
   intro b hb
   rw[replicate_succ,foldl_cons]
   refine ih _ λc hc=>?_
   rw[Array.toList_append]at hc
   exact(mem_append.mp hc).elim (hb c) (hx c)
 unfold PySem.Txt.mul
 split
 .intro c hc;exact absurd hc (by show ¬ c∈([]:List Nat);simp)
 .split
  .exact hx
  .exact f n.toNat #[] λc hc=>absurd hc (by simp)
theorem E3(hx:FJ X)(hq:FJ Q)(k:Nat):FJ (nm X Q k):=λc hc=>by
 simp only[nm,Str.cps_append,Array.toList_append,mem_append]at hc
 rcases hc with((hc|hc)|hc)|hc
 .exact hx c hc
 .have:c=97+k%26:=by simpa using hc
  omega
 .have:c=97+k / 26%26:=by simpa using hc
  omega
 .exact hq c hc
theorem AV(ns:List Int):∃ X Q:Str,(X.length<=10/\Q.length<=10/\FJ X/\FJ Q)/\∀ k:Nat,k<600->Wa 2 Kb [.lst (ns.map D.int),.int (k:Int)]=.ok (.str (nm X Q k)):=by
 obtain⟨p,e0⟩:=Tn ns 0 (by decide) (by decide)
 have m1:=Tf p 4 (by decide)
 have a1:=emod_nonneg p (show(4:Int)≠0 by decide)
 have a2:=emod_lt_of_pos p (show(0:Int)<4 by decide)
 have d1:=AI p 4 (by decide) (by decide)
 have m2:=Tf (p / 4) 5 (by decide)
 have a3:=emod_nonneg (p / 4) (show(5:Int)≠0 by decide)
 have a4:=emod_lt_of_pos (p / 4) (show(0:Int)<5 by decide)
 generalize p%4=q1 at*
 generalize p / 4%5=q2 at*
 have s1:AJ (.str "x") (.int q1)=.ok (.str (PySem.Txt.mul "x" q1)):=if_pos ⟨a1,by omega,by decide⟩
 have s2:AJ (.str "q") (.int q2)=.ok (.str (PySem.Txt.mul "q" q2)):=if_pos ⟨a3,by omega,by decide⟩
 have l1:=EO "x" q1 (by omega) rfl
 have l2:=EO "q" q2 (by omega) rfl
 have o1:=ZF "x" q1 (by unfold FJ;decide)
 have o2:=ZF "q" q2 (by unfold FJ;decide)
 generalize PySem.Txt.mul "x" q1=X at*
 generalize PySem.Txt.mul "q" q2=Q at*
 refine⟨X,Q,⟨l1,l2,o1,o2⟩,λk hk=>?_⟩
 have m3:=Tf (k:Int) 26 (by decide)
 have d3:=AI (k:Int) 26 (by decide) (by decide)
 have m4:=Tf ((k:Int) / 26) 26 (by decide)
 have t1:=JK (k%26) (by omega)
 have t2:=JK (k / 26%26) (by omega)
 rw[show((k%26:Nat):Int)=(k:Int)%26 by omega]at t1
 rw[show((k / 26%26:Nat):Int)=(k:Int) / 26%26 by omega]at t2
 have g1:=JB X ⟨#[97+k%26]⟩ (by show X.length+1<=1000;omega)
 have g2:=JB (X++⟨#[97+k%26]⟩) ⟨#[97+k / 26%26]⟩ (by rw[Sl];show X.length+1+1<=1000;omega)
 have g3:=JB (X++⟨#[97+k%26]⟩++⟨#[97+k / 26%26]⟩) Q (by rw[Sl,Sl];show X.length+1+1+Q.length<=1000;omega)
 refine Vb _ _ _ _ ?_ rfl
 unfold nm
 clear hk l1 l2 a1 a2 a3 a4
 generalize (k:Int)%26=r1 at*
 generalize (k:Int) / 26%26=r2 at*
 unfold W6 at*
 unfold Kb Tp
 walk_at "s"
 simp only[kD,b1,b2,Aa,Qa,Ra,Ab,Jc,Rb,Ta,Ya,Oa,Ua,Res.bind_ok,e0,m1,d1,m2,s1,s2,m3,d3,m4,t1,t2,g1,g2,g3,Hb,Bb,Ec,set_cons_zero,set_cons_succ]
abbrev Kn(p d h s:Int):D:=.tup [.int p,.int d,.int h,.int s]
def cD(C:List (List Int)):D:=.lst (C.map pD)
def alF(i:Nat)(c:Int):Nat->List (List Int)->List Int
 |_,[]=> []
 |k,q::C=>if(q.getD i 0==c)=true then(k:Int)::alF i c (k+1) C else alF i c (k+1) C
def al(C:List (List Int))(one:List Int)(i:Nat):List Int:=alF i (one.getD i 0) 0 C
theorem F8(cs:List Int)(i:Nat)(h:i<cs.length):Ki (pD cs) (.int (i:Int))=.ok (.int (cs.getD i 0)):=by
 refine V7 _ _ _ (Ul (by omega) ?_)
 rw[show((i:Int)).toNat=i by omega,getElem?_map,getElem?_eq_getElem h,getD_eq_getElem?_getD,getElem?_eq_getElem h]
 rfl
theorem W8(ds:List D)(lo hi:Option Int):N6 (.lst ds) lo hi=.ok (L3.cutD ds lo hi):=rfl
theorem YK(xs ys:List D)(h:xs.length+ys.length<=1000):QB (.lst xs) (.lst ys)=.ok (xs++ys):=if_pos (le_trans h PF)
def GB(p:Str×List Str):D:=.tup [.str p.1,.lst (p.2.map D.str)]
theorem UE{fe:Ca->Res D}(f:Str×List Str->D)(δ:Ca):∀ (ps:List (Str×List Str)) (x y:Option S),(∀ p∈ps,fe (sd (.str p.1)::sd (.lst (p.2.map D.str))::δ)=.ok (f p))->
  Ke (Hc 2 (Sa (Gb 0) (Sa (Gb 1) Gc))) (λ_=>.ok true) fe (ps.map GB) (x::y::δ)=.ok (ps.map f)
 | [],_,_,_=>rfl
 |p::ps,x,y,h=>by
  rw[map_cons,Pj (δ':=sd (.str p.1)::sd (.lst (p.2.map D.str))::δ) _ _ _ _ rfl]
  simp only[Bc,Res.bind_ok,if_true,h p mem_cons_self,UE f δ ps _ _ (λq hq=>h q (mem_cons_of_mem _ hq)),map_cons]
theorem Su(ps:List (Str×List Str))(hl:ps.length<=1000):Wa 1 Ph [.lst (ps.map GB)]=.ok (.lst (ps.map GB)):=by
 have c:=Hd (n:=2) (c:=λ_=>.ok true) (fe:=Rj) (δ:= [sd (.lst (ps.map GB))]) (UE (fe:=Rj) GB [sd (.lst (ps.map GB))] ps none none (λp _=>by
  unfold Rj GB
  simp only[b1,Bf,Qg,Aa,Qa,Ra,Ta,Ya,Oa,Ua,Res.bind_ok,Bt,List.length_cons,length_nil,reduceAdd,reduceLeDiff,if_true,reduceIte])) (by rw[length_map];omega)
 refine Vb _ _ _ _ ?_ rfl
 generalize ps.map GB=P at*
 unfold Ph Iy
 walk_at "s"
 simp only[b1,Bf,Fc,Rb,Ta,Res.bind_ok,Hb,Bt,c,Ec]
abbrev G6(R A B C:D):D:=.obj "House" ["rules","doors","wings","grants"] [R,A,B,C]
theorem SU(R:D)(ds:List D)(ps qs:List (Str×List Str))(hp:ps.length<=1000)(hq:qs.length<=1000):Wa 4 (As 4 "House" Hg) [R,.lst ds,.lst (ps.map GB),.lst (qs.map GB)]=.ok (G6 R (.lst ds) (.lst (ps.map GB)) (.lst (qs.map GB))):=by
 have e1:=Su ps hp
 have e2:=Su qs hq
 refine Vb _ _ _ _ ?_ rfl
 generalize ps.map GB=P at*
 generalize qs.map GB=Q at*
 unfold As Hg
 simp only[Nm,Ob,map_cons,map_nil,List.length_cons,length_nil,cons_append,nil_append,reduceAdd,reduceSub,replicate,b1,Bf,Aa,Qa,Ra,Ta,Ya,Oa,Ua,Res.bind_ok,Bt,e1,e2]
theorem J7(R A B C:D):Si "House" "rules" (G6 R A B C)=.ok R:=rfl
theorem K7(R A B C:D):Si "House" "doors" (G6 R A B C)=.ok A:=rfl
theorem Cb0(R A B C:D):Si "House" "wings" (G6 R A B C)=.ok B:=rfl
theorem L7(R A B C:D):Si "House" "grants" (G6 R A B C)=.ok C:=rfl
theorem Jn:∀ xs:List Str,Kp (xs.map D.str)=some xs
 | []=>rfl
 |x::xs=>by show(Kp (xs.map D.str)).map (x:: ·)=_;rw[Jn xs];rfl
theorem Tz:∀ (l acc:List (Cb×D)),((acc++l).map (·.1)).Nodup->l.foldl (λa p=>Re a p.1 p.2) acc=acc++l
 | [],acc,_=>by rw[List.foldl_nil,append_nil]
 |p::l,acc,h=>by
  have h1:Nq acc p.1=false:=by
   cases hh:Nq acc p.1 with
   |false=>rfl
   |true=>
    unfold Nq at hh
    obtain⟨q,hq,e⟩:=List.any_eq_true.mp hh
    rw[map_append,map_cons,List.nodup_append]at h
    exact absurd (of_decide_eq_true e) (h.2.2 q.1 (mem_map_of_mem hq) p.1 mem_cons_self)
  have h2:Re acc p.1 p.2=acc++ [p]:=by
   unfold Re
   rw[h1];rfl
  rw[foldl_cons,h2,Tz l (acc++ [p]) (by rw[append_assoc];exact h),append_assoc]
  rfl
theorem AO(l:List (Cb×D))(h:(l.map (·.1)).Nodup):Og l=l:=(Tz l [] h).trans (nil_append l)
def tK(ks:List Nat)(f:Nat->Str)(g:Nat->D):List (Cb×D):=ks.map λk=>(.inr (f k),g k)
def Of(ks:List Nat)(f:Nat->Str):Prop:=∀ a∈ks,∀ b∈ks,f a=f b->a=b
variable{f:Nat->Str}{g:Nat->D}
theorem Ht{ks:List Nat}(hi:Of ks f)(hn:ks.Nodup):((tK ks f g).map (·.1)).Nodup:=by
 unfold tK
 rw[map_map]
 refine Pairwise.map _ (R:=λa b=>a∈ks/\b∈ks/\a≠b) (λa b h z=>h.2.2 (hi a h.1 b h.2.1 (Sum.inr.inj z))) ?_
 exact Pairwise.imp_of_mem (λha hb h=>⟨ha,hb,h⟩) hn
theorem Ft{f:Nat->Str}{g:Nat->D}:∀ {ks:List Nat},Of ks f->∀ {k:Nat},k∈ks->Cc (tK ks f g) (.inr (f k))=some (g k)
 | [],_,_,h=>by simp at h
 |a::ks,hi,k,h=>by
  show Cc ((Sum.inr (f a),g a)::tK ks f g) (.inr (f k))=_
  by_cases e:f a=f k
  .have:a=k:=hi a mem_cons_self k h e
   subst this
   exact Lg rfl
  .rw[Mf (λz=>e (Sum.inr.inj z))]
   rcases mem_cons.mp h with rfl|h
   .exact absurd rfl e
   .exact Ft (λa ha b hb=>hi a (mem_cons_of_mem _ ha) b (mem_cons_of_mem _ hb)) h
theorem Yq{f:Nat->Str}{g:Nat->D}{x:Str}:∀ {ks:List Nat},(∀ k∈ks,f k≠x)->Cc (tK ks f g) (.inr x)=none
 | [],_=>rfl
 |a::ks,h=>by
  show Cc ((Sum.inr (f a),g a)::tK ks f g) (.inr x)=_
  rw[Mf (λz=>h a mem_cons_self (Sum.inr.inj z))]
  exact Yq λk hk=>h k (mem_cons_of_mem _ hk)
def dK(l:List (Cb×D)):D:=.dct (l.map (·.1)) (l.map (·.2))
theorem Ii(l:List (Cb×D)):(l.map (·.1)).zip (l.map (·.2))=l:=by
 rw[List.zip_map']
 exact List.map_id _
theorem Ls(f:Nat->Str)(g:Nat->D):∀ ks:List Nat,Cj (ks.map λk=>D.tup [.str (f k),g k])=some (tK ks f g)
 | []=>rfl
 |k::ks=>by
  rw[map_cons]
  show(match Pz (.str (f k)),Cj (ks.map λk=>D.tup [.str (f k),g k]) with
   |some kk,some l=>some ((kk,g k)::l)
   |_,_=>none)=_
  rw[Ls f g ks];rfl
theorem Sq{ks:List Nat}(hi:Of ks f)(hn:ks.Nodup):Mg (.lst (ks.map λk=>D.tup [.str (f k),g k]))=.ok (dK (tK ks f g)):=by
 unfold Mg
 dsimp only
 rw[Ls]
 dsimp only
 rw[AO _ (Ht hi hn)];rfl
theorem Ms(f:Nat->Str)(g:Nat->D)(ks:List Nat):Hn (dK (tK ks f g))=.ok (ks.map λk=>D.tup [.str (f k),g k]):=by
 show Res.ok ((((tK ks f g).map (·.1)).zip ((tK ks f g).map (·.2))).map λp=>D.tup [Ik p.1,p.2])=_
 rw[Ii]
 unfold tK
 rw[map_map];rfl
theorem Ct(l:List (Cb×D))(r:Ca):Rc 0 (sd (dK l)::r)=.ok l:=by
 show Res.ok ((l.map (·.1)).zip (l.map (·.2)))=_
 rw[Ii]
theorem Lo(n:Nat)(a:Option S)(r:Ca):Rc (n+1) (a::r)=Rc n r:=by simp[Rc]
theorem U7{ks:List Nat}(hi:Of ks f)(h:k∈ks):Rw (.str (f k)) (tK ks f g)=.ok (.bl true):=by
 show Res.ok (D.bl (Cc (tK ks f g) (.inr (f k))).isSome)=_
 rw[Ft hi h];rfl
theorem FC{ks:List Nat}(hi:Of ks f)(h:k∈ks):Zh (tK ks f g) (.str (f k))=.ok (g k):=by
 show(match Cc (tK ks f g) (.inr (f k)) with|some d=>Res.ok d|none=>.stuck)=_
 rw[Ft hi h]
def sL(ks:List Nat)(f:Nat->Str):D:=.lst (ks.map λk=>D.str (f k))
theorem YM{f:Nat->Str}{U:List Nat}(hi:Of U f):∀ {ks:List Nat} {k:Nat},(∀ a∈ks,a∈U)->k∈U->inB (.str (f k)) (ks.map λk=>D.str (f k))=decide (k∈ks)
 | [],k,_,_=>rfl
 |a::ks,k,h,hk=>by
  have ih:=YM hi (ks:=ks) (λa ha=>h a (mem_cons_of_mem _ ha)) hk
  unfold inB at ih ⊢
  rw[map_cons,any_cons,ih]
  by_cases e:a=k
  .subst e;simp[Gg]
  .have e1:¬ f a=f k:=λz=>e (hi a (h a mem_cons_self) k hk z)
   have e2:¬ k=a:=λz=>e z.symm
   simp[Gg,e1,e2]
theorem WT(f:Nat->Str)(ks:List Nat):(ks.map λk=>D.str (f k)).all Ri=true:=by
 rw[all_eq_true];intro d hd;obtain⟨i,_,rfl⟩:=mem_map.mp hd;rfl
theorem LC{U:List Nat}(hi:Of U f){ks:List Nat}(h:∀ a∈ks,a∈U)(hk:k∈U):QY (.str (f k)) (sL ks f)=.ok (.bl (decide (k∈ks))):=by
 show(if(Ri (.str (f k))&&(ks.map λk=>D.str (f k)).all Ri)=true then _ else _)=_
 rw[WT,YM hi h hk];rfl
theorem Vk{gc:Ca->Res Bool}{fe:Ca->Res D}(pr:Nat->Bool)(u v:Nat->D)(F:Nat->D)(δ:Ca):∀ (ks:List Nat) (x y:Option S),(∀ k∈ks,gc (sd (u k)::sd (v k)::δ)=.ok (pr k)/\(pr k=true->fe (sd (u k)::sd (v k)::δ)=.ok (F k)))->
  Ke (Hc 2 (Sa (Gb 0) (Sa (Gb 1) Gc))) gc fe (ks.map λk=>D.tup [u k,v k]) (x::y::δ)=.ok ((ks.filter pr).map F)
 | [],_,_,_=>rfl
 |k::ks,x,y,h=>by
  obtain⟨h1,h2⟩:=h k mem_cons_self
  have ih:=Vk pr u v F δ ks (sd (u k)) (sd (v k)) (λq hq=>h q (mem_cons_of_mem _ hq))
  rw[map_cons,Pj (δ':=sd (u k)::sd (v k)::δ) _ _ _ _ rfl,h1]
  cases hp:pr k with
  |true=>
   rw[filter_cons_of_pos hp]
   simp only[Bc,Res.bind_ok,if_true,h2 hp,ih,map_cons]
  |false=>
   rw[filter_cons_of_neg (by rw[hp];simp)]
   simp only[Bc,Res.bind_ok,false_eq_true,if_false,ih]
theorem Lh{gc:Ca->Res Bool}{fe:Ca->Res D}(pr:Nat->Bool)(u F:Nat->D)(δ:Ca):∀ (ks:List Nat) (x:Option S),(∀ k∈ks,gc (sd (u k)::δ)=.ok (pr k)/\(pr k=true->fe (sd (u k)::δ)=.ok (F k)))->
  Ke (Gb 0) gc fe (ks.map u) (x::δ)=.ok ((ks.filter pr).map F)
 | [],_,_=>rfl
 |k::ks,x,h=>by
  obtain⟨h1,h2⟩:=h k mem_cons_self
  have ih:=Lh pr u F δ ks (sd (u k)) (λq hq=>h q (mem_cons_of_mem _ hq))
  rw[map_cons,Pj (δ':=sd (u k)::δ) _ _ _ _ rfl,h1]
  cases hp:pr k with
  |true=>
   rw[filter_cons_of_pos hp]
   simp only[Bc,Res.bind_ok,if_true,h2 hp,ih,map_cons]
  |false=>
   rw[filter_cons_of_neg (by rw[hp];simp)]
   simp only[Bc,Res.bind_ok,false_eq_true,if_false,ih]
theorem Mh{ks:List Nat}:ks.filter (λ_=>true)=ks:=by simp
theorem Dm(i:Nat)(δ:Ca)(l:List (Cb×D))(k:Str)(d:D)(fi f:Ca->Res D)(h:δ[i]? =some (sQ l))(hl:l.length<=1000)(e1:f δ= .ok d)(e2:fi δ= .ok (.str k)):
  Lf i fi f δ= .nx (δ.set i (sQ (Re l (.inr k) d))):=by
 unfold Lf
 rw[e1]
 show OP i fi δ d=_
 unfold OP
 rw[h]
 show Qk (fi δ) (NP i δ ((l.map (·.1)).zip (l.map (·.2))) d)=_
 rw[e2,Ii]
 show(if l.length<=1000 then _ else _)=_
 rw[if_pos hl]
theorem Wn(g:Nat->D)(n:Nat):Bi [.lst ((range n).map g)]=.ok ((range n).map λ(j:Nat)=>D.tup [.int (j:Int),g j]):=by
 show Res.ok (Al 0 ((range n).map g))=_
 congr 1
 refine List.ext_getElem? λi=>?_
 cases h:(Al 0 ((range n).map g))[i]? with
 |none=>
  rw[List.getElem?_eq_none_iff,Uo,length_map,length_range]at h
  rw[eq_comm,List.getElem?_eq_none_iff,length_map,length_range];exact h
 |some d=>
  obtain⟨x,hx,rfl⟩:=To h
  rw[getElem?_map]at hx ⊢
  obtain⟨j,hj,rfl⟩:=map_eq_some_iff.mp hx
  rw[hj]
  have hi:=(List.getElem?_eq_some_iff.mp hj).1
  rw[length_range]at hi
  rw[getElem?_range hi]at hj
  have:=Option.some.inj hj
  subst this
  simp
theorem Sy(f:Nat->Str):∀ ks:List Nat,Ot (ks.map λk=>D.str (f k)) (ks.map λk=>D.str (f k))=true
 | []=>by simp[Ot]
 |c::cs=>by rw[map_cons,Ot,Sy f cs];simp[Gg]
theorem QG(f:Nat->Str)(ks:List Nat)(n:Nat):∀ d∈(ks.map λk=>D.str (f k)),Lb n d=true:=λd hd=>by
 obtain⟨k,_,rfl⟩:=mem_map.mp hd
 cases n<;>rfl
theorem EV(f:Nat->Str)(ks:List Nat):AG (sL ks f) (sL ks f)=.ok (.bl false):=by
 have h:Lb 40 (sL ks f)=true:=by
  show(ks.map λk=>D.str (f k)).all (Lb 39)=true
  rw[all_eq_true];exact QG f ks 39
 unfold AG
 rw[h]
 show Res.ok (D.bl (!Gg (sL ks f) (sL ks f)))=_
 rw[show Gg (sL ks f) (sL ks f)=Ot (ks.map λk=>D.str (f k)) (ks.map λk=>D.str (f k)) from by unfold sL;rw[Gg],Sy];rfl
theorem OT(f:Nat->Str)(ks:List Nat):Aq (sL ks f) (.lst [])=.ok (.bl ks.isEmpty):=by
 have:=PL (ks.map λk=>D.str (f k)) (QG f ks 39)
 rw[show(ks.map λk=>D.str (f k)).isEmpty=ks.isEmpty by cases ks<;>rfl]at this
 exact this
variable{α:Type}{i:Nat}
theorem Az{l:List α}(d:α)(h:i<l.length):l.getD i d∈l:=by
 rw[getD_eq_getElem?_getD,getElem?_eq_getElem h]
 exact List.getElem_mem _
theorem ZD(n:Nat)(hi:∀ k,k<n->f k≠f n):Re (tK (range n) f g) (.inr (f n)) (g n)=tK (range (n+1)) f g:=by
 unfold Re
 rw[Jj,Yq λk hk=>hi k (mem_range.mp hk)]
 unfold tK
 rw[List.range_succ,map_append];rfl
def Zj(l:List (Cb×D))(x:Str):List Str:=match Cc l (.inr x) with
 |some (.lst ds)=>(Kp ds).getD []
 |_=> []
def QR(l:List (Cb×D)):Prop:=∀ p∈l,∃ ws:List Str,p.2=.lst (ws.map D.str)
theorem OQ{l:List (Cb×α)}{k:Cb}{y:α}(h:Cc l k=some y):(k,y)∈l:=by
 unfold Cc at h
 obtain⟨p,h1,h2⟩:=map_eq_some_iff.mp h
 have h3:=List.find?_some h1
 have h4:=List.mem_of_find?_eq_some h1
 rw[<-of_decide_eq_true h3,<-h2]
 exact h4
theorem CU(l:List (Cb×D))(h:QR l)(x:Str):IF l (.str x) (.lst [])=.ok (.lst ((Zj l x).map D.str)):=by
 unfold IF Zj
 show Res.ok ((Cc l (.inr x)).getD (.lst []))=_
 cases hg:Cc l (.inr x) with
 |none=>rfl
 |some y=>
  obtain⟨ws,e⟩:=h _ (OQ hg)
  have e':y=.lst (ws.map D.str):=e
  subst e'
  show Res.ok (D.lst (ws.map D.str))=.ok (.lst (((Kp (ws.map D.str)).getD []).map D.str))
  rw[Jn];rfl
def rK(R:List Str):List (Cb×D):=R.map λx=>(.inr x,.bl true)
theorem Ox(x:Str):∀ R:List Str,(Cc (rK R) (.inr x)).isSome=decide (x∈R)
 | []=>by simp[rK,Cc]
 |y::R=>by
  show(Cc ((Sum.inr y,D.bl true)::rK R) (.inr x)).isSome=_
  by_cases h:y=x
  .subst h
   rw[Lg rfl];simp
  .rw[Mf (show ¬ (Sum.inr y:Cb)=Sum.inr x from λz=>h (Sum.inr.inj z)),Ox x R]
   have:¬ x=y:=λz=>h z.symm
   simp[this]
theorem D5(x:Str)(R:List Str)(h:x∉R):Re (rK R) (.inr x) (.bl true)=rK (R++ [x]):=by
 unfold Re
 rw[Jj,Ox,decide_eq_false h]
 simp[rK]
theorem KD(R:List Str):(R.map λx=>(Sum.inr x:Cb)).zip (R.map λ_=>D.bl true)=rK R:=by
 unfold rK
 rw[List.zip_map']
theorem C5(R:List Str):(rK R).map (·.1)=R.map λx=>(Sum.inr x:Cb):=by unfold rK;rw[map_map];rfl
theorem E5(R:List Str):(rK R).map (·.2)=R.map λ_=>D.bl true:=by unfold rK;rw[map_map];rfl
abbrev Ji(A B M:D)(R W:List Str)(y:Option S):Ca:= [sd A,sd B,sd M,some (.q (R.map λx=>(Sum.inr x:Cb)) (R.map λ_=>D.bl true)),some (.o (W.map D.str)),y]
theorem MY(A B M:D)(R W:List Str)(y:Option S):Sd (Ji A B M R W y)=.ok (decide (W≠ [])):=by
 have e:decide (0<((W.map D.str).length:Int))=decide (W≠ []):=by
  rw[length_map]
  cases W with
  |nil=>simp
  |cons x r=>
   rw[decide_eq_true (by simp:(x::r:List Str)≠ [])]
   exact decide_eq_true (by simp only[List.length_cons];omega)
 unfold Sd Ji
 simp only[tR,b2,b1,kD,Ua,Oa,Oe,Res.bind_ok,Dp,Wo,Za,e]
theorem VS(A B M:D)(R W:List Str)(x:Str)(y:Option S):Tv 5 4 (Ji A B M R (W++ [x]) y)=.nx (Ji A B M R W (sd (.str x))):=by
 have e1:((W++ [x]).map D.str)[((W++ [x]).map D.str).length-1]? =some (.str x):=by
  rw[map_append,map_singleton,length_append,length_singleton,Nat.add_sub_cancel,List.getElem?_concat_length]
 have e2:((W++ [x]).map D.str).dropLast=W.map D.str:=by rw[map_append,map_singleton,List.dropLast_concat]
 show(match ((W++ [x]).map D.str)[((W++ [x]).map D.str).length-1]? with
  |some d=>Out.nx (((Ji A B M R (W++ [x]) y).set 4 (some (.o ((W++ [x]).map D.str).dropLast))).set 5 (sd d))
  |none=>.stuck)=_
 rw[e1,e2];rfl
theorem YS(A B M:D)(R W:List Str)(x:Str)(hR:R.length<=900)(h:x∉R):Lf 3 (Ea 5) (kD (.bl true)) (Ji A B M R W (sd (.str x)))=.nx (Ji A B M (R++ [x]) W (sd (.str x))):=by
 show(if((R.map λx=>(Sum.inr x:Cb)).zip (R.map λ_=>D.bl true)).length<=1000 then Out.nx ((Ji A B M R W (sd (.str x))).set 3 (sQ (Re ((R.map λx=>(Sum.inr x:Cb)).zip (R.map λ_=>D.bl true)) (.inr x) (.bl true)))) else .stuck)=_
 rw[KD,D5 x R h,sQ,C5,E5,if_pos (by unfold rK;rw[length_map];omega)]
 rfl
theorem C7(A B:D)(l:List (Cb×D))(hl:QR l)(R W:List Str)(x:Str)(y:Option S)(hR:R.length<=900)(hW:W.length<=40000)(hm:(Zj l x).length<=40000):
  Td (Ji A B (.dct (l.map (·.1)) (l.map (·.2))) R (W++ [x]) y)=.nx (if x∈R then Ji A B (.dct (l.map (·.1)) (l.map (·.2))) R W (sd (.str x)) else Ji A B (.dct (l.map (·.1)) (l.map (·.2))) (R++ [x]) (W++Zj l x) (sd (.str x))):=by
 have p1:=VS A B (.dct (l.map (·.1)) (l.map (·.2))) R W x y
 have zz:(l.map (·.1)).zip (l.map (·.2))=l:=by
  rw[List.zip_map']
  exact List.map_id _
 have g:=CU l hl x
 have n1:Nv (.str x) ((R.map λx=>(Sum.inr x:Cb)).zip (R.map λ_=>D.bl true))=.ok (.bl (!decide (x∈R))):=by
  rw[KD]
  show Res.ok (D.bl (!(Cc (rK R) (.inr x)).isSome))=_
  rw[Ox]
 by_cases h:x∈R
 .rw[decide_eq_true h]at n1
  rw[if_pos h]
  unfold Td
  show Jm (Tv 5 4 _) _=_
  rw[p1]
  simp only[Bb,Dg,tR,LH,Ua,Oa,Res.bind_ok,Ji,show ∀ (a b c:Option S) (ks:List Cb) (ds:List D) (r:Ca),Rc 3 (a::b::c::some (.q ks ds)::r)=.ok (ks.zip ds) from λ_ _ _ _ _ _=>rfl,n1,Za,Ub,Bool.not_true,false_eq_true,if_false,reduceIte]
 .rw[decide_eq_false h]at n1
  rw[if_neg h]
  have q1:=YS A B (.dct (l.map (·.1)) (l.map (·.2))) R W x hR h
  have q2:MA 4 (MH (Rc 2) (Aa (Ea 5) (Aa (Bf (b1 Cf Qa)) Qa))) (Ji A B (.dct (l.map (·.1)) (l.map (·.2))) (R++ [x]) W (sd (.str x)))=.nx (Ji A B (.dct (l.map (·.1)) (l.map (·.2))) (R++ [x]) (W++Zj l x) (sd (.str x))):=by
   have g2:MH (Rc 2) (Aa (Ea 5) (Aa (Bf (b1 Cf Qa)) Qa)) (Ji A B (.dct (l.map (·.1)) (l.map (·.2))) (R++ [x]) W (sd (.str x)))=.ok (.lst ((Zj l x).map D.str)):=by
    rw[<-g,<-zz]
    simp only[MH,Aa,Qa,Bf,b1,Cf,Ra,Ji,Ya,Ta,Res.bind_ok,length_nil,zero_le,if_true,reduceIte,zz,show ∀ (a b:Option S) (ks:List Cb) (ds:List D) (r:Ca),Rc 2 (a::b::sd (.dct ks ds)::r)=.ok (ks.zip ds) from λ_ _ _ _ _=>rfl]
   unfold MA YL
   rw[g2]
   show(@ite Out ((W.map D.str).length+((Zj l x).map D.str).length<=100000) (propDecidable _) _ _)=_
   rw[if_pos (by rw[length_map,length_map];omega),<-map_append]
   rfl
  unfold Td
  show Jm (Tv 5 4 _) _=_
  rw[p1]
  simp only[Bb,Dg,tR,LH,Ua,Oa,Res.bind_ok,show ∀ (a b c:Option S) (ks:List Cb) (ds:List D) (r:Ca),Rc 3 (a::b::c::some (.q ks ds)::r)=.ok (ks.zip ds) from λ_ _ _ _ _ _=>rfl,n1,Za,Ub,Bool.not_false,if_true,reduceIte]
  show Jm (Lf 3 _ _ _) _=_
  rw[q1]
  exact q2
variable{c:Ca->Res Bool}{b:Ca->Out}{δ:Ca}
theorem AY(n:Nat)(h:c δ= .ok false):Ie c b (n+1) δ= .nx δ:=by rw[Ie,h]
theorem ZX{δ2:Ca}(n:Nat)(h:c δ= .ok true)(h2:b δ= .nx δ2):Ie c b (n+1) δ=Ie c b n δ2:=by rw[Ie,h];simp only[h2]
theorem BF{p q:Str->Bool}{x:Str}:∀ {U:List Str},x∈U->p x=true->q x=false->(∀ y,q y=true->p y=true)->(U.filter q).length<(U.filter p).length
 | [],h,_,_,_=>by simp at h
 |u::U,h,hp,hq,hs=>by
  have le:∀ V:List Str,(V.filter q).length<=(V.filter p).length:=λV=>by
   induction V with
   |nil=>simp
   |cons v V ih=>
    cases h1:q v with
    |true=>rw[filter_cons_of_pos h1,filter_cons_of_pos (hs v h1),List.length_cons,List.length_cons];omega
    |false=>
     rw[filter_cons_of_neg (by rw[h1];simp)]
     cases h2:p v with
     |true=>rw[filter_cons_of_pos h2,List.length_cons];omega
     |false=>rw[filter_cons_of_neg (by rw[h2];simp)];exact ih
  rcases mem_cons.mp h with rfl|h
  .rw[filter_cons_of_pos hp,filter_cons_of_neg (by rw[hq];simp),List.length_cons]
   have:=le U
   omega
  .have ih:=BF h hp hq hs
   cases h1:q u with
   |true=>rw[filter_cons_of_pos h1,filter_cons_of_pos (hs u h1),List.length_cons,List.length_cons];omega
   |false=>
    rw[filter_cons_of_neg (by rw[h1];simp)]
    cases h2:p u with
    |true=>rw[filter_cons_of_pos h2,List.length_cons];omega
    |false=>rw[filter_cons_of_neg (by rw[h2];simp)];exact ih
def NR(U R:List Str):Nat:=(U.filter λy=> !decide (y∈R)).length
theorem HL(A B:D)(l:List (Cb×D))(hl:QR l)(U:List Str)(M:Nat)(hM:∀ x∈U,(Zj l x).length<=M/\∀ z∈Zj l x,z∈U)(hMb:M<=100)(hU:U.length<=300):
  ∀ (n:Nat) (W R:List Str) (y:Option S),W.length+M*NR U R<n->(∀ x∈W,x∈U)->R.length+NR U R<=600->W.length<=40000-M*NR U R->
  ∃ (R':List Str) (y':Option S),Ie Sd Td n (Ji A B (.dct (l.map (·.1)) (l.map (·.2))) R W y)=.nx (Ji A B (.dct (l.map (·.1)) (l.map (·.2))) R' [] y')/\
   (∀ x,x∈R\/x∈W->x∈R')/\((∀ x∈R,∀ z∈Zj l x,z∈R\/z∈W)->∀ x∈R',∀ z∈Zj l x,z∈R')/\∀ P:Str->Prop,(∀ x,P x->∀ z∈Zj l x,P z)->(∀ x,x∈R\/x∈W->P x)->∀ x∈R',P x:=by
 intro n
 induction n with
 |zero=>intro W R y h;omega
 |succ n ih=>
  intro W R y h hW hR hWl
  by_cases hw:W= []
  .subst hw
   refine⟨R,y,AY n (by rw[MY];rfl),λx hx=>hx.elim id λz=>by simp at z,λhc x hx z hz=>(hc x hx z hz).elim id λz=>by simp at z,λP _ hP x hx=>hP x (.inl hx)⟩
  .obtain⟨V,x,rfl⟩:∃ V x,W=V++ [x]:=⟨W.dropLast,W.getLast hw,(List.dropLast_concat_getLast hw).symm⟩
   have hx:x∈U:=hW x (by simp)
   have hV:∀ z∈V,z∈U:=λz hz=>hW z (by simp[hz])
   rw[length_append,length_singleton]at h hWl
   have cd:Sd (Ji A B (.dct (l.map (·.1)) (l.map (·.2))) R (V++ [x]) y)=.ok true:=by rw[MY,decide_eq_true hw]
   have st:=C7 A B l hl R V x y (by omega) (by omega) (by have:=(hM x hx).1;omega)
   rw[ZX n cd st]
   by_cases hxR:x∈R
   .rw[if_pos hxR]
    obtain⟨R',y',e,a1,a2,a3⟩:=ih V R (sd (.str x)) (by omega) hV hR (by omega)
    refine⟨R',y',e,λz hz=>?_,λhc=>a2 λu hu z hz=>?_,λP hP h0=>a3 P hP λz hz=>?_⟩
    .rcases hz with hz|hz
     .exact a1 z (.inl hz)
     .rcases mem_append.mp hz with hz|hz
      .exact a1 z (.inr hz)
      .rw[mem_singleton.mp hz];exact a1 x (.inl hxR)
    .rcases hc u hu z hz with hz|hz
     .exact .inl hz
     .rcases mem_append.mp hz with hz|hz
      .exact .inr hz
      .rw[mem_singleton.mp hz];exact .inl hxR
    .rcases hz with hz|hz
     .exact h0 z (.inl hz)
     .exact h0 z (.inr (by simp[hz]))
   .rw[if_neg hxR]
    have lt:NR U (R++ [x])<NR U R:=BF hx (by simp[hxR]) (by simp) λy hy=>by
     simp only[mem_append,mem_singleton,Bool.not_eq_true',decide_eq_false_iff_not,not_or]at hy ⊢
     exact hy.1
    obtain⟨m1,m2⟩:=hM x hx
    have mul:M*NR U (R++ [x])+M<=M*NR U R:=by
     have:NR U (R++ [x])+1<=NR U R:=lt
     have:=Nat.mul_le_mul_left M this
     rw[Nat.mul_add,Nat.mul_one]at this
     exact this
    obtain⟨R',y',e,a1,a2,a3⟩:=ih (V++Zj l x) (R++ [x]) (sd (.str x)) (by rw[length_append];omega) (λz hz=>(mem_append.mp hz).elim (hV z) (m2 z)) (by rw[length_append,length_singleton];omega) (by rw[length_append];omega)
    refine⟨R',y',e,λz hz=>?_,λhc=>a2 λu hu z hz=>?_,λP hP h0=>a3 P hP λz hz=>?_⟩
    .rcases hz with hz|hz
     .exact a1 z (.inl (by simp[hz]))
     .rcases mem_append.mp hz with hz|hz
      .exact a1 z (.inr (by simp[hz]))
      .exact a1 z (.inl (by rw[mem_singleton.mp hz];simp))
    .rcases mem_append.mp hu with hu|hu
     .rcases hc u hu z hz with hz|hz
      .exact .inl (by simp[hz])
      .rcases mem_append.mp hz with hz|hz
       .exact .inr (by simp[hz])
       .exact .inl (by simp[mem_singleton.mp hz])
     .rw[mem_singleton.mp hu]at hz
      exact .inr (by simp[hz])
    .rcases hz with hz|hz
     .rcases mem_append.mp hz with hz|hz
      .exact h0 z (.inl hz)
      .rw[mem_singleton.mp hz];exact h0 x (.inr (by simp))
     .rcases mem_append.mp hz with hz|hz
      .exact h0 z (.inr (by simp[hz]))
      .exact hP x (h0 x (.inr (by simp))) z hz
def Uh(n:Nat)(cs:List (List Int)):List (List Int):=(range n).map λi=>Qb (cs.map λc=>c.getD i 0)
theorem VN(n:Nat)(cs:List (List Int)):(Uh n cs).length=n:=by unfold Uh;rw[length_map,length_range]
def okH(h:Int)(C:List (List Int))(i:Nat):Bool:=decide (((Qb (C.map λc=>c.getD i 0)).length:Int)<=h)
variable{fe:Ca->Res D}
theorem LY(C:List (List Int))(i:Nat)(hc:∀ c∈C,i<c.length)(hn:C.length<64)(δ:Ca)(hf:∀ c:List Int,Ki (pD c) (.int (i:Int))=.ok (.int (c.getD i 0))->fe (sd (pD c)::δ)=.ok (.int (c.getD i 0))):
  De 1 (Gb 0) (λ_=>.ok true) fe δ (C.map pD)=.ok ((C.map λc=>c.getD i 0).map D.int):=by
 have cm:=Hd (n:=1) (c:=λ_=>.ok true) (fe:=fe) (δ:=δ) (CL (fe:=fe) (λd=>match d with| .tup ds=>ds.getD i .non|_=>.non) δ (C.map pD) none (λd hd=>by
  obtain⟨c,hc1,rfl⟩:=mem_map.mp hd
  rw[hf c (F8 c i (hc c hc1))]
  unfold pD
  dsimp only
  rw[getD_eq_getElem?_getD,getD_eq_getElem?_getD,getElem?_map,getElem?_eq_getElem (hc c hc1)]
  rfl)) (by rw[length_map];omega)
 have em:(C.map pD).map (λd=>match d with| .tup ds=>ds.getD i .non|_=>.non)=(C.map λc=>c.getD i 0).map D.int:=by
  rw[map_map,map_map]
  refine map_congr_left λc hc1=>?_
  show(c.map D.int).getD i .non=.int (c.getD i 0)
  rw[getD_eq_getElem?_getD,getD_eq_getElem?_getD,getElem?_map,getElem?_eq_getElem (hc c hc1)]
  rfl
 rw[em]at cm
 exact cm
theorem VH(A B C:Option S)(p d h s cell:Int)(cs:List Int)(l pl:Int)(x10 x11:Option S)(hl:0<=l/\l<d)(hs:1<=s)(hc:cs.length<=1000):
  ∃ (c cell':Int) (y10 y11:Option S),(0<=c/\c<d)/\Cg [A,B,C,sd (.int p),sd (.int d),sd (.int h),sd (.int s),sd (.int cell),some (.o ((cs++ [l]).map D.int)),sd (.int pl),x10,x11]
   = .nx [A,B,C,sd (.int p),sd (.int d),sd (.int h),sd (.int s),sd (.int cell'),some (.o ((cs++ [l]++ [c]).map D.int)),sd (.int pl),y10,y11]:=by
 have x1:=UC cell 48271 (by decide)
 have y1:=Tf (cell*48271) 1000000000000000003 (by decide)
 generalize cell*48271%1000000000000000003=r at*
 have y2:=AI (r+pl) 7 (by decide) (by decide)
 have hw:0<min (d-1) (l+s)-max 0 (l-s)+1:=by omega
 have y3:=Tf ((r+pl) / 7) _ hw
 have b0:=emod_nonneg ((r+pl) / 7) (show min (d-1) (l+s)-max 0 (l-s)+1≠0 by omega)
 have b9:=emod_lt_of_pos ((r+pl) / 7) hw
 have m1:=TU 0 (l-s)
 have m2:=VF (d-1) (l+s)
 have ix:Ki (.lst ((cs++ [l]).map D.int)) (.int (-1))=.ok (.int l):=by
  rw[map_append,map_singleton]
  exact Yr _ _ _ (MK _ _)
 have bd:0<=max 0 (l-s)+(r+pl) / 7%(min (d-1) (l+s)-max 0 (l-s)+1)/\max 0 (l-s)+(r+pl) / 7%(min (d-1) (l+s)-max 0 (l-s)+1)<d:=by omega
 clear hw b0 b9 hl hs
 have ap:∀ (c:Int) (z10 z11:Option S),Hy 8 [A,B,C,sd (.int p),sd (.int d),sd (.int h),sd (.int s),sd (.int (r+pl)),some (.o ((cs++ [l]).map D.int)),sd (.int pl),z10,z11] (.ok (.int c))=.nx [A,B,C,sd (.int p),sd (.int d),sd (.int h),sd (.int s),sd (.int (r+pl)),some (.o ((cs++ [l]++ [c]).map D.int)),sd (.int pl),z10,z11]:=λc z10 z11=>by
  rw[map_append (l₂:= [c]),map_singleton]
  exact Pq 8 _ _ _ rfl (by rw[length_map,length_append,length_singleton];omega)
 refine⟨_,r+pl,sd (.int (max 0 (l-s))),sd (.int (min (d-1) (l+s))),bd,?_⟩
 clear bd
 generalize max 0 (l-s)=lo at*
 generalize min (d-1) (l+s)=hi at*
 unfold Cg
 simp only[Ab,Jc,Xs,kD,b1,b2,Aa,Qa,Ra,Oa,Ua,Oe,Ta,Ya,Res.bind_ok,x1,y1,Jd,Wx,Fs,ix,m1,m2,y2,y3,ap,Hb,Bb,set_cons_zero,set_cons_succ]
theorem F5(a b:Int)(h:0<=a/\a<=1000)(h2:0<=b/\b<=1000):LA [.int a,.int b]=.ok (Wh a (b-a).toNat):=by
 show @ite _ _ (propDecidable _) _ _=_
 rw[if_pos (by omega)]
theorem JG:NJ (.int 10) (.int 60)=.ok (.int (10^60)):=if_pos ⟨by decide,by decide,by decide⟩
theorem ES(ns:List Int)(k p d h s:Int)(h0:0<=k)(h1:k<=1000)(hp:1<=p)(hp2:p<=100)(hd:2<=d)(hs:1<=s):
  ∃ cs:List Int,Wa 3 Od [.lst (ns.map D.int),.int k,Kn p d h s]=.ok (pD cs)/\cs.length=p.toNat:=by
 obtain⟨v,ev⟩:=Tn ns k h0 h1
 have m1:=Tf v (10^60) (by decide)
 generalize v%10^60=r at*
 have m2:=Tf r d (by omega)
 have b0:=emod_nonneg r (show d≠0 by omega)
 have b9:=emod_lt_of_pos r (show 0<d by omega)
 generalize r%d=c0 at*
 have rg:=F5 1 p (by decide) (by omega)
 obtain⟨δ2,f,cell',cs,l,x,y,z,rfl,hl,_⟩:=Am (t:=Gb 9) (body:=Cg) (λi δ=>∃ (cell:Int) (cs:List Int) (l:Int) (x y z:Option S),δ= [sd (.lst (ns.map D.int)),sd (.int k),sd (Kn p d h s),sd (.int p),sd (.int d),sd (.int h),sd (.int s),sd (.int cell),some (.o ((cs++ [l]).map D.int)),x,y,z]/\cs.length=i/\0<=l/\l<d)
  (Wh 1 (p-1).toNat) [sd (.lst (ns.map D.int)),sd (.int k),sd (Kn p d h s),sd (.int p),sd (.int d),sd (.int h),sd (.int s),sd (.int r),some (.o [D.int c0]),none,none,none] (λi e δ he hI=>by
   obtain⟨cell,cs,l,x,y,z,rfl,hl,hb⟩:=hI
   obtain⟨hi,rfl⟩:=Ws he
   obtain⟨c,cell',y10,y11,bc,e⟩:=VH (sd (.lst (ns.map D.int))) (sd (.int k)) (sd (Kn p d h s)) p d h s cell cs l (1+i) y z hb hs (by omega)
   exact⟨_,rfl,_,.inl e,cell',cs++ [l],c,_,_,_,rfl,by rw[length_append,hl];rfl,bc⟩) ⟨r,[],c0,none,none,none,rfl,rfl,b0,b9⟩
 rw[Ho]at hl
 refine⟨cs++ [l],Vb _ _ _ _ ?_ rfl,by rw[length_append,hl,length_singleton];omega⟩
 have asg:∀ (a0 a1 a2 a3 a4 a5 a6:Option S) (A B C D':D) (r:Ca),JH (Hc 4 (Sa (Gb 3) (Sa (Gb 4) (Sa (Gb 5) (Sa (Gb 6) Gc))))) (a0::a1::a2::a3::a4::a5::a6::r) (.tup [A,B,C,D'])=.nx (a0::a1::a2::sd A::sd B::sd C::sd D'::r):=λ_ _ _ _ _ _ _ _ _ _ _ _=>rfl
 clear hl b0 b9
 unfold pD
 generalize (cs++ [l]).map D.int=V at*
 generalize ns.map D.int=NN at*
 unfold Od Rp
 walk_at "s"
 simp only[List.length_cons,length_nil,reduceAdd,kD,b1,b2,Cf,Aa,Qa,Ra,Ab,Jc,Sh,Kf,OD,Rb,Ta,Ya,Oa,Oe,Ua,Res.bind_ok,asg,ev,JG,m1,m2,rg,f,QQ,Hb,Bb,Ec,set_cons_zero,set_cons_succ,zero_le,reduceLeDiff,if_true,reduceIte]
theorem Wy{α β:Type}{f g:α->Option β}:∀ {l:List α},(∀ k∈l,f k=g k)->l.filterMap f=l.filterMap g
 | [],_=>rfl
 |a::l,h=>by rw[filterMap_cons,filterMap_cons,h a mem_cons_self,Wy λk hk=>h k (mem_cons_of_mem _ hk)]
theorem Sv(xs:List α):Ej xs none (some (-1))=xs.reverse:=by
 unfold Ej
 have e:sliceRange (sliceBounds none none (some (-1)) xs.length).1 (sliceBounds none none (some (-1)) xs.length).2.1 (sliceBounds none none (some (-1)) xs.length).2.2=(range xs.length).map λ(k:Nat)=>xs.length-1-k:=by
  show sliceRange ((xs.length:Int)-1) (-1) (-1)=_
  unfold sliceRange
  rw[if_neg (by decide)]
  show(range (if(xs.length:Int)-1> -1 then((xs.length:Int)-1- -1- -1-1) / - -1 else 0).toNat).map _=_
  have ec:(if(xs.length:Int)-1> -1 then((xs.length:Int)-1- -1- -1-1) / - -1 else 0).toNat=xs.length:=by
   rw[show(- -1:Int)=1 by decide,Int.ediv_one]
   split<;>omega
  rw[ec]
  refine map_congr_left λk hk=>?_
  have:=mem_range.mp hk
  omega
 rw[e,List.filterMap_map]
 have fm:(range xs.length).filterMap ((λx=>xs[x]?)∘λk=>xs.length-1-k)=(range xs.length).filterMap λk=>xs.reverse[k]? :=by
  refine Wy λk hk=>?_
  show xs[xs.length-1-k]? =_
  rw[List.getElem?_reverse (mem_range.mp hk)]
 rw[fm]
 have all:∀ (ys:List α),(range ys.length).filterMap (λk=>ys[k]?)=ys:=by
  intro ys
  induction ys with
  |nil=>rfl
  |cons y ys ih=>
   rw[List.length_cons,List.range_succ_eq_map,filterMap_cons,List.filterMap_map]
   show y::(range ys.length).filterMap (λk=>ys[k]?)=_
   rw[ih]
 have:=all xs.reverse
 rw[List.length_reverse]at this
 exact this
theorem TY{ks:List Nat}(h:∀ k∈ks,k<600):Of ks (nm X Q):=λa ha b hb e=>Il (h a ha) (h b hb) e
theorem DL(xs:List D)(n:Nat):L3.cutD xs (some (n:Int)) none=xs.drop n:=by
 unfold L3.cutD
 rw[HT.sIx_nat]
 show(xs.drop (min n xs.length)).take (xs.length-min n xs.length)=_
 rw[List.take_of_length_le (by rw[List.length_drop];omega)]
 by_cases h:n<=xs.length
 .rw[Nat.min_eq_left h]
 .rw[Nat.min_eq_right (by omega),List.drop_of_length_le (by omega),List.drop_of_length_le (by omega)]
def o0(m:Nat)(c:Int):List Nat:=(range m).filter λj=>(c / (3+2*(j:Int))%3==0)
def Mn(m:Nat)(c:Int):Bool:=(c%5==2)||(!(c%5==1)&&(o0 m c).isEmpty)
def Oq(m:Nat)(c:Int):List Nat:=if Mn m c=true then [41] else if(c%5==1)=true then(o0 m c).reverse++ [40] else(o0 m c).reverse
def Ep(m ct:Nat)(c:Int)(j:Nat):Bool:=if Mn m c=true then decide (j=0)||decide (ct<=j) else if(c%5==1)=true then decide (j∈o0 m c)||decide (ct<=j) else decide (j∈o0 m c)
variable{m:Nat}
theorem Ks{c:Int}(h:j∈o0 m c):j<m:=mem_range.mp (mem_filter.mp h).1
theorem QO(m:Nat)(c:Int):(o0 m c).length<=m:=by
 have:=List.length_filter_le (λj:Nat=>(c / (3+2*(j:Int))%3==0)) (range m)
 rw[length_range]at this
 exact this
theorem IV(m:Nat)(c:Int):(range m).filter (λj=>decide (j∈o0 m c))=o0 m c:=by
 unfold o0
 refine List.filter_congr λj hj=>?_
 rw[Bool.eq_iff_iff,decide_eq_true_eq,mem_filter]
 exact⟨λz=>z.2,λz=>⟨hj,z⟩⟩
structure GrOk(m ct:Nat)(th:List Nat)(ob:Nat->Bool):Prop where
 tb:∀ i∈th,i<m\/i=40\/i=41
 tl:th.length<=m+1
 ob:∀ j,j<m->(ob j=true↔j∈th\/(ct<=j/\(40∈th\/41∈th))\/(j=0/\41∈th))
theorem N7(m ct:Nat)(c:Int)(hm:m<=40):GrOk m ct (Oq m c) (Ep m ct c):=by
 have n40:¬ 40∈o0 m c:=λz=>by have:=Ks z;omega
 have n41:¬ 41∈o0 m c:=λz=>by have:=Ks z;omega
 have ln:=QO m c
 unfold Oq Ep
 by_cases ha:Mn m c=true
 .simp only[if_pos ha]
  refine⟨λi hi=>.inr (.inr (mem_singleton.mp hi)),by simp,λj hj=>?_⟩
  simp only[Bool.or_eq_true,decide_eq_true_eq,mem_singleton,or_true,and_true]
  have:¬ j=41:=by omega
  simp only[this,false_or]
  exact Or.comm
 .simp only[if_neg ha]
  by_cases h1:(c%5==1)=true
  .simp only[if_pos h1]
   refine⟨λi hi=>?_,by simp;omega,λj hj=>?_⟩
   .rcases mem_append.mp hi with hi|hi
    .exact .inl (Ks (mem_reverse.mp hi))
    .exact .inr (.inl (mem_singleton.mp hi))
   .simp only[Bool.or_eq_true,decide_eq_true_eq,mem_append,mem_reverse,mem_singleton]
    have:¬ j=40:=by omega
    simp only[n40,n41,this,or_false,false_or,and_false]
    simp
  .simp only[if_neg h1]
   refine⟨λi hi=>.inl (Ks (mem_reverse.mp hi)),by simp;omega,λj hj=>?_⟩
   simp only[decide_eq_true_eq,mem_reverse,n40,n41,or_false,and_false]
theorem Ro{gc:Ca->Res Bool}(X Q:Str)(m:Nat)(hm:m<=40)(pr:Nat->Bool)(hf:fe=Ea 1)(δ:Ca)(hg:∀ j,j<m->gc (sd (.int (j:Int))::sd (.str (nm X Q j))::δ)=.ok (pr j)):
  De 2 (Hc 2 (Sa (Gb 0) (Sa (Gb 1) Gc))) gc fe δ ((range m).map λ(j:Nat)=>D.tup [.int (j:Int),.str (nm X Q j)])=.ok (((range m).filter pr).map λj=>D.str (nm X Q j)):=by
 refine Hd ?_ (by rw[length_map,length_range];omega)
 exact Vk (gc:=gc) (fe:=fe) pr (λ(j:Nat)=>D.int (j:Int)) (λj=>D.str (nm X Q j)) (λj=>D.str (nm X Q j)) δ (range m) none none (λj hj=>⟨hg j (mem_range.mp hj),λ_=>by subst hf;rfl⟩)
abbrev Vl(X Q:Str)(m:Nat):List D:=(range m).map λj=>D.str (nm X Q j)
theorem JC(ns:List Int)(X Q:Str)(hnm:∀ k:Nat,k<600->Wa 2 Kb [.lst (ns.map D.int),.int (k:Int)]=.ok (.str (nm X Q k)))(m ct k:Nat)(hm:m<=40)(hk:k<=19)(c:Int)(hc:Wa 2 Ma [.lst (ns.map D.int),.int (4+(k:Int))]=.ok (.int c))(a1 a2 x9 x10 x11:Option S)(s3:Option S)(h3:s3=some (.o (Vl X Q m))\/s3=sd (.lst (Vl X Q m)))(WG:D)(W G:List D)(hW:W.length<=1000)(hG:G.length<=1000):
  ∃ y9 y10 y11,Dd [sd (.lst (ns.map D.int)),a1,a2,s3,sd (.int (ct:Int)),sd WG,some (.o W),some (.o G),sd (.int (k:Int)),x9,x10,x11]
   = .nx [sd (.lst (ns.map D.int)),a1,a2,sd (.lst (Vl X Q m)),sd (.int (ct:Int)),sd WG,some (.o (W++ [sL ((range m).filter (Ep m ct (c%10^60))) (nm X Q)])),some (.o (G++ [.tup [.str (nm X Q (20+k)),sL (Oq m (c%10^60)) (nm X Q)]])),sd (.int (k:Int)),y9,y10,y11]:=by
 have md:=Tf c (10^60) (by decide)
 generalize c%10^60=r at*
 have m5:=Tf r 5 (by decide)
 have n40:Wa 2 Kb [.lst (ns.map D.int),.int 40]=.ok (.str (nm X Q 40)):=hnm 40 (by decide)
 have n41:Wa 2 Kb [.lst (ns.map D.int),.int 41]=.ok (.str (nm X Q 41)):=hnm 41 (by decide)
 have n20:=hnm (20+k) (by omega)
 rw[show((20+k:Nat):Int)=20+(k:Int) by omega]at n20
 have f3:∀ (a b:Option S) (c0:Option S) (R:Ca),Sr 3 (a::b::c0::s3::R)=a::b::c0::sd (.lst (Vl X Q m))::R:=λa b c0 R=>by rcases h3 with rfl|rfl<;>rfl
 have f3':∀ (a b:Option S) (c0:Option S) (R:Ca),Sr 3 (a::b::c0::sd (.lst (Vl X Q m))::R)=a::b::c0::sd (.lst (Vl X Q m))::R:=λ_ _ _ _=>rfl
 have en:=Wn (λj=>D.str (nm X Q j)) m
 have k1:∀ (b0 b1' b2' b4 b5 b6 b7 b8 b10 b11:Option S),De 2 (Hc 2 (Sa (Gb 0) (Sa (Gb 1) Gc))) Ih Wk [b0,b1',b2',sd (.lst (Vl X Q m)),b4,b5,b6,b7,b8,sd (.int r),b10,b11] ((range m).map λ(j:Nat)=>D.tup [.int (j:Int),.str (nm X Q j)])=.ok ((o0 m r).map λj=>D.str (nm X Q j)):=λb0 b1' b2' b4 b5 b6 b7 b8 b10 b11=>
  Ro X Q m hm (λj=>(r / (3+2*(j:Int))%3==0)) rfl _ λj hj=>by
   have e1:=UC 2 (j:Int) (by omega)
   have e2:=AI r (3+2*(j:Int)) (by omega) (by omega)
   have e3:=Tf (r / (3+2*(j:Int))) 3 (by decide)
   unfold Ih
   simp only[tR,b2,kD,Oa,Ua,Res.bind_ok,e1,Jd,e2,e3,Ff,Za]
 have sl:M5 (.lst ((o0 m r).map λj=>D.str (nm X Q j))) none (some (-1))=.ok ((o0 m r).reverse.map λj=>D.str (nm X Q j)):=by
  show(if(some (-1:Int))=some 0 then Res.stuck else Res.ok (Ej _ none (some (-1))))=_
  rw[if_neg (by decide),Sv,List.map_reverse]
 have hs3:∀ ks:List Nat,Aq (.lst (ks.map λj=>D.str (nm X Q j))) (.lst [])=.ok (.bl ks.isEmpty):=λks=>OT (nm X Q) ks
 have ap7:∀ (b0 b1' b2' b3' b4 b5 b6 b8 b9' b10 b11:Option S) (d:D),Hy 7 [b0,b1',b2',b3',b4,b5,b6,some (.o G),b8,b9',b10,b11] (.ok d)=.nx [b0,b1',b2',b3',b4,b5,b6,some (.o (G++ [d])),b8,b9',b10,b11]:=λ_ _ _ _ _ _ _ _ _ _ _ d=>Pq 7 _ _ d rfl (by omega)
 have ap6:∀ (b0 b1' b2' b3' b4 b5 b7 b8 b9' b10 b11:Option S) (d:D),Hy 6 [b0,b1',b2',b3',b4,b5,some (.o W),b7,b8,b9',b10,b11] (.ok d)=.nx [b0,b1',b2',b3',b4,b5,some (.o (W++ [d])),b7,b8,b9',b10,b11]:=λ_ _ _ _ _ _ _ _ _ _ _ d=>Pq 6 _ _ d rfl (by omega)
 have f10:∀ (b0 b1' b2' b3' b4 b5 b6 b7 b8 b9' b11:Option S) (ds:List D),Sr 10 [b0,b1',b2',b3',b4,b5,b6,b7,b8,b9',some (.o ds),b11]= [b0,b1',b2',b3',b4,b5,b6,b7,b8,b9',sd (.lst ds),b11]:=λ_ _ _ _ _ _ _ _ _ _ _ _=>rfl
 by_cases h1:(r%5==1)=true
 .have h2:(r%5==2)=false:=by
   rw[beq_iff_eq]at h1
   rw[beq_eq_false_iff_ne,h1];decide
  have ha:¬ Mn m r=true:=by unfold Mn;rw[h1,h2];simp
  have k2:∀ (b0 b1' b2' b5 b6 b7 b8 b9' b11:Option S),De 2 (Hc 2 (Sa (Gb 0) (Sa (Gb 1) Gc))) Jh Xk [b0,b1',b2',sd (.lst (Vl X Q m)),sd (.int (ct:Int)),b5,b6,b7,b8,b9',some (.o ((o0 m r).map λj=>D.str (nm X Q j))),b11] ((range m).map λ(j:Nat)=>D.tup [.int (j:Int),.str (nm X Q j)])=.ok (((range m).filter (Ep m ct r)).map λj=>D.str (nm X Q j)):=λb0 b1' b2' b5 b6 b7 b8 b9' b11=>by
   refine Ro X Q m hm (Ep m ct r) rfl _ λj hj=>?_
   have e1:=LC (f:=nm X Q) (U:=range m) (TY λk hk=>by have:=mem_range.mp hk;omega) (ks:=o0 m r) (k:=j) (λa ha=>mem_range.mpr (Ks ha)) (mem_range.mpr hj)
   unfold sL at e1
   have e2:PY (.int (j:Int)) (.int (ct:Int))=.ok (.bl (decide (ct<=j))):=by
    rw[GM];congr 2
    rw[Bool.eq_iff_iff,decide_eq_true_eq,decide_eq_true_eq];omega
   unfold Jh Ep
   rw[if_neg ha,if_pos h1]
   simp only[Pk,tR,b2,Oa,Ua,Oe,Res.bind_ok,e1,e2,Za,Jl]
   cases decide (j∈o0 m r)<;>rfl
  have ct1:QB (.lst ((o0 m r).reverse.map λj=>D.str (nm X Q j))) (.lst [.str (nm X Q 40)])=.ok (((o0 m r).reverse++ [40]).map λj=>D.str (nm X Q j)):=by
   rw[map_append]
   exact YK _ _ (by rw[length_map,List.length_reverse];have:=QO m r;simp only[List.length_cons,length_nil];omega)
  have hs4:=hs3 ((o0 m r).reverse++ [40])
  have z4:((o0 m r).reverse++ [40]).isEmpty=false:=by simp
  rw[z4]at hs4
  have et:Oq m r=(o0 m r).reverse++ [40]:=by unfold Oq;rw[if_neg ha,if_pos h1]
  rw[et]
  unfold sL
  clear h3 hnm et ha
  generalize ((range m).map λ(j:Nat)=>D.tup [.int (j:Int),.str (nm X Q j)])=EN at*
  generalize ((range m).filter (Ep m ct r)).map (λj=>D.str (nm X Q j))=OB at*
  generalize (((o0 m r).reverse++ [40]).map λj=>D.str (nm X Q j))=TH at*
  generalize ((o0 m r).reverse.map λj=>D.str (nm X Q j))=RV at*
  generalize ((o0 m r).map λj=>D.str (nm X Q j))=OO at*
  refine⟨sd (.int r),sd (.lst OB),sd (.lst TH),?_⟩
  unfold Dd
  simp only[Ab,Jc,Sh,Dg,Jg,Xs,tR,Pk,kD,Bf,b1,b2,NZ,b3,Qm,Cf,Qg,Fc,Aa,Qa,Ra,Oa,Ua,Oe,Ta,Ya,Res.bind_ok,Jd,Fs,Ao,hc,JG,md,m5,f3,f3',en,k1,k2,sl,h1,h2,hs4,ct1,Ff,n40,n20,ap7,ap6,f10,Za,Jl,Ub,Hb,Bb,List.length_cons,length_nil,reduceAdd,reduceLeDiff,zero_le,false_eq_true,if_true,if_false,reduceIte,set_cons_zero,set_cons_succ]
 .have h1':(r%5==1)=false:=by simpa using h1
  by_cases ha:Mn m r=true
  .have k3:∀ (b0 b1' b2' b5 b6 b7 b8 b9' b10 b11:Option S),De 2 (Hc 2 (Sa (Gb 0) (Sa (Gb 1) Gc))) Kh Yk [b0,b1',b2',sd (.lst (Vl X Q m)),sd (.int (ct:Int)),b5,b6,b7,b8,b9',b10,b11] ((range m).map λ(j:Nat)=>D.tup [.int (j:Int),.str (nm X Q j)])=.ok (((range m).filter (Ep m ct r)).map λj=>D.str (nm X Q j)):=λb0 b1' b2' b5 b6 b7 b8 b9' b10 b11=>by
    refine Ro X Q m hm (Ep m ct r) rfl _ λj hj=>?_
    have e1:Aq (.int (j:Int)) (.int 0)=.ok (.bl (decide (j=0))):=by
     rw[Ff];congr 2
     rw[Bool.eq_iff_iff,beq_iff_eq,decide_eq_true_eq];omega
    have e2:PY (.int (j:Int)) (.int (ct:Int))=.ok (.bl (decide (ct<=j))):=by
     rw[GM];congr 2
     rw[Bool.eq_iff_iff,decide_eq_true_eq,decide_eq_true_eq];omega
    unfold Kh Ep
    rw[if_pos ha]
    simp only[Pk,tR,b2,kD,Oa,Ua,Res.bind_ok,e1,e2,Za,Jl]
    cases decide (j=0)<;>rfl
   have tst:orB (.ok (o0 m r).reverse.isEmpty) (.ok (r%5==2))=.ok true:=by
    unfold Mn at ha
    rw[h1']at ha
    simp only[Bool.not_false,Bool.true_and]at ha
    rw[Jl,List.isEmpty_reverse]
    cases hz:(o0 m r).isEmpty with
    |true=>rfl
    |false=>rw[hz,Bool.or_false]at ha;rw[ha];rfl
   have hs4:=hs3 (o0 m r).reverse
   have et:Oq m r= [41]:=by unfold Oq;rw[if_pos ha]
   rw[et]
   unfold sL
   have tt:([41].map λj=>D.str (nm X Q j))= [.str (nm X Q 41)]:=rfl
   rw[tt]
   clear h3 hnm et ha tt
   generalize ((range m).map λ(j:Nat)=>D.tup [.int (j:Int),.str (nm X Q j)])=EN at*
   generalize ((range m).filter (Ep m ct r)).map (λj=>D.str (nm X Q j))=OB at*
   generalize ((o0 m r).reverse.map λj=>D.str (nm X Q j))=RV at*
   generalize ((o0 m r).map λj=>D.str (nm X Q j))=OO at*
   refine⟨sd (.int r),sd (.lst OB),sd (.lst [.str (nm X Q 41)]),?_⟩
   unfold Dd
   simp only[Ab,Jc,Sh,Dg,Jg,Xs,tR,Pk,kD,Bf,b1,b2,NZ,b3,Qm,Cf,Qg,Fc,Aa,Qa,Ra,Oa,Ua,Oe,Ta,Ya,Res.bind_ok,Jd,Fs,Ao,hc,JG,md,m5,f3,f3',en,k1,k3,sl,h1',hs4,tst,Ff,n41,n20,ap7,ap6,f10,Za,Ub,Hb,Bb,List.length_cons,length_nil,reduceAdd,reduceLeDiff,zero_le,false_eq_true,if_true,if_false,reduceIte,set_cons_zero,set_cons_succ]
  .have h2:(r%5==2)=false:=by
    cases hz:(r%5==2) with
    |false=>rfl
    |true=>exact absurd (by unfold Mn;rw[hz];rfl) ha
   have he:(o0 m r).reverse.isEmpty=false:=by
    rw[List.isEmpty_reverse]
    cases hz:(o0 m r).isEmpty with
    |false=>rfl
    |true=>exact absurd (by unfold Mn;rw[h1',hz,h2];rfl) ha
   have hs4:=hs3 (o0 m r).reverse
   rw[he]at hs4
   have et:Oq m r=(o0 m r).reverse:=by unfold Oq;rw[if_neg ha,if_neg h1]
   have eo:(range m).filter (Ep m ct r)=o0 m r:=by
    rw[<-IV m r]
    refine List.filter_congr λj _=>?_
    unfold Ep
    rw[if_neg ha,if_neg h1]
   rw[et,eo]
   unfold sL
   clear h3 hnm et eo ha he
   generalize ((range m).map λ(j:Nat)=>D.tup [.int (j:Int),.str (nm X Q j)])=EN at*
   generalize ((o0 m r).reverse.map λj=>D.str (nm X Q j))=RV at*
   generalize ((o0 m r).map λj=>D.str (nm X Q j))=OO at*
   refine⟨sd (.int r),sd (.lst OO),sd (.lst RV),?_⟩
   unfold Dd
   simp only[Ab,Jc,Sh,Dg,Jg,Xs,tR,Pk,kD,Bf,b1,b2,NZ,b3,Qm,Cf,Qg,Fc,Aa,Qa,Ra,Oa,Ua,Oe,Ta,Ya,Res.bind_ok,Jd,Fs,Ao,hc,JG,md,m5,f3,f3',en,k1,sl,h1',h2,hs4,Ff,n20,ap7,ap6,f10,Za,Jl,Ub,Hb,Bb,List.length_cons,length_nil,reduceAdd,reduceLeDiff,zero_le,false_eq_true,if_true,if_false,reduceIte,set_cons_zero,set_cons_succ]
theorem Ir(ns:List Int):∃ f:Int->Int,∀ k,0<=k->k<=1000->Wa 2 Ma [.lst (ns.map D.int),.int k]=.ok (.int (f k)):=by
 refine⟨λk=>if h:0<=k/\k<=1000 then(Tn ns k h.1 h.2).choose else 0,λk h0 h1=>?_⟩
 simp only[dif_pos (And.intro h0 h1)]
 exact(Tn ns k h0 h1).choose_spec
def HE(X Q:Str)(m ct:Nat):List D:= [.tup [.str (nm X Q 40),sL ((range m).drop ct) (nm X Q)],.tup [.str (nm X Q 41),sL [40,0] (nm X Q)]]
def Lk(X Q:Str)(th:Nat->List Nat)(n:Nat):List D:=(range n).map λk=>D.tup [.str (nm X Q (20+k)),sL (th k) (nm X Q)]
def Ey(X Q:Str)(m:Nat)(ob:Nat->Nat->Bool)(n:Nat):List D:=(range n).map λk=>sL ((range m).filter (ob k)) (nm X Q)
theorem KM(X Q:Str)(th:Nat->List Nat)(n:Nat):Lk X Q th (n+1)=Lk X Q th n++ [.tup [.str (nm X Q (20+n)),sL (th n) (nm X Q)]]:=by
 unfold Lk;rw[List.range_succ,map_append];rfl
theorem YQ(X Q:Str)(m:Nat)(ob:Nat->Nat->Bool)(n:Nat):Ey X Q m ob (n+1)=Ey X Q m ob n++ [sL ((range m).filter (ob n)) (nm X Q)]:=by
 unfold Ey;rw[List.range_succ,map_append];rfl
theorem JF(X Q:Str)(th:Nat->List Nat)(n:Nat):(Lk X Q th n).length=n:=by unfold Lk;rw[length_map,length_range]
theorem YX(X Q:Str)(m:Nat)(ob:Nat->Nat->Bool)(n:Nat):(Ey X Q m ob n).length=n:=by unfold Ey;rw[length_map,length_range]
theorem SM(ns:List Int)(X Q:Str)(hnm:∀ k:Nat,k<600->Wa 2 Kb [.lst (ns.map D.int),.int (k:Int)]=.ok (.str (nm X Q k)))(md mk:Int)(h1:1<=md)(h2:md<=19)(h3:1<=mk)(h4:mk<=19):
  ∃ (m ct n:Nat) (f:Nat->Int),1<=m/\(m:Int)<=md/\ct<m/\1<=n/\(n:Int)<=mk/\Wa 3 Ud [.lst (ns.map D.int),.int md,.int mk]=.ok (.tup [.lst (Vl X Q m),.lst (HE X Q m ct),.lst (Lk X Q (λk=>Oq m (f k)) n),.lst (Ey X Q m (λk=>Ep m ct (f k)) n)]):=by
 obtain⟨cf,hcf⟩:=Ir ns
 have e1:=hcf 1 (by decide) (by decide)
 have e2:=hcf 2 (by decide) (by decide)
 have e3:=hcf 3 (by decide) (by decide)
 have m1:=Tf (cf 1) md (by omega)
 have a1:=emod_nonneg (cf 1) (show md≠0 by omega)
 have a2:=emod_lt_of_pos (cf 1) (show 0<md by omega)
 generalize cf 1%md=q1 at*
 obtain⟨m,hm⟩:∃ m:Nat,(m:Int)=1+q1:=⟨(1+q1).toNat,by omega⟩
 have m2:=Tf (cf 2) (m:Int) (by omega)
 have a3:=emod_nonneg (cf 2) (show(m:Int)≠0 by omega)
 have a4:=emod_lt_of_pos (cf 2) (show 0<(m:Int) by omega)
 generalize cf 2%(m:Int)=q2 at*
 obtain⟨ct,hct⟩:∃ ct:Nat,(ct:Int)=q2:=⟨q2.toNat,by omega⟩
 subst hct
 have m3:=Tf (cf 3) mk (by omega)
 have a5:=emod_nonneg (cf 3) (show mk≠0 by omega)
 have a6:=emod_lt_of_pos (cf 3) (show 0<mk by omega)
 generalize cf 3%mk=q3 at*
 obtain⟨n,hn⟩:∃ n:Nat,(n:Int)=1+q3:=⟨(1+q3).toNat,by omega⟩
 have r1:=Px (1+q1) (by omega) (by omega)
 rw[show(1+q1).toNat=m by omega]at r1
 have r3:=Px (1+q3) (by omega) (by omega)
 rw[show(1+q3).toNat=n by omega]at r3
 have er:Wh 0 m=(range m).map λ(j:Nat)=>D.int (j:Int):=by
  unfold Wh
  exact map_congr_left λj _=>by rw[Int.zero_add]
 have cm:∀ r:Ca,De 1 (Gb 0) (λ_=>.ok true) Ef (sd (.lst (ns.map D.int))::r) (Wh 0 m)=.ok (Vl X Q m):=λr=>by
  refine Hd ?_ (by rw[Ho];omega)
  rw[er]
  have:=Lh (gc:=λ_=>.ok true) (fe:=Ef) (λ_=>true) (λ(j:Nat)=>D.int (j:Int)) (λj=>D.str (nm X Q j)) (sd (.lst (ns.map D.int))::r) (range m) none (λj hj=>⟨rfl,λ_=>by
   have e:=hnm j (by have:=mem_range.mp hj;omega)
   unfold Ef
   simp only[b1,Aa,Qa,Ra,Ta,Ya,Res.bind_ok,e]⟩)
  rw[Mh]at this
  exact this
 have n40:Wa 2 Kb [.lst (ns.map D.int),.int 40]=.ok (.str (nm X Q 40)):=hnm 40 (by decide)
 have n41:Wa 2 Kb [.lst (ns.map D.int),.int 41]=.ok (.str (nm X Q 41)):=hnm 41 (by decide)
 have ln:Yj (.lst (Vl X Q m))=.ok (.int (m:Int)):=by rw[Dp,length_map,length_range]
 have sl:N6 (.lst (Vl X Q m)) (some (ct:Int)) none=.ok (((range m).drop ct).map λj=>D.str (nm X Q j)):=by
  rw[W8,DL,List.map_drop]
 have i0:Ki (.lst (Vl X Q m)) (.int 0)=.ok (.str (nm X Q 0)):=Yr _ _ _ (Ul (by omega) (by
  show((range m).map λj=>D.str (nm X Q j))[0]? =_
  rw[getElem?_map,getElem?_range (by omega)];rfl))
 obtain⟨δ2,f,s3,x8,x9,x10,x11,hs3,rfl⟩:=Am (t:=Gb 8) (body:=Dd) (λi δ=>∃ s3 x8 x9 x10 x11:Option S,(s3=some (.o (Vl X Q m))\/s3=sd (.lst (Vl X Q m)))/\δ= [sd (.lst (ns.map D.int)),sd (.int md),sd (.int mk),s3,sd (.int (ct:Int)),sd (.lst (HE X Q m ct)),some (.o (Ey X Q m (λk=>Ep m ct (cf (4+(k:Int))%10^60)) i)),some (.o (Lk X Q (λk=>Oq m (cf (4+(k:Int))%10^60)) i)),x8,x9,x10,x11])
  (Wh 0 n) [sd (.lst (ns.map D.int)),sd (.int md),sd (.int mk),some (.o (Vl X Q m)),sd (.int (ct:Int)),sd (.lst (HE X Q m ct)),some (.o []),some (.o []),none,none,none,none] (λi e δ he hI=>by
   obtain⟨s3,x8,x9,x10,x11,hs3,rfl⟩:=hI
   obtain⟨hi,rfl⟩:=Ws he
   rw[Int.zero_add]
   obtain⟨y9,y10,y11,e⟩:=JC ns X Q hnm m ct i (by omega) (by omega) _ (hcf (4+(i:Int)) (by omega) (by omega)) (sd (.int md)) (sd (.int mk)) x9 x10 x11 s3 hs3 (.lst (HE X Q m ct)) (Ey X Q m (λk=>Ep m ct (cf (4+(k:Int))%10^60)) i) (Lk X Q (λk=>Oq m (cf (4+(k:Int))%10^60)) i) (by rw[YX];omega) (by rw[JF];omega)
   rw[<-YQ X Q m (λk=>Ep m ct (cf (4+(k:Int))%10^60)) i,<-KM X Q (λk=>Oq m (cf (4+(k:Int))%10^60)) i]at e
   exact⟨_,rfl,_,.inl e,_,_,_,_,_,.inr rfl,rfl⟩) ⟨_,none,none,none,none,.inl rfl,rfl⟩
 rw[Ho]at f
 refine⟨m,ct,n,λk=>cf (4+(k:Int))%10^60,by omega,by omega,by omega,by omega,by omega,Vb _ _ _ _ ?_ rfl⟩
 have f3:∀ (a b:Option S) (c0:Option S) (R:Ca),Sr 3 (a::b::c0::s3::R)=a::b::c0::sd (.lst (Vl X Q m))::R:=λa b c0 R=>by rcases hs3 with rfl|rfl<;>rfl
 have f6:∀ (a0 a1 a2 a3 a4 a5:Option S) (ds:List D) (R:Ca),Sr 6 (a0::a1::a2::a3::a4::a5::some (.o ds)::R)=a0::a1::a2::a3::a4::a5::sd (.lst ds)::R:=λ_ _ _ _ _ _ _ _=>rfl
 have f7:∀ (a0 a1 a2 a3 a4 a5 a6:Option S) (ds:List D) (R:Ca),Sr 7 (a0::a1::a2::a3::a4::a5::a6::some (.o ds)::R)=a0::a1::a2::a3::a4::a5::a6::sd (.lst ds)::R:=λ_ _ _ _ _ _ _ _ _=>rfl
 have wg:HE X Q m ct= [.tup [.str (nm X Q 40),.lst (((range m).drop ct).map λj=>D.str (nm X Q j))],.tup [.str (nm X Q 41),.lst [.str (nm X Q 40),.str (nm X Q 0)]]]:=rfl
 rw[wg]at f ⊢
 clear hs3 hnm hcf a1 a2 a3 a4 a5 a6 hm hn wg er
 generalize Ey X Q m (λk=>Ep m ct (cf (4+(k:Int))%10^60)) n=WA at*
 generalize Lk X Q (λk=>Oq m (cf (4+(k:Int))%10^60)) n=GR at*
 generalize ((range m).drop ct).map (λj=>D.str (nm X Q j))=DR at*
 generalize Wh 0 m=RM at*
 generalize Wh 0 n=RN at*
 generalize Vl X Q m=DS at*
 generalize ns.map D.int=NN at*
 unfold Ud On
 walk_at "s"
 simp only[List.length_cons,length_nil,reduceAdd,kD,b1,b2,b3,Qm,Bf,Cf,Qg,Fc,Aa,Qa,Ra,Ab,Jc,Sh,Kf,Jg,Rb,Ta,Ya,Oa,Oe,Ua,Res.bind_ok,Ao,Jd,e1,e2,e3,m1,m2,m3,r1,r3,cm,n40,n41,ln,sl,i0,f,f3,f6,f7,Hb,Bb,Ec,set_cons_zero,set_cons_succ,zero_le,reduceLeDiff,if_true,reduceIte]
structure Hs where
 X:Str
 Q:Str
 p:Int
 d:Int
 h:Int
 s:Int
 m:Nat
 ct:Nat
 n:Nat
 th:Nat->List Nat
 ob:Nat->Nat->Bool
 pn:Nat
 cut:Nat->List Int
 po:List Nat
def Hs.N(H:Hs):Nat->Str:=nm H.X H.Q
def Hs.kn(H:Hs)(k:Nat):Str:=H.N (20+k)
def Hs.drs(H:Hs):List Nat:=range H.m
def Hs.ks(H:Hs):List Nat:=range H.n
def Hs.ru(H:Hs):D:=Kn H.p H.d H.h H.s
def Hs.own(H:Hs)(k:Nat):List Nat:=H.drs.filter (H.ob k)
def Hs.hold(H:Hs)(j:Nat):List Nat:=H.ks.filter λk=>H.ob k j
def Hs.mem(H:Hs)(i:Nat):List Nat:=if i<40 then H.th (i-20) else if i=40 then H.drs.drop H.ct else [40,0]
def Hs.ids(H:Hs):List Nat:=40::41::H.ks.map (20+ ·)
def Hs.wgD(H:Hs):D:=.lst (HE H.X H.Q H.m H.ct)
def Hs.grD(H:Hs):D:=.lst (Lk H.X H.Q H.th H.n)
def Hs.hsD(H:Hs):D:=G6 H.ru (sL H.drs H.N) H.wgD H.grD
def Hs.meT(H:Hs):List (Cb×D):=tK H.ids H.N λi=>sL (H.mem i) H.N
def Hs.spT(H:Hs):List (Cb×D):=tK H.ks H.kn λk=>sL (H.own k) H.N
def Hs.heT(H:Hs):List (Cb×D):=tK H.drs H.N λj=>sL (H.hold j) H.kn
structure Hs.Ok(H:Hs):Prop where
 xq:H.X.length<=10/\H.Q.length<=10/\FJ H.X/\FJ H.Q
 hp:1<=H.p
 hp2:H.p<=100
 m1:1<=H.m
 hm:H.m<=19
 hc:H.ct<H.m
 hn:H.n<=19
 gr:∀ k,k<H.n->GrOk H.m H.ct (H.th k) (H.ob k)
 pn:H.pn<=H.n
 cl:∀ k,k<H.pn->(H.cut k).length=H.p.toNat
 po1:H.po.Nodup
 po2:∀ k,k∈H.po↔k<H.pn
theorem JE(H:Hs){ks:List Nat}(h:∀ k∈ks,k<600):Of ks H.N:=TY h
theorem Lr(H:Hs)(o:H.Ok):Of H.drs H.N:=JE H λk hk=>by have:=mem_range.mp hk;have:=o.hm;omega
theorem Uw(H:Hs){ks:List Nat}(h:∀ k∈ks,k<500):Of ks H.kn:=λa ha b hb e=>by
 have:=Il (X:=H.X) (Q:=H.Q) (j:=20+a) (k:=20+b) (by have:=h a ha;omega) (by have:=h b hb;omega) e
 omega
theorem X2(H:Hs)(o:H.Ok):Of H.ks H.kn:=Uw H λk hk=>by have:=mem_range.mp hk;have:=o.hn;omega
theorem KC(H:Hs)(o:H.Ok):∀ i∈H.ids,20<=i/\i<600:=λi hi=>by
 unfold Hs.ids at hi
 rcases mem_cons.mp hi with rfl|hi
 .decide
 rcases mem_cons.mp hi with rfl|hi
 .decide
 obtain⟨k,hk,rfl⟩:=mem_map.mp hi
 have:=mem_range.mp hk
 have:=o.hn
 omega
theorem LI(H:Hs)(o:H.Ok):H.ids.Nodup:=by
 have b:∀ i∈H.ks.map (20+ ·),i<40:=λi hi=>by
  obtain⟨k,hk,rfl⟩:=mem_map.mp hi
  have:=mem_range.mp hk
  have:=o.hn
  omega
 unfold Hs.ids
 refine nodup_cons.mpr ⟨λz=>?_,nodup_cons.mpr ⟨λz=>?_,?_⟩⟩
 .rcases mem_cons.mp z with z|z
  .exact absurd z (by decide)
  .have:=b _ z;omega
 .have:=b _ z;omega
 .refine Pairwise.map _ (R:=λa b=>a≠b) (λa b h z=>h (by omega)) ?_
  exact nodup_range
theorem QZ(H:Hs)(o:H.Ok):QB H.wgD H.grD=.ok (H.ids.map λi=>D.tup [.str (H.N i),sL (H.mem i) H.N]):=by
 have e:H.ids.map (λi=>D.tup [.str (H.N i),sL (H.mem i) H.N])=HE H.X H.Q H.m H.ct++Lk H.X H.Q H.th H.n:=by
  unfold Hs.ids Lk Hs.ks
  rw[map_cons,map_cons,map_map]
  have:((range H.n).map ((λi=>D.tup [.str (H.N i),sL (H.mem i) H.N])∘λx=>20+x))=(range H.n).map λk=>D.tup [.str (nm H.X H.Q (20+k)),sL (H.th k) (nm H.X H.Q)]:=by
   refine map_congr_left λk hk=>?_
   have:=mem_range.mp hk
   have:=o.hn
   show D.tup [.str (H.N (20+k)),sL (H.mem (20+k)) H.N]=_
   have em:H.mem (20+k)=H.th k:=by
    unfold Hs.mem
    rw[if_pos (by omega),show 20+k-20=k by omega]
   rw[em];rfl
  rw[this]
  rfl
 rw[e]
 refine YK _ _ ?_
 rw[JF]
 have:=o.hn
 show 2+H.n<=1000
 omega
theorem Ak(H:Hs)(o:H.Ok)(hi:i∈H.ids):Zj H.meT (H.N i)=(H.mem i).map H.N:=by
 unfold Zj Hs.meT
 rw[Ft (JE H λk hk=>(KC H o k hk).2) hi]
 show(Kp ((H.mem i).map λk=>D.str (H.N k))).getD []=_
 have:((H.mem i).map λk=>D.str (H.N k))=((H.mem i).map H.N).map D.str:=by rw[map_map];rfl
 rw[this,Jn];rfl
theorem ZN(H:Hs)(o:H.Ok)(hj:j<H.m):Zj H.meT (H.N j)= []:=by
 unfold Zj Hs.meT
 rw[Yq λk hk e=>by
  have h1:=KC H o k hk
  have h2:=o.hm
  have:=Il (X:=H.X) (Q:=H.Q) (j:=k) (k:=j) (by omega) (by omega) e
  omega]
theorem UU(H:Hs):QR H.meT:=λp hp=>by
 unfold Hs.meT tK at hp
 obtain⟨k,_,rfl⟩:=mem_map.mp hp
 exact⟨(H.mem k).map H.N,by show sL (H.mem k) H.N=_;unfold sL;rw[map_map];rfl⟩
theorem Z7(H:Hs)(o:H.Ok)(hk:k<H.n):20+k∈H.ids/\H.mem (20+k)=H.th k:=by
 have:=o.hn
 refine⟨mem_cons_of_mem _ (mem_cons_of_mem _ (mem_map.mpr ⟨k,mem_range.mpr hk,rfl⟩)),?_⟩
 unfold Hs.mem
 rw[if_pos (by omega),show 20+k-20=k by omega]
theorem B3(H:Hs):40∈H.ids/\H.mem 40=H.drs.drop H.ct:=⟨mem_cons_self,rfl⟩
theorem C3(H:Hs):41∈H.ids/\H.mem 41= [40,0]:=⟨mem_cons_of_mem _ mem_cons_self,rfl⟩
variable{ct:Nat}
theorem Hl{a:Nat}:a∈(range m).drop ct↔ct<=a/\a<m:=by
 constructor
 .intro h
  obtain⟨i,hi⟩:=List.mem_iff_getElem?.mp h
  rw[List.getElem?_drop]at hi
  have h2:=(List.getElem?_eq_some_iff.mp hi).1
  rw[length_range]at h2
  rw[getElem?_range h2]at hi
  have:=Option.some.inj hi
  omega
 .rintro⟨h1,h2⟩
  refine List.mem_iff_getElem?.mpr ⟨a-ct,?_⟩
  rw[List.getElem?_drop,getElem?_range (by omega)]
  congr 1;omega
theorem IL(H:Hs)(o:H.Ok)(hk:k<H.n):Wa 2 Qf [H.hsD,.str (H.kn k)]=.ok (sL (H.own k) H.N):=by
 have f2:Si "House" "doors" H.hsD=.ok (sL H.drs H.N):=K7 H.ru (sL H.drs H.N) H.wgD H.grD
 have f3:Si "House" "wings" H.hsD=.ok H.wgD:=Cb0 H.ru (sL H.drs H.N) H.wgD H.grD
 have f4:Si "House" "grants" H.hsD=.ok H.grD:=L7 H.ru (sL H.drs H.N) H.wgD H.grD
 have c1:=QZ H o
 have dc:Mg (.lst (H.ids.map λi=>D.tup [.str (H.N i),sL (H.mem i) H.N]))=.ok (dK H.meT):=Sq (g:=λi=>sL (H.mem i) H.N) (JE H λk hk=>(KC H o k hk).2) (LI H o)
 have hm:=o.hm
 have hn:=o.hn
 have g:=o.gr k hk
 obtain⟨hk1,hk2⟩:=Z7 H o hk
 obtain⟨h40,e40⟩:=B3 H
 obtain⟨h41,e41⟩:=C3 H
 have memU:∀ i∈(20+k)::40::41::H.drs,(Zj H.meT (H.N i)).length<=20/\∀ z∈Zj H.meT (H.N i),z∈((20+k)::40::41::H.drs).map H.N:=λi hi=>by
  rcases mem_cons.mp hi with rfl|hi
  .rw[Ak H o hk1,hk2,length_map]
   refine⟨by have:=g.tl;omega,λz hz=>?_⟩
   obtain⟨a,ha,rfl⟩:=mem_map.mp hz
   refine mem_map_of_mem ?_
   rcases g.tb a ha with h|rfl|rfl
   .exact mem_cons_of_mem _ (mem_cons_of_mem _ (mem_cons_of_mem _ (mem_range.mpr h)))
   .exact mem_cons_of_mem _ mem_cons_self
   .exact mem_cons_of_mem _ (mem_cons_of_mem _ mem_cons_self)
  rcases mem_cons.mp hi with rfl|hi
  .rw[Ak H o h40,e40,length_map]
   refine⟨by rw[List.length_drop];unfold Hs.drs;rw[length_range];omega,λz hz=>?_⟩
   obtain⟨a,ha,rfl⟩:=mem_map.mp hz
   exact mem_map_of_mem (mem_cons_of_mem _ (mem_cons_of_mem _ (mem_cons_of_mem _ (List.mem_of_mem_drop ha))))
  rcases mem_cons.mp hi with rfl|hi
  .rw[Ak H o h41,e41,length_map]
   refine⟨by simp,λz hz=>?_⟩
   obtain⟨a,ha,rfl⟩:=mem_map.mp hz
   refine mem_map_of_mem ?_
   rcases mem_cons.mp ha with rfl|ha
   .exact mem_cons_of_mem _ mem_cons_self
   .rw[mem_singleton.mp ha]
    exact mem_cons_of_mem _ (mem_cons_of_mem _ (mem_cons_of_mem _ (mem_range.mpr (by have:=o.m1;omega))))
  .rw[ZN H o (mem_range.mp hi)]
   exact⟨by simp,λz hz=>by simp at hz⟩
 have lU:(((20+k)::40::41::H.drs).map H.N).length<=22:=by
  rw[length_map,List.length_cons,List.length_cons,List.length_cons];unfold Hs.drs;rw[length_range];omega
 have lf:NR (((20+k)::40::41::H.drs).map H.N) []<=22:=le_trans (List.length_filter_le _ _) lU
 obtain⟨R,y,wh,a1,a2,a3⟩:=HL H.hsD (.str (H.kn k)) H.meT (UU H) (((20+k)::40::41::H.drs).map H.N) 20 (λx hx=>by
  obtain⟨i,hi,rfl⟩:=mem_map.mp hx
  exact memU i hi) (by decide) (by omega) 100000 [H.kn k] [] none (by rw[length_singleton];omega) (λx hx=>by
   rw[mem_singleton.mp hx];exact mem_map_of_mem (f:=H.N) mem_cons_self) (by simp only[length_nil];omega) (by rw[length_singleton];omega)
 have cl:=a2 (λx hx=>by simp at hx)
 have k0:H.N (20+k)∈R:=a1 _ (.inr (mem_singleton.mpr rfl))
 have go:∀ i∈H.ids,H.N i∈R->∀ a∈H.mem i,H.N a∈R:=λi hi hR a ha=>cl _ hR _ (by rw[Ak H o hi];exact mem_map_of_mem ha)
 have inR':∀ j,j<H.m->(H.N j∈R↔H.ob k j=true):=λj hj=>by
  constructor
  .intro hx
   have:=a3 (λx=>∃ i,x=H.N i/\i<600/\(i=20+k\/(i<H.m/\H.ob k i=true)\/(i=40/\(40∈H.th k\/41∈H.th k))\/(i=41/\41∈H.th k))) (λx hx z hz=>by
    obtain⟨i,rfl,_,h⟩:=hx
    rcases h with rfl|⟨h,_⟩|⟨rfl,h⟩|⟨rfl,h⟩
    .rw[Ak H o hk1,hk2]at hz
     obtain⟨a,ha,rfl⟩:=mem_map.mp hz
     rcases g.tb a ha with h|rfl|rfl
     .exact⟨a,rfl,by omega,.inr (.inl ⟨h,(g.ob a h).mpr (.inl ha)⟩)⟩
     .exact⟨40,rfl,by decide,.inr (.inr (.inl ⟨rfl,.inl ha⟩))⟩
     .exact⟨41,rfl,by decide,.inr (.inr (.inr ⟨rfl,ha⟩))⟩
    .rw[ZN H o h]at hz;simp at hz
    .rw[Ak H o h40,e40]at hz
     obtain⟨a,ha,rfl⟩:=mem_map.mp hz
     obtain⟨b1',b2'⟩:=Hl.mp ha
     exact⟨a,rfl,by omega,.inr (.inl ⟨b2',(g.ob a b2').mpr (.inr (.inl ⟨b1',h⟩))⟩)⟩
    .rw[Ak H o h41,e41]at hz
     obtain⟨a,ha,rfl⟩:=mem_map.mp hz
     rcases mem_cons.mp ha with rfl|ha
     .exact⟨40,rfl,by decide,.inr (.inr (.inl ⟨rfl,.inr h⟩))⟩
     .rw[mem_singleton.mp ha]
      exact⟨0,rfl,by decide,.inr (.inl ⟨by have:=o.m1;omega,(g.ob 0 (by have:=o.m1;omega)).mpr (.inr (.inr ⟨rfl,h⟩))⟩)⟩) (λx hx=>by
    rcases hx with hx|hx
    .simp at hx
    .exact⟨20+k,mem_singleton.mp hx,by omega,.inl rfl⟩) _ hx
   obtain⟨i,e,hi,h⟩:=this
   have:=Il (X:=H.X) (Q:=H.Q) (j:=j) (k:=i) (by omega) hi e
   subst this
   rcases h with h|h|h|h
   .omega
   .exact h.2
   .omega
   .omega
  .intro hx
   rcases(g.ob j hj).mp hx with h|⟨h1,h⟩|⟨h1,h⟩
   .exact go _ hk1 k0 j (by rw[hk2];exact h)
   .have r40:H.N 40∈R:=by
     rcases h with h|h
     .exact go _ hk1 k0 40 (by rw[hk2];exact h)
     .exact go _ h41 (go _ hk1 k0 41 (by rw[hk2];exact h)) 40 (by rw[e41];exact mem_cons_self)
    exact go _ h40 r40 j (by rw[e40];exact Hl.mpr ⟨h1,hj⟩)
   .subst h1
    exact go _ h41 (go _ hk1 k0 41 (by rw[hk2];exact h)) 0 (by rw[e41];exact mem_cons_of_mem _ mem_cons_self)
 have cm:∀ δ,De 1 (Gb 0) Vg Sj (sd H.hsD::sd (.str (H.kn k))::sd (dK H.meT)::sd (.dct (R.map λx=>(Sum.inr x:Cb)) (R.map λ_=>D.bl true))::δ) (H.drs.map λj=>D.str (H.N j))=.ok ((H.own k).map λj=>D.str (H.N j)):=λδ=>by
  refine Hd ?_ (by rw[length_map];unfold Hs.drs;rw[length_range];omega)
  exact Lh (gc:=Vg) (fe:=Sj) (λj=>H.ob k j) (λj=>D.str (H.N j)) (λj=>D.str (H.N j)) (sd H.hsD::sd (.str (H.kn k))::sd (dK H.meT)::sd (.dct (R.map λx=>(Sum.inr x:Cb)) (R.map λ_=>D.bl true))::δ) H.drs none (λj hj=>by
   have hj':=mem_range.mp hj
   refine⟨?_,λ_=>rfl⟩
   have q1:Rc 4 (sd (.str (H.N j))::sd H.hsD::sd (.str (H.kn k))::sd (dK H.meT)::sd (.dct (R.map λx=>(Sum.inr x:Cb)) (R.map λ_=>D.bl true))::δ)=.ok (rK R):=by
    rw[<-KD];rfl
   have q2:Rw (.str (H.N j)) (rK R)=.ok (.bl (H.ob k j)):=by
    show Res.ok (D.bl (Cc (rK R) (.inr (H.N j))).isSome)=_
    rw[Ox]
    congr 2
    rw[Bool.eq_iff_iff,decide_eq_true_eq,inR' j hj']
   unfold Vg
   simp only[tR,LH,Oa,Res.bind_ok,q1,q2,Za])
 refine Vb _ _ _ _ ?_ rfl
 have sq:Qd (sL H.drs H.N)=.ok (H.drs.map λj=>D.str (H.N j)):=rfl
 have fz:EC 3 (Ji H.hsD (.str (H.kn k)) (.dct (H.meT.map (·.1)) (H.meT.map (·.2))) R [] y)= [sd H.hsD,sd (.str (H.kn k)),sd (dK H.meT),sd (.dct (R.map λx=>(Sum.inr x:Cb)) (R.map λ_=>D.bl true)),some (.o []),y]:=rfl
 unfold Qf Br
 walk_at "s"
 simp only[List.length_cons,length_nil,reduceAdd,b1,NZ,Bf,Cf,Aa,Qa,Ra,Ab,Jc,Sh,Th,QD,Ta,Ya,Res.bind_ok,f2,f3,f4,c1,dc,Hb,Bb,set_cons_zero,set_cons_succ,reduceLeDiff,if_true,reduceIte]
 change AM (Jm (Ie Sd Td 100000 (Ji H.hsD (.str (H.kn k)) (.dct (H.meT.map (·.1)) (H.meT.map (·.2))) [] [H.kn k] none)) _)=_
 rw[wh,Bb]
 unfold Gu
 rw[fz]
 simp only[Rb,Bf,Fc,b1,Ta,Res.bind_ok,f2,sq,cm,Hb,Ec]
 rfl
theorem FO(H:Hs)(o:H.Ok):Wa 1 Rf [H.grD]=.ok (sL H.ks H.kn):=by
 have hl:H.ks.length<=1000:=by unfold Hs.ks;rw[length_range];have:=o.hn;omega
 have cm:De 2 (Hc 2 (Sa (Gb 0) (Sa (Gb 1) Gc))) (λ_=>.ok true) Uj [sd H.grD] (H.ks.map λk=>D.tup [.str (H.kn k),sL (H.th k) H.N])=.ok (H.ks.map λk=>D.str (H.kn k)):=by
  refine Hd ?_ (by rw[length_map];omega)
  have:=Vk (gc:=λ_=>.ok true) (fe:=Uj) (λ_=>true) (λk=>D.str (H.kn k)) (λk=>sL (H.th k) H.N) (λk=>D.str (H.kn k)) [sd H.grD] H.ks none none (λk _=>⟨rfl,λ_=>rfl⟩)
  rw[Mh]at this
  exact this
 have sq:Qd H.grD=.ok (H.ks.map λk=>D.tup [.str (H.kn k),sL (H.th k) H.N]):=rfl
 refine Vb _ _ _ _ ?_ rfl
 unfold Rf Cr
 walk_at "s"
 simp only[b1,Bf,Fc,Rb,Ta,Res.bind_ok,sq,cm,Hb,Ec]
 rfl
theorem ON(H:Hs):H.ks.Nodup:=nodup_range
theorem FG(H:Hs)(k:Nat):∀ a∈H.own k,a∈H.drs:=λa ha=>(mem_filter.mp ha).1
theorem EG(H:Hs)(k:Nat)(hj:j∈H.drs):decide (j∈H.own k)=H.ob k j:=by
 rw[Bool.eq_iff_iff,decide_eq_true_eq]
 unfold Hs.own
 rw[mem_filter]
 exact⟨λz=>z.2,λz=>⟨hj,z⟩⟩
theorem LQ(H:Hs)(o:H.Ok):Wa 1 Sf [H.hsD]=.ok (dK H.spT):=by
 have f4:Si "House" "grants" H.hsD=.ok H.grD:=L7 H.ru (sL H.drs H.N) H.wgD H.grD
 have nms:=FO H o
 have cm:De 1 (Gb 0) (λ_=>.ok true) Yg [sd H.hsD] (H.ks.map λk=>D.str (H.kn k))=.ok (H.ks.map λk=>D.tup [.str (H.kn k),sL (H.own k) H.N]):=by
  refine Hd ?_ (by rw[length_map];unfold Hs.ks;rw[length_range];have:=o.hn;omega)
  have:=Lh (gc:=λ_=>.ok true) (fe:=Yg) (λ_=>true) (λk=>D.str (H.kn k)) (λk=>D.tup [.str (H.kn k),sL (H.own k) H.N]) [sd H.hsD] H.ks none (λk hk=>⟨rfl,λ_=>by
   have e:=IL H o (mem_range.mp hk)
   unfold Yg
   simp only[b1,Qg,Aa,Qa,Ra,Ta,Ya,Res.bind_ok,e,List.length_cons,length_nil,reduceAdd,reduceLeDiff,if_true,reduceIte]⟩)
  rw[Mh]at this
  exact this
 have dc:=Sq (g:=λk=>sL (H.own k) H.N) (X2 H o) (ON H)
 have sq:Qd (sL H.ks H.kn)=.ok (H.ks.map λk=>D.str (H.kn k)):=rfl
 refine Vb _ _ _ _ ?_ rfl
 unfold Sf Dr
 walk_at "s"
 simp only[b1,Bf,Fc,Aa,Qa,Ra,Rb,Ta,Res.bind_ok,f4,nms,sq,cm,dc,Hb,Ec]
 rfl
theorem MF(H:Hs)(o:H.Ok):Wa 1 Ue [H.hsD]=.ok (dK H.heT):=by
 have f2:Si "House" "doors" H.hsD=.ok (sL H.drs H.N):=K7 H.ru (sL H.drs H.N) H.wgD H.grD
 have sp:=LQ H o
 have pr:=Ms H.kn (λk=>sL (H.own k) H.N) H.ks
 have cm:De 1 (Gb 0) (λ_=>.ok true) Ai [sd H.hsD,sd (dK H.spT)] (H.drs.map λj=>D.str (H.N j))=.ok (H.drs.map λj=>D.tup [.str (H.N j),sL (H.hold j) H.kn]):=by
  refine Hd ?_ (by rw[length_map];unfold Hs.drs;rw[length_range];have:=o.hm;omega)
  have:=Lh (gc:=λ_=>.ok true) (fe:=Ai) (λ_=>true) (λj=>D.str (H.N j)) (λj=>D.tup [.str (H.N j),sL (H.hold j) H.kn]) [sd H.hsD,sd (dK H.spT)] H.drs none (λj hj=>⟨rfl,λ_=>by
   have cm2:De 2 (Hc 2 (Sa (Gb 0) (Sa (Gb 1) Gc))) Yh Zk [sd (.str (H.N j)),sd H.hsD,sd (dK H.spT)] (H.ks.map λk=>D.tup [.str (H.kn k),sL (H.own k) H.N])=.ok ((H.hold j).map λk=>D.str (H.kn k)):=by
    refine Hd ?_ (by rw[length_map];unfold Hs.ks;rw[length_range];have:=o.hn;omega)
    exact Vk (gc:=Yh) (fe:=Zk) (λk=>H.ob k j) (λk=>D.str (H.kn k)) (λk=>sL (H.own k) H.N) (λk=>D.str (H.kn k)) [sd (.str (H.N j)),sd H.hsD,sd (dK H.spT)] H.ks none none (λk hk=>⟨by
     have e:=LC (Lr H o) (FG H k) hj
     rw[EG H k hj]at e
     unfold Yh
     simp only[tR,b2,Oa,Ua,Res.bind_ok,e,Za],λ_=>rfl⟩)
   unfold Ai
   simp only[b1,KB,Bf,Fc,Qg,Aa,Qa,Ra,Ta,Ya,Res.bind_ok,Hs.spT,pr,cm2,List.length_cons,length_nil,reduceAdd,reduceLeDiff,if_true,reduceIte]
   rw[show dK (tK H.ks H.kn λk=>sL (H.own k) H.N)=dK H.spT from rfl,cm2]
   simp only[Res.bind_ok,Ra,Qg,List.length_cons,length_nil,reduceAdd,reduceLeDiff,if_true,reduceIte]
   rfl⟩)
  rw[Mh]at this
  exact this
 have dc:=Sq (g:=λj=>sL (H.hold j) H.kn) (Lr H o) (nodup_range (n:=H.m))
 have sq:Qd (sL H.drs H.N)=.ok (H.drs.map λj=>D.str (H.N j)):=rfl
 refine Vb _ _ _ _ ?_ rfl
 unfold Ue Lu
 walk_at "s"
 simp only[b1,Bf,Fc,Aa,Qa,Ra,Ab,Jc,Rb,Ta,Res.bind_ok,sp,f2,sq,cm,Hb,Bb,Ec,set_cons_zero,set_cons_succ]
 change AM (Qk (Mg (.lst (H.drs.map λj=>D.tup [.str (H.N j),sL (H.hold j) H.kn]))) _)=_
 rw[dc]
 rfl
theorem Q9(X Q:Str)(m ct:Nat):HE X Q m ct=([(nm X Q 40,((range m).drop ct).map (nm X Q)),(nm X Q 41,[nm X Q 40,nm X Q 0])]:List (Str×List Str)).map GB:=by
 have e:(((range m).drop ct).map (nm X Q)).map D.str=((range m).drop ct).map λk=>D.str (nm X Q k):=by rw[map_map];rfl
 show _= [D.tup [.str (nm X Q 40),.lst ((((range m).drop ct).map (nm X Q)).map D.str)],D.tup [.str (nm X Q 41),.lst [.str (nm X Q 40),.str (nm X Q 0)]]]
 rw[e];rfl
theorem O7(X Q:Str)(th:Nat->List Nat)(n:Nat):Lk X Q th n=((range n).map λk=>(nm X Q (20+k),(th k).map (nm X Q))).map GB:=by
 unfold Lk
 rw[map_map]
 refine map_congr_left λk _=>?_
 show D.tup [.str (nm X Q (20+k)),sL (th k) (nm X Q)]=D.tup [.str (nm X Q (20+k)),.lst (((th k).map (nm X Q)).map D.str)]
 unfold sL
 rw[map_map];rfl
theorem TM(H:Hs)(o:H.Ok):Wa 4 (As 4 "House" Hg) [H.ru,.lst (Vl H.X H.Q H.m),.lst (HE H.X H.Q H.m H.ct),.lst (Lk H.X H.Q H.th H.n)]=.ok H.hsD:=by
 have:=SU H.ru (Vl H.X H.Q H.m) [(nm H.X H.Q 40,((range H.m).drop H.ct).map (nm H.X H.Q)),(nm H.X H.Q 41,[nm H.X H.Q 40,nm H.X H.Q 0])] ((range H.n).map λk=>(nm H.X H.Q (20+k),(H.th k).map (nm H.X H.Q))) (by show 2<=1000;decide) (by rw[length_map,length_range];have:=o.hn;omega)
 rw[<-Q9,<-O7]at this
 exact this
theorem Me(δ:Ca):BG (.nx δ)=.nx δ:=rfl
theorem Bj(d:D):BG (.rt d)=.rt d:=rfl
def VT:Out->Res D
 | .rt d=>.ok d
 | .nx _=>.ok .non
 | .ex c fs=>.ex c fs
 |_=>.stuck
theorem Wd(n:Nat)(g:Ca->Out)(ds:List D):Ip n g ds=VT (g (Ob n ds)):=by unfold Ip VT;cases g (Ob n ds)<;>rfl
theorem Vj(d:D):VT (.rt d)=.ok d:=rfl
theorem Wl(c:Str)(fs:List D):VT (.ex c fs)=.ex c fs:=rfl
theorem seqO_ex(c:Str)(fs:List D)(g:Ca->Out):Jm (.ex c fs) g=.ex c fs:=rfl
theorem DM{t:D->Ca->Res Ca}{body:Ca->Out}{c:Str}(I:Nat->Ca->Prop)(ok:Nat->Bool)(fs:Nat->List D)(ds:List D)(δ:Ca)(hb:∀ i d δ,ds[i]? =some d->I i δ->∃ δ',t d δ= .ok δ'/\((ok i=true/\∃ δ2,body δ'=.nx δ2/\I (i+1) δ2)\/(ok i=false/\body δ'=.ex c (fs i))))(h:I 0 δ):
  (∃ δ2,Ng t body ds δ= .nx δ2/\I ds.length δ2/\∀ i,i<ds.length->ok i=true)\/∃ i,i<ds.length/\ok i=false/\(∀ j,j<i->ok j=true)/\Ng t body ds δ= .ex c (fs i):=by
 induction ds generalizing I δ ok fs with
 |nil=>exact .inl ⟨δ,rfl,h,λi hi=>absurd hi (Nat.not_lt_zero _)⟩
 |cons d ds ih=>
  obtain⟨δ',e1,hh⟩:=hb 0 d δ rfl h
  rw[Yl d ds δ δ' e1]
  rcases hh with⟨o0,δ2,e2,h2⟩|⟨o0,e2⟩
  .rw[e2]
   rcases ih (λi=>I (i+1)) (λi=>ok (i+1)) (λi=>fs (i+1)) δ2 (λi d δ hd hI=>hb (i+1) d δ hd hI) h2 with⟨δ3,f,hI,ho⟩|⟨i,hi,oi,oj,f⟩
   .refine .inl ⟨δ3,f,hI,λi hi=>?_⟩
    cases i with
    |zero=>exact o0
    |succ i=>exact ho i (by simpa using hi)
   .refine .inr ⟨i+1,by simpa using hi,oi,λj hj=>?_,f⟩
    cases j with
    |zero=>exact o0
    |succ j=>exact oj j (by omega)
  .rw[e2];exact .inr ⟨0,by simp,o0,λj hj=>absurd hj (Nat.not_lt_zero _),rfl⟩
theorem PU(p d h s:Int)(C:List (List Int))(hp:0<=p)(hp2:p<=100)(hc:∀ c∈C,c.length=p.toNat)(hn:C.length<64):
  (Pc [.tup [.int p,.int d,.int h,.int s],cD C]=.ok (bD (Uh p.toNat C))/\∀ i,i<p.toNat->okH h C i=true)\/∃ i,i<p.toNat/\okH h C i=false/\(∀ j,j<i->okH h C j=true)/\Pc [.tup [.int p,.int d,.int h,.int s],cD C]=.ex "TooHigh" [.tup [.str "place"],.int (i:Int)]:=by
 have pl:Wa 1 Ig [.tup [.int p,.int d,.int h,.int s]]=.ok (.int p):=rfl
 have hg:Wa 1 Hf [.tup [.int p,.int d,.int h,.int s]]=.ok (.int h):=rfl
 have rg:=Px p hp (by omega)
 have hn2:p.toNat<=100:=by omega
 generalize p.toNat=n at*
 generalize D.tup [.int p,.int d,.int h,.int s]=RU at*
 have sq:Qd (cD C)=.ok (C.map pD):=rfl
 have lo:=DM (t:=Gb 3) (body:=Ah) (c:="TooHigh") (λi δ=>∃ (x y:Option L3.S),δ= [sd RU,sd (cD C),some (.o ((Uh i C).map pD)),x,y]) (okH h C) (λi=> [.tup [.str "place"],.int (i:Int)]) (Wh 0 n) [sd RU,sd (cD C),some (.o []),none,none] (λi e δ he hI=>by
  obtain⟨x,y,rfl⟩:=hI
  obtain⟨hi,rfl⟩:=Ws he
  rw[Int.zero_add]
  have cm:=LY (fe:=Tj) C i (λc h1=>by rw[hc c h1];exact hi) hn [sd RU,sd (cD C),some (.o ((Uh i C).map pD)),sd (.int (i:Int)),y] (λc e1=>by
   unfold Tj
   simp only[b2,Oa,Ua,Res.bind_ok,e1])
  have so:=VG (C.map λc=>c.getD i 0) (by rw[length_map];exact hn)
  have dt:LF (.int (((Qb (C.map λc=>c.getD i 0)).map D.int).length:Int)) (.int h)=.ok (.bl (!okH h C i)):=by
   rw[Wo,length_map]
   unfold okH
   congr 2
   by_cases z:((Qb (C.map λc=>c.getD i 0)).length:Int)<=h
   .rw[decide_eq_true z];exact decide_eq_false (by omega)
   .rw[decide_eq_false z];exact decide_eq_true (by omega)
  have ap:=Pq 2 [sd RU,sd (cD C),some (.o ((Uh i C).map pD)),sd (.int (i:Int)),sd (pD (Qb (C.map λc=>c.getD i 0)))] ((Uh i C).map pD) (pD (Qb (C.map λc=>c.getD i 0))) rfl (by rw[length_map,VN];omega)
  have es:(Uh (i+1) C).map pD=(Uh i C).map pD++ [pD (Qb (C.map λc=>c.getD i 0))]:=by
   unfold Uh
   rw[List.range_succ,map_append,map_append,map_singleton,map_singleton]
  refine⟨_,rfl,?_⟩
  have tp:Se (.lst ((Qb (C.map λc=>c.getD i 0)).map D.int))=.ok (pD (Qb (C.map λc=>c.getD i 0))):=rfl
  have ln:Yj (pD (Qb (C.map λc=>c.getD i 0)))=.ok (.int ((Qb (C.map λc=>c.getD i 0)).map D.int).length):=rfl
  have hi3:Jp [("place",true)] [.int (i:Int)]=true:=by
   show((decide (0<=(i:Int))&&decide ((i:Int)<1000))&&true)=true
   rw[decide_eq_true (by omega),decide_eq_true (by omega)];rfl
  cases ho:okH h C i with
  |true=>
   refine .inl ⟨rfl,[sd RU,sd (cD C),some (.o ((Uh (i+1) C).map pD)),sd (.int (i:Int)),sd (pD (Qb (C.map λc=>c.getD i 0)))],?_,_,_,rfl⟩
   rw[es]
   rw[ho]at dt
   clear es ho
   generalize pD (Qb (C.map λc=>c.getD i 0))=PV at*
   generalize (Qb (C.map λc=>c.getD i 0)).map D.int=V at*
   generalize (C.map λc=>c.getD i 0).map D.int=V0 at*
   unfold Ah
   simp only[Vh,GV,Nf,Me,Bj,Bc,set_cons_zero,set_cons_succ,Ab,Jc,Dg,Xs,tR,b1,b2,Bf,Fc,Aa,Qa,Ra,Ta,Ya,Oa,Ua,Res.bind_ok,sq,cm,so,tp,ln,Hb,Bb,hg,dt,Za,Ub,Bool.not_true,false_eq_true,if_false,reduceIte,ap]
  |false=>
   refine .inr ⟨rfl,?_⟩
   rw[ho]at dt
   clear es ho
   generalize pD (Qb (C.map λc=>c.getD i 0))=PV at*
   generalize (Qb (C.map λc=>c.getD i 0)).map D.int=V at*
   generalize (C.map λc=>c.getD i 0).map D.int=V0 at*
   unfold Ah
   simp only[Vh,GV,Nf,Me,Bj,Bc,set_cons_zero,set_cons_succ,Ab,Jc,Dg,Xs,tR,b1,b2,Bf,Fc,Aa,Qa,Ra,Ta,Ya,Oa,Ua,Res.bind_ok,sq,cm,so,tp,ln,Hb,Bb,seqO_ex,hg,dt,Za,Ub,Bool.not_false,if_true,reduceIte,Qx,V8]
   rw[if_pos hi3]
   rfl) ⟨none,none,rfl⟩
 rw[Ho]at lo
 rcases lo with⟨δ2,f,⟨x,y,rfl⟩,ho⟩|⟨i,hi,oi,oj,f⟩
 .refine .inl ⟨?_,ho⟩
  have tp:Se (.lst ((Uh n C).map pD))=.ok (bD (Uh n C)):=rfl
  clear ho hc
  generalize bD (Uh n C)=OUT at*
  generalize (Uh n C).map pD=V at*
  generalize cD C=CC at*
  unfold Pc An
  simp only[Wd,Vh,Nf,Me,Bj,Bc,Ob,map_cons,map_nil,List.length_cons,length_nil,cons_append,nil_append,reduceAdd,reduceSub,replicate,kD,b1,Cf,Aa,Qa,Ra,Ab,Sh,Kf,Rb,Ta,Ya,Oa,Oe,Ua,Res.bind_ok,pl,rg,f,tp,Hb,Bb,Vj,set_cons_zero,set_cons_succ,zero_le,if_true,reduceIte]
 .refine .inr ⟨i,hi,oi,oj,?_⟩
  clear oi oj hi hc
  generalize cD C=CC at*
  unfold Pc An
  simp only[Wd,Vh,Nf,Me,Bj,Bc,Ob,map_cons,map_nil,List.length_cons,length_nil,cons_append,nil_append,reduceAdd,reduceSub,replicate,kD,b1,Cf,Aa,Qa,Ra,Ab,Sh,Kf,Rb,Ta,Ya,Oa,Oe,Ua,Res.bind_ok,pl,rg,f,Hb,Bb,seqO_ex,Wl,set_cons_zero,set_cons_succ,zero_le,if_true,reduceIte]
theorem Yu{ok:Nat->Bool}(h:∀ i,i<n->ok i=true):(range n).find? (λi=> !ok i)=none:=by
 rw[List.find?_eq_none]
 intro i hi
 rw[h i (mem_range.mp hi)];simp
theorem FI{ok:Nat->Bool}(hi:i<n)(oi:ok i=false)(hb:∀ j,j<i->ok j=true):(range n).find? (λi=> !ok i)=some i:=by
 rw[List.find?_range_eq_some]
 exact⟨by rw[oi];rfl,mem_range.mpr hi,λj hj=>by rw[hb j hj];rfl⟩
def OR(p h:Int)(C:List (List Int)):Option Nat:=(range p.toNat).find? λi=> !okH h C i
theorem QU(p d h s:Int)(C:List (List Int))(hp:0<=p)(hp2:p<=100)(hc:∀ c∈C,c.length=p.toNat)(hn:C.length<64):
  Pc [Kn p d h s,cD C]=match OR p h C with
   |none=>.ok (bD (Uh p.toNat C))
   |some i=>.ex "TooHigh" [.tup [.str "place"],.int (i:Int)]:=by
 rcases PU p d h s C hp hp2 hc hn with⟨e,ho⟩|⟨i,hi,oi,ob,e⟩
 .rw[show OR p h C=none from Yu ho];exact e
 .rw[show OR p h C=some i from FI hi oi ob];exact e
theorem Q4{p h:Int}{C:List (List Int)}(e:OR p h C=some i):i<p.toNat:=mem_range.mp (List.mem_of_find?_eq_some e)
theorem RW{p h:Int}(hh:0<=h):OR p h []=none:=Yu λi _=>by
 unfold okH
 exact decide_eq_true (by show((0:Nat):Int)<=h;omega)
theorem OK(p d h s:Int)(door:Str)(C:List (List Int))(hp:0<=p)(hp2:p<=100)(hh:0<=h)(hc:∀ c∈C,c.length=p.toNat)(hn:C.length<64)(hd:UJ false (.str door)=true):
  Xb [Kn p d h s,.str door,cD C]=match OR p h C with
   |none=>.ok (if C= [] then .non else bD (Uh p.toNat C))
   |some i=>.ex "Steep" [.non,.tup [.str "door",.str "place"],.str door,.int (i:Int)]:=by
 have ln:Yj (cD C)=.ok (.int (C.length:Int)):=by show Yj (.lst (C.map pD))=_;rw[Dp,length_map]
 by_cases hz:C= []
 .subst hz
  rw[RW hh]
  have ez:(((([]:List (List Int)).length:Nat):Int)==0)=true:=rfl
  unfold Xb Tg
  simp only[Wd,Vh,Ob,map_cons,map_nil,List.length_cons,length_nil,cons_append,nil_append,reduceAdd,reduceSub,replicate,kD,b1,b2,tR,Ab,Dg,Rb,Oa,Ua,Res.bind_ok,ln,Ff,Za,Ub,Hb,Fi,if_true,reduceIte,Vj,Bj,show(((0:Nat):Int)==0)=true from rfl]
 .have ez:(((C.length:Nat):Int)==0)=false:=by
   rw[beq_eq_false_iff_ne]
   intro z
   exact hz (List.length_eq_zero_iff.mp (by omega))
  have le:=QU p d h s C hp hp2 hc hn
  rw[if_neg hz]
  cases hpl:OR p h C with
  |none=>
   rw[hpl]at le
   have le':Pc [Kn p d h s,cD C]=.ok (bD (Uh p.toNat C)):=le
   clear hpl le hz hc
   unfold Xb Tg
   generalize bD (Uh p.toNat C)=OUT at*
   generalize cD C=CC at*
   generalize Kn p d h s=RU at*
   simp only[Wd,Vh,Ob,map_cons,map_nil,List.length_cons,length_nil,cons_append,nil_append,reduceAdd,reduceSub,replicate,kD,b1,b2,tR,Ab,Dg,Rb,Oa,Ua,Res.bind_ok,ln,Ff,ez,Za,Ub,Hb,Me,Bb,Fi,false_eq_true,if_false,if_true,reduceIte,Vj,Hu,AE,Aa,Qa,Ra,Ta,Ya,Bc,Kc,le']
  |some i=>
   have hi:=Q4 hpl
   rw[hpl]at le
   have le':Pc [Kn p d h s,cD C]=.ex "TooHigh" [.tup [.str "place"],.int (i:Int)]:=le
   have sm:Jp [("door",false),("place",true)] [.str door,.int (i:Int)]=true:=by
    show(UJ false (.str door)&&((decide (0<=(i:Int))&&decide ((i:Int)<1000))&&true))=true
    rw[hd,decide_eq_true (by omega),decide_eq_true (by omega)];rfl
   have xf:Uy ["Steep","TooHigh"] "place" (.exc "TooHigh" [.tup [.str "place"],.int (i:Int)])=.ok (.int (i:Int)):=rfl
   have cin:("TooHigh":Str)∈([("TooHigh":Str)]:List Str):=mem_singleton.mpr rfl
   clear hpl le hz hc hi
   unfold Xb Tg
   generalize cD C=CC at*
   generalize Kn p d h s=RU at*
   simp only[Wd,Vh,Ob,map_cons,map_nil,List.length_cons,length_nil,cons_append,nil_append,reduceAdd,reduceSub,replicate,kD,b1,b2,tR,Ab,Dg,Rb,Oa,Ua,Res.bind_ok,ln,Ff,ez,Za,Ub,Hb,Me,Bb,seqO_ex,false_eq_true,if_false,if_true,reduceIte,Wl,Hu,AE,Aa,Qa,Ra,Ta,Ya,Bc,Kc,le',cin,P7,Nf,set_cons_zero,set_cons_succ,xf,sm,Ci]
theorem Zl{t:D->Ca->Res Ca}{body:Ca->Out}(I:Nat->Ca->Prop)(u:Nat->D)(P:Nat->Bool)(out:Nat->Out)(hs:∀ k,(∃ d,out k=.rt d)\/∃ c fs,out k=.ex c fs):
  ∀ (L:List Nat) (i0:Nat) (δ:Ca),(∀ i k δ,L[i]? =some k->I (i0+i) δ->∃ δ',t (u k) δ= .ok δ'/\((P k=false/\∃ δ2,body δ'=.nx δ2/\I (i0+i+1) δ2)\/(P k=true/\body δ'=out k)))->I i0 δ->
  (∃ k,L.find? P=some k/\Ng t body (L.map u) δ=out k)\/(L.find? P=none/\∃ δ2,Ng t body (L.map u) δ= .nx δ2/\I (i0+L.length) δ2)
 | [],i0,δ,_,h=>.inr ⟨rfl,δ,rfl,h⟩
 |k::L,i0,δ,hb,h=>by
  obtain⟨δ',e1,hh⟩:=hb 0 k δ rfl h
  rw[map_cons,Yl (u k) (L.map u) δ δ' e1]
  rcases hh with⟨p0,δ2,e2,h2⟩|⟨p0,e2⟩
  .rw[e2,List.find?_cons_of_neg (by rw[p0];simp)]
   have:=Zl I u P out hs L (i0+1) δ2 (λi k' δ hk hI=>by
    have:=hb (i+1) k' δ (by simpa using hk) (by rw[show i0+(i+1)=i0+1+i by omega];exact hI)
    rw[show i0+(i+1)+1=i0+1+i+1 by omega]at this
    exact this) h2
   rw[List.length_cons,show i0+(L.length+1)=i0+1+L.length by omega]
   exact this
  .rw[e2,List.find?_cons_of_pos p0]
   refine .inl ⟨k,rfl,?_⟩
   rcases hs k with⟨d,e⟩|⟨c,fs,e⟩<;> · rw[e]
def Hs.plT(H:Hs):List (Cb×D):=tK H.po H.kn λk=>pD (H.cut k)
def Hs.hp(H:Hs)(j:Nat):List Nat:=H.ks.filter λk=>H.ob k j&&decide (k<H.pn)
def Hs.C(H:Hs)(j:Nat):List (List Int):=(H.hp j).map H.cut
def Hs.lb(H:Hs)(j:Nat):List (List Int):=Uh H.p.toNat (H.C j)
def Hs.pl(H:Hs)(j:Nat):Option Nat:=OR H.p H.h (H.C j)
def Hs.baV(H:Hs)(j:Nat):D:=if H.C j= [] then .non else bD (H.lb j)
def Hs.baT(H:Hs):List (Cb×D):=tK H.drs H.N H.baV
theorem GD(H:Hs)(o:H.Ok):Of H.po H.kn:=Uw H λk hk=>by have:=(o.po2 k).mp hk;have:=o.hn;have:=o.pn;omega
theorem T7(H:Hs)(o:H.Ok)(hk:k<H.n):Rw (.str (H.kn k)) H.plT=.ok (.bl (decide (k<H.pn))):=by
 have h1:=o.hn
 have h2:=o.pn
 by_cases h:k<H.pn
 .rw[decide_eq_true h]
  exact U7 (GD H o) ((o.po2 k).mpr h)
 .rw[decide_eq_false h]
  show Res.ok (D.bl (Cc H.plT (.inr (H.kn k))).isSome)=_
  unfold Hs.plT
  rw[Yq λa ha e=>by
   have ha':=(o.po2 a).mp ha
   have:=Il (X:=H.X) (Q:=H.Q) (j:=20+a) (k:=20+k) (by omega) (by omega) e
   omega]
  rfl
theorem IM(H:Hs)(o:H.Ok)(hk:k<H.pn):Zh H.plT (.str (H.kn k))=.ok (pD (H.cut k)):=FC (GD H o) ((o.po2 k).mpr hk)
theorem QM(H:Hs):k∈H.hold j↔k<H.n/\H.ob k j=true:=by
 unfold Hs.hold Hs.ks
 rw[mem_filter,mem_range]
theorem U1(H:Hs):k∈H.hp j↔k<H.n/\H.ob k j=true/\k<H.pn:=by
 unfold Hs.hp Hs.ks
 rw[mem_filter,mem_range,and_eq_true,decide_eq_true_eq]
theorem EU(H:Hs)(j:Nat):(H.hold j).filter (λk=>decide (k<H.pn))=H.hp j:=by
 unfold Hs.hold Hs.hp
 rw[List.filter_filter]
 exact List.filter_congr λk _=>Bool.and_comm _ _
theorem VM(H:Hs)(o:H.Ok)(j:Nat):(H.hp j).length<=19:=by
 have:=List.length_filter_le (λk=>H.ob k j&&decide (k<H.pn)) H.ks
 have h2:H.ks.length=H.n:=length_range
 have:=o.hn
 unfold Hs.hp
 omega
theorem PM(H:Hs)(o:H.Ok)(j:Nat):(H.hold j).length<=19:=by
 have:=List.length_filter_le (λk=>H.ob k j) H.ks
 have h2:H.ks.length=H.n:=length_range
 have:=o.hn
 unfold Hs.hold
 omega
theorem EK(H:Hs)(o:H.Ok)(j:Nat):∀ c∈H.C j,c.length=H.p.toNat:=λc hc=>by
 obtain⟨k,hk,rfl⟩:=mem_map.mp hc
 exact o.cl k (U1 H |>.mp hk).2.2
theorem Za0(H:Hs)(j:Nat):cD (H.C j)=.lst ((H.hp j).map λk=>pD (H.cut k)):=by
 unfold cD Hs.C;rw[map_map];rfl
theorem U6(H:Hs)(o:H.Ok)(j:Nat):UJ false (.str (H.N j))=true:=by
 obtain⟨h1,h2,h3,h4⟩:=o.xq
 show(decide ((H.N j).length<=60)&&(H.N j).cps.all (λc=>decide (c<1114112)))=true
 have l:(H.N j).length<=60:=by
  unfold Hs.N nm
  rw[Sl,Sl,Sl]
  show H.X.length+1+1+H.Q.length<=60
  omega
 rw[decide_eq_true l,Bool.true_and,<-Array.all_toList,all_eq_true]
 exact λc hc=>decide_eq_true (E3 h3 h4 j c hc)
theorem W4(i:Nat)(δ:Ca)(fi f:Ca->Res D)(c:Str)(fs:List D)(e1:f δ= .ex c fs):Lf i fi f δ= .ex c fs:=by
 unfold Lf
 rw[e1];rfl
abbrev Qe(H:Hs)(j:Nat):List D:= [.non,.tup [.str "door",.str "place"],.str (H.N j),.int (((H.pl j).getD 0:Nat):Int)]
theorem Mu(H:Hs)(o:H.Ok)(hh:0<=H.h):
  (∃ j,H.drs.find? (λj=>(H.pl j).isSome)=some j/\Ng (Hc 2 (Sa (Gb 4) (Sa (Gb 5) Gc))) Nd (H.drs.map λj=>D.tup [.str (H.N j),sL (H.hold j) H.kn]) [sd H.ru,sd (dK H.heT),sd (dK H.plT),some (.q [] []),none,none]=.ex "Steep" (Qe H j))\/
  (H.drs.find? (λj=>(H.pl j).isSome)=none/\∃ δ2,Ng (Hc 2 (Sa (Gb 4) (Sa (Gb 5) Gc))) Nd (H.drs.map λj=>D.tup [.str (H.N j),sL (H.hold j) H.kn]) [sd H.ru,sd (dK H.heT),sd (dK H.plT),some (.q [] []),none,none]=.nx δ2/\
   ∃ x y:Option S,δ2= [sd H.ru,sd (dK H.heT),sd (dK H.plT),sQ H.baT,x,y]):=by
 have hm:=o.hm
 have main:=Zl (t:=Hc 2 (Sa (Gb 4) (Sa (Gb 5) Gc))) (body:=Nd) (λi δ=>∃ x y:Option S,δ= [sd H.ru,sd (dK H.heT),sd (dK H.plT),sQ (tK (range i) H.N H.baV),x,y])
  (λj=>D.tup [.str (H.N j),sL (H.hold j) H.kn]) (λj=>(H.pl j).isSome) (λj=>.ex "Steep" (Qe H j)) (λj=>.inr ⟨_,_,rfl⟩) H.drs 0 [sd H.ru,sd (dK H.heT),sd (dK H.plT),some (.q [] []),none,none] (λi j δ hj hI=>by
   obtain⟨x,y,rfl⟩:=hI
   rw[zero_add]
   have e2:(range H.m)[i]? =some j:=hj
   have hi':i<H.m:=by have:=(List.getElem?_eq_some_iff.mp e2).1;rw[length_range]at this;exact this
   rw[getElem?_range hi']at e2
   have this:j=i:=(Option.some.inj e2).symm
   subst this
   obtain⟨δ0,hδ⟩:∃ δ0:Ca,δ0= [sd H.ru,sd (dK H.heT),sd (dK H.plT),sQ (tK (range j) H.N H.baV),sd (.str (H.N j)),sd (sL (H.hold j) H.kn)]:=⟨_,rfl⟩
   have t0:Hc 2 (Sa (Gb 4) (Sa (Gb 5) Gc)) (D.tup [.str (H.N j),sL (H.hold j) H.kn]) [sd H.ru,sd (dK H.heT),sd (dK H.plT),sQ (tK (range j) H.N H.baV),x,y]=.ok δ0:=by rw[hδ];rfl
   have s0:Ea 0 δ0=.ok H.ru:=by rw[hδ];rfl
   have s4:Ea 4 δ0=.ok (.str (H.N j)):=by rw[hδ];rfl
   have s5:Ea 5 δ0=.ok (sL (H.hold j) H.kn):=by rw[hδ];rfl
   have s2:∀ d,Rc 3 (sd d::δ0)=.ok H.plT:=λd=>by rw[hδ];simp only[Lo,Ct]
   have q3:δ0[3]? =some (sQ (tK (range j) H.N H.baV)):=by rw[hδ];rfl
   have st:∀ v,δ0.set 3 v= [sd H.ru,sd (dK H.heT),sd (dK H.plT),v,sd (.str (H.N j)),sd (sL (H.hold j) H.kn)]:=λv=>by rw[hδ];rfl
   clear hδ
   have cm:De 1 (Gb 0) Ld Md δ0 ((H.hold j).map λk=>D.str (H.kn k))=.ok ((H.hp j).map λk=>pD (H.cut k)):=by
    refine Hd ?_ (by rw[length_map];have:=PM H o j;omega)
    have:=Lh (gc:=Ld) (fe:=Md) (λk=>decide (k<H.pn)) (λk=>D.str (H.kn k)) (λk=>pD (H.cut k)) δ0 (H.hold j) none (λk hk=>by
     have e1:=T7 H o (QM H |>.mp hk).1
     refine⟨?_,λhp=>?_⟩
     .unfold Ld
      simp only[tR,LH,Oa,s2,Res.bind_ok,e1,Za]
     .have e2:=IM H o (of_decide_eq_true hp)
      unfold Md
      simp only[KH,Oa,s2,Res.bind_ok,e2])
    rw[EU]at this
    exact this
   have sq:Qd (sL (H.hold j) H.kn)=.ok ((H.hold j).map λk=>D.str (H.kn k)):=rfl
   have bf:=OK H.p H.d H.h H.s (H.N j) (H.C j) (by have:=o.hp;omega) o.hp2 hh (EK H o j) (by unfold Hs.C;rw[length_map];have:=VM H o j;omega) (U6 H o j)
   rw[Za0,show Kn H.p H.d H.h H.s=H.ru from rfl]at bf
   have fv:∀ v,Xb [H.ru,.str (H.N j),.lst ((H.hp j).map λk=>pD (H.cut k))]=v->(b1 (Kc 3 Xb) (Nf (Aa (Ea 0) (Aa (Ea 4) (Aa (Bf (Fc 1 (Gb 0) Ld Md (b1 Qd (Ea 5)))) Qa))))) δ0=v:=λv hv=>by
    simp only[b1,Nf,Bc,Bf,Fc,Aa,Qa,Ra,s0,s4,s5,Res.bind_ok,sq,cm,Kc,List.length_cons,length_nil,reduceAdd,if_true,reduceIte,hv]
   have q4:(λδ=>noex ((Ea 4) δ)) δ0=.ok (.str (H.N j)):=by
    show noex (Ea 4 δ0)=_
    rw[s4];rfl
   refine⟨δ0,t0,?_⟩
   cases hpl:H.pl j with
   |none=>
    refine .inl ⟨rfl,?_⟩
    have hpl':OR H.p H.h (H.C j)=none:=hpl
    rw[hpl']at bf
    have fv':=fv (.ok (H.baV j)) bf
    have pt:=Dm 3 δ0 (tK (range j) H.N H.baV) (H.N j) (H.baV j) (λδ=>noex ((Ea 4) δ)) _ q3 (by unfold tK;rw[length_map,length_range];omega) fv' q4
    rw[ZD j λk hk=>λe=>by
     have:=Il (X:=H.X) (Q:=H.Q) (j:=k) (k:=j) (by omega) (by omega) e
     omega,st]at pt
    exact⟨_,pt,_,_,rfl⟩
   |some i=>
    refine .inr ⟨rfl,?_⟩
    have hpl':OR H.p H.h (H.C j)=some i:=hpl
    rw[hpl']at bf
    have fv':=fv (.ex "Steep" [.non,.tup [.str "door",.str "place"],.str (H.N j),.int (i:Int)]) bf
    have:=W4 3 δ0 (λδ=>noex ((Ea 4) δ)) _ _ _ fv'
    unfold Qe
    rw[hpl]
    exact this) ⟨none,none,rfl⟩
 rw[zero_add,show H.drs.length=H.m from length_range]at main
 exact main
theorem VR(H:Hs)(o:H.Ok)(hh:0<=H.h):Zb [H.ru,dK H.heT,dK H.plT]=match H.drs.find? (λj=>(H.pl j).isSome) with
  |none=>.ok (dK H.baT)
  |some j=>.ex "Steep" (Qe H j):=by
 have pr:=Ms H.N (λj=>sL (H.hold j) H.kn) H.drs
 change Hn (dK H.heT)=_ at pr
 rcases Mu H o hh with⟨j,ej,f⟩|⟨en,δ2,f,x,y,rfl⟩
 .rw[ej]
  unfold Zb Oj
  simp only[Wd,Vh,Nf,Ob,map_cons,map_nil,List.length_cons,length_nil,cons_append,nil_append,reduceAdd,reduceSub,replicate,KB,Ab,Th,Kf,Me,Bc,Ta,Ya,Res.bind_ok,pr,f,Hb,Bb,seqO_ex,Wl,set_cons_zero,set_cons_succ]
 .rw[en]
  have fz:EC 3 [sd H.ru,sd (dK H.heT),sd (dK H.plT),sQ H.baT,x,y]= [sd H.ru,sd (dK H.heT),sd (dK H.plT),sd (dK H.baT),x,y]:=rfl
  unfold Zb Oj
  simp only[Wd,Vh,Nf,Ob,map_cons,map_nil,List.length_cons,length_nil,cons_append,nil_append,reduceAdd,reduceSub,replicate,KB,Ab,Th,Kf,Gu,Rb,Me,Bj,Bc,Ta,Ya,Oa,Ua,Res.bind_ok,pr,f,fz,Hb,Bb,Vj,set_cons_zero,set_cons_succ]
theorem QK(H:Hs)(o:H.Ok)(hh:0<=H.h):Ac [H.ru,dK H.heT,dK H.plT]=match H.drs.find? (λj=>(H.pl j).isSome) with
  |none=>.ok (dK H.baT)
  |some j=>.ex "Steep" (Qe H j):=by
 have pr:=Ms H.N (λj=>sL (H.hold j) H.kn) H.drs
 change Hn (dK H.heT)=_ at pr
 rcases Mu H o hh with⟨j,ej,f⟩|⟨en,δ2,f,x,y,rfl⟩
 .rw[ej]
  unfold Ac Hi
  simp only[Wd,Vh,Nf,Ob,map_cons,map_nil,List.length_cons,length_nil,cons_append,nil_append,reduceAdd,reduceSub,replicate,KB,Ab,Th,Kf,Me,Bc,Ta,Ya,Res.bind_ok,pr,f,Hb,Bb,seqO_ex,Wl,set_cons_zero,set_cons_succ]
 .rw[en]
  have rq:LG 3 [sd H.ru,sd (dK H.heT),sd (dK H.plT),sQ H.baT,x,y]=.rt (dK H.baT):=rfl
  unfold Ac Hi
  simp only[Wd,Vh,Nf,Ob,map_cons,map_nil,List.length_cons,length_nil,cons_append,nil_append,reduceAdd,reduceSub,replicate,KB,Ab,Th,Kf,Me,Bc,Ta,Ya,Res.bind_ok,pr,f,rq,Hb,Bb,Vj,set_cons_zero,set_cons_succ]
theorem RK(H:Hs)(o:H.Ok)(hh:0<=H.h):Sb [H.hsD,dK H.plT]=match H.drs.find? (λj=>(H.pl j).isSome) with
  |none=>.ok (dK H.baT)
  |some j=>.ex "Steep" (Qe H j):=by
 have f1:Si "House" "rules" H.hsD=.ok H.ru:=J7 H.ru (sL H.drs H.N) H.wgD H.grD
 have e1:=MF H o
 have e2:=VR H o hh
 unfold Sb Rn
 cases h:H.drs.find? (λj=>(H.pl j).isSome) with
 |none=>
  rw[h]at e2
  have e2':Zb [H.ru,dK H.heT,dK H.plT]=.ok (dK H.baT):=e2
  simp only[Wd,Ob,map_cons,map_nil,List.length_cons,length_nil,cons_append,nil_append,reduceAdd,reduceSub,replicate,b1,Nf,Bc,Aa,Qa,Ra,Rb,Ta,Ya,Res.bind_ok,f1,e1,Kc,e2',Hb,Vj,if_true,reduceIte]
 |some j=>
  rw[h]at e2
  have e2':Zb [H.ru,dK H.heT,dK H.plT]=.ex "Steep" (Qe H j):=e2
  simp only[Wd,Ob,map_cons,map_nil,List.length_cons,length_nil,cons_append,nil_append,reduceAdd,reduceSub,replicate,b1,Nf,Bc,Aa,Qa,Ra,Rb,Ta,Ya,Res.bind_ok,f1,e1,Kc,e2',RO,Wl,if_true,reduceIte]
theorem XR(H:Hs)(o:H.Ok)(hh:0<=H.h):Mc [H.hsD,dK H.plT]=match H.drs.find? (λj=>(H.pl j).isSome) with
  |none=>.ok (dK H.baT)
  |some j=>.ex "Steep" (Qe H j):=by
 have f1:Si "House" "rules" H.hsD=.ok H.ru:=J7 H.ru (sL H.drs H.N) H.wgD H.grD
 have e1:=MF H o
 have e2:=QK H o hh
 unfold Mc Lm
 cases h:H.drs.find? (λj=>(H.pl j).isSome) with
 |none=>
  rw[h]at e2
  have e2':Ac [H.ru,dK H.heT,dK H.plT]=.ok (dK H.baT):=e2
  simp only[Wd,Ob,map_cons,map_nil,List.length_cons,length_nil,cons_append,nil_append,reduceAdd,reduceSub,replicate,b1,Nf,Bc,Aa,Qa,Ra,Rb,Ta,Ya,Res.bind_ok,f1,e1,Kc,e2',Hb,Vj,if_true,reduceIte]
 |some j=>
  rw[h]at e2
  have e2':Ac [H.ru,dK H.heT,dK H.plT]=.ex "Steep" (Qe H j):=e2
  simp only[Wd,Ob,map_cons,map_nil,List.length_cons,length_nil,cons_append,nil_append,reduceAdd,reduceSub,replicate,b1,Nf,Bc,Aa,Qa,Ra,Rb,Ta,Ya,Res.bind_ok,f1,e1,Kc,e2',RO,Wl,if_true,reduceIte]
theorem MQ(H:Hs)(o:H.Ok)(hh:0<=H.h)(h:H.drs.find? (λj=>(H.pl j).isSome)=some j):Wa 2 Uc [H.hsD,dK H.plT]=.ok (.tup [.str (H.N j),.int (((H.pl j).getD 0:Nat):Int)]):=by
 have e:=RK H o hh
 rw[h]at e
 have e':Sb [H.hsD,dK H.plT]=.ex "Steep" (Qe H j):=e
 have cin:("Steep":Str)∈([("Steep":Str)]:List Str):=mem_singleton.mpr rfl
 have x1:Uy ["Steep"] "door" (.exc "Steep" (Qe H j))=.ok (.str (H.N j)):=rfl
 have x2:Uy ["Steep","TooHigh"] "place" (.exc "Steep" (Qe H j))=.ok (.int (((H.pl j).getD 0:Nat):Int)):=rfl
 have i1:Om [("Steep",true),("TooHigh",false)] (.exc "Steep" (Qe H j))=.ok (.bl true):=rfl
 have i2:Om [("Steep",true),("TooHigh",true)] (.exc "Steep" (Qe H j))=.ok (.bl true):=rfl
 have i3:Om [("Steep",false),("TooHigh",true)] (.exc "Steep" (Qe H j))=.ok (.bl false):=rfl
 have i4:∀ i:Int,Im "bool" (.int i)=.ok (.bl false):=λi=>rfl
 refine Vb _ _ _ _ ?_ rfl
 unfold Uc Pn Dl
 walk_at "s"
 simp only[List.length_cons,length_nil,reduceAdd,cons_append,nil_append,kD,b1,tR,Pk,Gi,Qg,Aa,Qa,Ra,Ab,Jc,Dg,Rb,Ta,Ya,Oa,Ua,Res.bind_ok,Bc,Hu,AE,Kc,e',cin,LM,TQ,x1,x2,i1,i2,i3,i4,Za,Jl,Ub,Hb,Bb,Fi,Ec,set_cons_zero,set_cons_succ,reduceLeDiff,Bool.not_true,false_eq_true,if_true,if_false,reduceIte]
theorem QP(ns:List Int):∃ p d h s:Int,Wa 1 Gd [.lst (ns.map D.int)]=.ok (Kn p d h s)/\1<=p/\p<=24/\2<=d/\d<=20/\1<=h/\1<=s:=by
 obtain⟨cf,hcf⟩:=Ir ns
 have c15:=hcf 15 (by decide) (by decide)
 have c16:=hcf 16 (by decide) (by decide)
 have c17:=hcf 17 (by decide) (by decide)
 have c18:=hcf 18 (by decide) (by decide)
 have m15:=Tf (cf 15) 19 (by decide)
 have a1:=emod_nonneg (cf 15) (show(19:Int)≠0 by decide)
 have a2:=emod_lt_of_pos (cf 15) (show(0:Int)<19 by decide)
 generalize cf 15%19=q1 at*
 generalize hd:2+q1=d at*
 have ad:Je (.int 2) (.int q1)=.ok (.int d):=by rw[<-hd];rfl
 have m16:=Tf (cf 16) d (by omega)
 have a3:=emod_nonneg (cf 16) (show d≠0 by omega)
 have m3:=Tf (cf 16) 3 (by decide)
 have a4:=emod_nonneg (cf 16) (show(3:Int)≠0 by decide)
 have d20:=AI (cf 16) 20 (by decide) (by decide)
 have m2:=Tf (cf 16 / 20) 2 (by decide)
 have m17:=Tf (cf 17) 24 (by decide)
 have a5:=emod_nonneg (cf 17) (show(24:Int)≠0 by decide)
 have a6:=emod_lt_of_pos (cf 17) (show(0:Int)<24 by decide)
 have m18:=Tf (cf 18) (d-1) (by omega)
 have a7:=emod_nonneg (cf 18) (show d-1≠0 by omega)
 have mn:=VF d (2+cf 16%3)
 by_cases hz:(cf 16 / 20%2==0)=true
 .refine⟨1+cf 17%24,d,min d (2+cf 16%3),1+cf 18%(d-1),Vb _ _ _ _ ?_ rfl,by omega,by omega,by omega,by omega,by omega,by omega⟩
  clear hcf a1 a2 a3 a4 a5 a6 a7 hd
  generalize min d (2+cf 16%3)=mm at*
  unfold Gd Nj
  walk_at "s"
  simp only[List.length_cons,length_nil,reduceAdd,kD,b1,b2,tR,Qg,Aa,Qa,Ra,Ab,Jc,Dg,Rb,Ta,Ya,Oa,Ua,Res.bind_ok,Jd,Wx,c15,c16,c17,c18,m15,ad,m16,m3,d20,m2,m17,m18,mn,hz,Ff,Za,Ub,Hb,Bb,Ec,set_cons_zero,set_cons_succ,reduceLeDiff,if_true,reduceIte]
 .have hz':(cf 16 / 20%2==0)=false:=by simpa using hz
  refine⟨1+cf 17%24,d,1+cf 16%d,1+cf 18%(d-1),Vb _ _ _ _ ?_ rfl,by omega,by omega,by omega,by omega,by omega,by omega⟩
  clear hcf a1 a2 a3 a4 a5 a6 a7 hd
  unfold Gd Nj
  walk_at "s"
  simp only[List.length_cons,length_nil,reduceAdd,kD,b1,b2,tR,Qg,Aa,Qa,Ra,Ab,Jc,Dg,Rb,Ta,Ya,Oa,Ua,Res.bind_ok,Jd,Wx,c15,c16,c17,c18,m15,ad,m16,d20,m2,m17,m18,hz',Ff,Za,Ub,Hb,Bb,Ec,set_cons_zero,set_cons_succ,reduceLeDiff,false_eq_true,if_true,if_false,reduceIte]
theorem ZQ(B:List (List Int)):Wa 1 Vd [bD B]=.ok (.bl true):=by
 have it:Im "tuple" (bD B)=.ok (.bl true):=rfl
 have sq:Qd (bD B)=.ok (B.map pD):=rfl
 obtain⟨δ2,f,_⟩:=Am (t:=Gb 1) (body:=Oh) (λ_ δ=>∃ x y:Option S,δ= [sd (bD B),x,y]) (B.map pD) [sd (bD B),none,none] (λi d δ hd hI=>by
  obtain⟨x,y,rfl⟩:=hI
  rw[getElem?_map]at hd
  obtain⟨q,_,rfl⟩:=map_eq_some_iff.mp hd
  have iq:Im "tuple" (pD q)=.ok (.bl true):=rfl
  have sq2:Qd (pD q)=.ok (q.map D.int):=rfl
  obtain⟨δ3,f3,z,rfl⟩:=Am (t:=Gb 2) (body:=Nh) (λ_ δ=>∃ z:Option S,δ= [sd (bD B),sd (pD q),z]) (q.map D.int) [sd (bD B),sd (pD q),y] (λi d δ hd hI=>by
   obtain⟨z,rfl⟩:=hI
   rw[getElem?_map]at hd
   obtain⟨c,_,rfl⟩:=map_eq_some_iff.mp hd
   have i1:Im "int" (.int c)=.ok (.bl true):=rfl
   have i2:Im "bool" (.int c)=.ok (.bl false):=rfl
   refine⟨_,rfl,[sd (bD B),sd (pD q),sd (.int c)],.inl ?_,_,rfl⟩
   unfold Nh
   simp only[Dg,Pk,Gi,tR,b1,Oa,Ua,Res.bind_ok,i1,i2,Za,Jl,Ub,set_cons_zero,set_cons_succ,Bool.not_true,false_eq_true,if_false,reduceIte]) ⟨_,rfl⟩
  refine⟨_,rfl,[sd (bD B),sd (pD q),z],.inl ?_,_,_,rfl⟩
  unfold Oh
  simp only[Ab,Dg,Kf,Gi,tR,b1,Oa,Ua,Ta,Ya,Res.bind_ok,iq,sq2,Za,Ub,Hb,Bb,f3,set_cons_zero,set_cons_succ,Bool.not_true,false_eq_true,if_false,reduceIte]) ⟨_,_,rfl⟩
 refine Vb _ _ _ _ ?_ rfl
 generalize B.map pD=V at*
 generalize bD B=BB at*
 unfold Vd Qn
 walk_at "s"
 simp only[kD,b1,tR,Gi,Ab,Dg,Kf,Rb,Ta,Oa,Res.bind_ok,it,sq,f,Za,Ub,Hb,Bb,Ec,Bool.not_true,false_eq_true,if_false,reduceIte]
theorem Ol{ks:List Nat}{g':Nat->D}(h:∀ k∈ks,g k=g' k):tK ks f g=tK ks f g':=by
 unfold tK
 exact map_congr_left λk hk=>by rw[h k hk]
theorem PQ{ks:List Nat}(hi:Of ks f)(h:i∈ks)(d:D):Re (tK ks f g) (.inr (f i)) d=tK ks f λk=>if k=i then d else g k:=by
 unfold Re
 rw[Jj,Ft hi h]
 show(tK ks f g).map _=_
 unfold tK
 rw[map_map]
 refine map_congr_left λk hk=>?_
 by_cases e:k=i
 .subst e;simp
 .have:¬ f k=f i:=λz=>e (hi k hk i h z)
  simp[e,this]
theorem Lw(L:List (List Int))(c:List Int)(k:Nat)(h:k<L.length):(L++ [c]).getD k []=L.getD k []:=by
 rw[getD_eq_getElem?_getD,getD_eq_getElem?_getD,getElem?_append_left h]
theorem HM(L:List (List Int))(c:List Int):(L++ [c]).getD L.length []=c:=by
 rw[getD_eq_getElem?_getD,getElem?_append_right (le_refl _)];simp
theorem LJ(ns:List Int)(X Q:Str)(cf:Int->Int)(hcf:∀ k,0<=k->k<=1000->Wa 2 Ma [.lst (ns.map D.int),.int k]=.ok (.int (cf k)))(p d h s:Int)(hp:1<=p)(hp2:p<=100)(hd:2<=d)(hs:1<=s)(th:Nat->List Nat)(n:Nat)(hn:n<=19)(L:List (List Int))(hi:L.length<n)(hL:∀ c∈L,c.length=p.toNat)(f:Nat->Str)(hf:f=λk=>nm X Q (20+k))(δ:Ca)(hδ:δ= [sd (.lst (ns.map D.int)),sd (Kn p d h s),sd (.lst (Lk X Q th n)),sQ (tK (range L.length) f λk=>pD (L.getD k [])),sd (.int (L.length:Int)),sd (.tup [.str (f L.length),sL (th L.length) (nm X Q)])]):
  ∃ c:List Int,c.length=p.toNat/\Le δ= .nx [sd (.lst (ns.map D.int)),sd (Kn p d h s),sd (.lst (Lk X Q th n)),sQ (tK (range (L.length+1)) f λk=>pD ((L++ [c]).getD k [])),sd (.int (L.length:Int)),sd (.tup [.str (f L.length),sL (th L.length) (nm X Q)])]:=by
 have inj:∀ a b,a<500->b<500->f a=f b->a=b:=λa b ha hb e=>by
  rw[hf]at e
  have:=Il (X:=X) (Q:=Q) (j:=20+a) (k:=20+b) (by omega) (by omega) e
  omega
 obtain⟨c,ec,hc⟩:=ES ns (20+(L.length:Int)) p d h s (by omega) (by omega) hp hp2 hd hs
 have c30:=hcf (30+(L.length:Int)) (by omega) (by omega)
 have m4:=Tf (cf (30+(L.length:Int))) 4 (by decide)
 have i0:∀ z y,Ki (.tup [.str z,y]) (.int 0)=.ok (.str z):=λ_ _=>rfl
 obtain⟨row,hrow⟩:∃ row:D,row=.tup [.str (f L.length),sL (th L.length) (nm X Q)]:=⟨_,rfl⟩
 have ir:Ki row (.int 0)=.ok (.str (f L.length)):=by rw[hrow];rfl
 rw[<-hrow]at hδ ⊢
 have t1:Re (tK (range L.length) f λk=>pD (L.getD k [])) (.inr (f L.length)) (pD c)=tK (range (L.length+1)) f λk=>pD ((L++ [c]).getD k []):=by
  rw[Ol (g':=λk=>pD ((L++ [c]).getD k [])) λk hk=>by rw[Lw L c k (mem_range.mp hk)]]
  have:=ZD (f:=f) (g:=λk=>pD ((L++ [c]).getD k [])) L.length λk hk e=>by
   have:=inj k L.length (by omega) (by omega) e
   omega
  rw[HM]at this
  exact this
 have pt:=Dm 3 δ (tK (range L.length) f λk=>pD (L.getD k [])) (f L.length) (pD c) (b2 Ki (Ga 5) (kD (.int 0))) (b1 (Wa 3 Od) (Aa (Ea 0) (Aa (b2 Je (kD (.int 20)) (Ga 4)) (Aa (Ea 1) Qa)))) (by rw[hδ];rfl) (by unfold tK;rw[length_map,length_range];omega) (by
   rw[hδ]
   simp only[b1,b2,kD,Aa,Qa,Ra,Ta,Ya,Oa,Ua,Res.bind_ok,Jd,ec]) (by
   rw[hδ]
   simp only[b2,kD,Oa,Ua,Res.bind_ok,ir])
 rw[t1]at pt
 obtain⟨δ1,h1⟩:∃ δ1:Ca,δ1=δ.set 3 (sQ (tK (range (L.length+1)) f λk=>pD ((L++ [c]).getD k []))):=⟨_,rfl⟩
 rw[<-h1]at pt
 have h1':δ1= [sd (.lst (ns.map D.int)),sd (Kn p d h s),sd (.lst (Lk X Q th n)),sQ (tK (range (L.length+1)) f λk=>pD ((L++ [c]).getD k [])),sd (.int (L.length:Int)),sd row]:=by rw[h1,hδ];rfl
 have q3:Rc 3 δ1=.ok (tK (range (L.length+1)) f λk=>pD ((L++ [c]).getD k [])):=by
  rw[h1']
  simp only[Lo]
  show Res.ok (((tK (range (L.length+1)) f λk=>pD ((L++ [c]).getD k [])).map (·.1)).zip _)=_
  rw[Ii]
 have p4:Ga 4 δ1=.ok (.int (L.length:Int)):=by rw[h1'];rfl
 have p5:Ga 5 δ1=.ok row:=by rw[h1'];rfl
 have p2:Ga 2 δ1=.ok (.lst (Lk X Q th n)):=by rw[h1'];rfl
 have d0:Ea 0 δ1=.ok (.lst (ns.map D.int)):=by rw[h1'];rfl
 have g0:LF (.int (L.length:Int)) (.int 0)=.ok (.bl (decide (0<L.length))):=by
  rw[Wo];congr 2
  rw[Bool.eq_iff_iff,decide_eq_true_eq,decide_eq_true_eq];omega
 by_cases hz:(decide (0<L.length)&&(cf (30+(L.length:Int))%4==0))=true
 .have hz2:=Bool.and_eq_true_iff.mp hz
  have hpos:0<L.length:=of_decide_eq_true hz2.1
  have d4:=AI (cf (30+(L.length:Int))) 4 (by decide) (by decide)
  have ml:=Tf (cf (30+(L.length:Int)) / 4) (L.length:Int) (by omega)
  have b0:=emod_nonneg (cf (30+(L.length:Int)) / 4) (show(L.length:Int)≠0 by omega)
  have b9:=emod_lt_of_pos (cf (30+(L.length:Int)) / 4) (show 0<(L.length:Int) by omega)
  obtain⟨ix,hix⟩:∃ ix:Nat,(ix:Int)=cf (30+(L.length:Int)) / 4%(L.length:Int):=⟨(cf (30+(L.length:Int)) / 4%(L.length:Int)).toNat,by omega⟩
  rw[<-hix]at ml b0 b9
  have ig:Ki (.lst (Lk X Q th n)) (.int (ix:Int))=.ok (.tup [.str (f ix),sL (th ix) (nm X Q)]):=Yr _ _ _ (Ul (by omega) (by
   unfold Lk
   rw[show((ix:Int)).toNat=ix by omega,getElem?_map,getElem?_range (by omega),hf];rfl))
  have io:Of (range (L.length+1)) f:=λa ha b hb e=>inj a b (by have:=mem_range.mp ha;omega) (by have:=mem_range.mp hb;omega) e
  have gd:Zh (tK (range (L.length+1)) f λk=>pD ((L++ [c]).getD k [])) (.str (f ix))=.ok (pD (L.getD ix [])):=by
   have:=FC (g:=λk=>pD ((L++ [c]).getD k [])) io (k:=ix) (mem_range.mpr (by omega))
   rw[Lw L c ix (by omega)]at this
   exact this
  have t2:Re (tK (range (L.length+1)) f λk=>pD ((L++ [c]).getD k [])) (.inr (f L.length)) (pD (L.getD ix []))=tK (range (L.length+1)) f λk=>pD ((L++ [L.getD ix []]).getD k []):=by
   rw[PQ io (mem_range.mpr (lt_succ_self _))]
   refine Ol λk hk=>?_
   have:=mem_range.mp hk
   by_cases e:k=L.length
   .subst e;rw[if_pos rfl,HM]
   .rw[if_neg e,Lw L c k (by omega),Lw L _ k (by omega)]
  have pt2:=Dm 3 δ1 (tK (range (L.length+1)) f λk=>pD ((L++ [c]).getD k [])) (f L.length) (pD (L.getD ix [])) (b2 Ki (Ga 5) (kD (.int 0))) (KH Zh (Rc 3) (b2 Ki (b2 Ki (Ga 2) (b2 Kd (b2 Hk (b1 (Wa 2 Ma) (Aa (Ea 0) (Aa (b2 Je (kD (.int 30)) (Ga 4)) Qa))) (kD (.int 4))) (Ga 4))) (kD (.int 0)))) (by rw[h1'];rfl) (by unfold tK;rw[length_map,length_range];omega) (by
    simp only[b1,b2,KH,kD,Aa,Qa,Ra,q3,p2,p4,d0,Res.bind_ok,Jd,c30,d4,ml,ig,i0,gd]) (by
    simp only[b2,kD,p5,Res.bind_ok,ir])
  rw[t2]at pt2
  refine⟨L.getD ix [],hL _ (Az _ (by omega)),?_⟩
  have tst:(Um (tR (b2 LF (Ga 4) (kD (.int 0)))) (tR (b2 Aq (b2 Kd (b1 (Wa 2 Ma) (Aa (Ea 0) (Aa (b2 Je (kD (.int 30)) (Ga 4)) Qa))) (kD (.int 4))) (kD (.int 0))))) δ1=.ok true:=by
   simp only[Um,tR,b1,b2,kD,Aa,Qa,Ra,p4,d0,Res.bind_ok,Jd,c30,m4,g0,Ff,Za,Nn,hz2.1,hz2.2,if_true,reduceIte]
  unfold Le
  show Jm (Lf 3 _ _ δ) _=_
  rw[pt,Bb]
  unfold Dg
  rw[tst,Ub,if_pos rfl,pt2,h1']
  rfl
 .have hz':(decide (0<L.length)&&(cf (30+(L.length:Int))%4==0))=false:=by simpa using hz
  refine⟨c,hc,?_⟩
  have tst:(Um (tR (b2 LF (Ga 4) (kD (.int 0)))) (tR (b2 Aq (b2 Kd (b1 (Wa 2 Ma) (Aa (Ea 0) (Aa (b2 Je (kD (.int 30)) (Ga 4)) Qa))) (kD (.int 4))) (kD (.int 0))))) δ1=.ok false:=by
   cases h9:decide (0<L.length) with
   |false=>
    rw[h9]at g0
    simp only[Um,tR,b2,kD,p4,Res.bind_ok,g0,Za,Nn,false_eq_true,if_false,reduceIte]
   |true=>
    rw[h9]at g0 hz'
    rw[Bool.true_and]at hz'
    simp only[Um,tR,b1,b2,kD,Aa,Qa,Ra,p4,d0,Res.bind_ok,Jd,c30,m4,g0,Ff,Za,Nn,hz',if_true,reduceIte]
  unfold Le
  show Jm (Lf 3 _ _ δ) _=_
  rw[pt,Bb]
  unfold Dg
  rw[tst,Ub,if_neg Bool.false_ne_true,h1']
theorem UW(ns : List Int)(X Q : Str)(p d h s : Int)(hp : 1 <= p)(hp2 : p <= 100)(hd : 2 <= d)(hs : 1 <= s)(th : Nat -> List Nat)(n : Nat)(hn : n <= 19) :
    ∃ cut : Nat -> List Int, (∀ k, k < n -> (cut k).length = p.toNat) /\ Wa 3 Te [.lst (ns.map D.int), Kn p d h s,.lst (Lk X Q th n)] = .ok (dK (tK (range n) (λk => nm X Q (20 + k)) λk => pD (cut k))) := by
  obtain⟨cf, hcf⟩ := Ir ns
  have en : Bi [.lst (Lk X Q th n)] = .ok ((range n).map λ(k : Nat) => D.tup [.int (k : Int),.tup [.str (nm X Q (20 + k)), sL (th k) (nm X Q)]]) := Wn (λk => D.tup [.str (nm X Q (20 + k)), sL (th k) (nm X Q)]) n
  obtain⟨f, hf⟩ : ∃ f : Nat -> Str, f = λk => nm X Q (20 + k) := ⟨_, rfl⟩
  have en' : Bi [.lst (Lk X Q th n)] = .ok ((range n).map λ(k : Nat) => D.tup [.int (k : Int),.tup [.str (f k), sL (th k) (nm X Q)]]) := by rw[hf]; exact en
  obtain⟨δ2, fo, L, x4, x5, rfl, hl, hL⟩ := Am (t := Hc 2 (Sa (Gb 4) (Sa (Gb 5) Gc))) (body := Le) (λi δ => ∃ (L : List (List Int)) (x4 x5 : Option S), δ = [sd (.lst (ns.map D.int)), sd (Kn p d h s), sd (.lst (Lk X Q th n)), sQ (tK (range L.length) f λk => pD (L.getD k [])), x4, x5] /\ L.length = i /\ ∀ c ∈ L, c.length = p.toNat)
    ((range n).map λ(k : Nat) => D.tup [.int (k : Int),.tup [.str (f k), sL (th k) (nm X Q)]]) [sd (.lst (ns.map D.int)), sd (Kn p d h s), sd (.lst (Lk X Q th n)), some (.q [] []), none, none] (λi e δ he hI => by
      obtain⟨L, x4, x5, rfl, hl, hL⟩ := hI
      rw[getElem?_map]at he
      obtain⟨k, hk, rfl⟩ := map_eq_some_iff.mp he
      have hi : i < n := by have := (List.getElem?_eq_some_iff.mp hk).1; rw[length_range]at this; exact this
      rw[getElem?_range hi]at hk
      have : k = i := (Option.some.inj hk).symm
      subst this
      subst hl
      obtain⟨c, hc, e⟩ := LJ ns X Q cf hcf p d h s hp hp2 hd hs th n hn L hi hL f hf _ rfl
      refine⟨_, rfl, _,.inl e, L ++ [c], _, _, by rw[length_append]; rfl, by rw[length_append]; rfl, λz hz =>?_⟩
      rcases mem_append.mp hz with hz | hz
      · exact hL z hz
      · rw[mem_singleton.mp hz]; exact hc) ⟨[], none, none, rfl, rfl, λc hc => by simp at hc⟩
  rw[length_map, length_range]at hl
  subst hl
  refine⟨λk => L.getD k [], λk hk => hL _ (Az _ hk), Vb _ _ _ _ ?_ rfl⟩
  rw[<- hf]
  have fz : EC 3 [sd (.lst (ns.map D.int)), sd (Kn p d h s), sd (.lst (Lk X Q th L.length)), sQ (tK (range L.length) f λk => pD (L.getD k [])), x4, x5] = [sd (.lst (ns.map D.int)), sd (Kn p d h s), sd (.lst (Lk X Q th L.length)), sd (dK (tK (range L.length) f λk => pD (L.getD k []))), x4, x5] := rfl
  unfold Te Vp
  walk_at "s"
  simp only[b1, Aa, Qa, Ra, Ab, Th, Kf, Gu, Rb, Ta, Ya, Oa, Ua, Res.bind_ok, en', fo, fz, Hb, Bb, Ec, set_cons_zero, set_cons_succ]
def Hs.waD(H:Hs):D:=.lst (Ey H.X H.Q H.m H.ob H.n)
abbrev dP(H:Hs)(r:Ca):Ca:=sd H.ru::sd (sL H.drs H.N)::sd H.grD::sd H.waD::sd (dK H.plT)::r
theorem T1(H:Hs)(hn:H.pn=H.n)(j:Nat):H.hp j=H.hold j:=by
 unfold Hs.hp Hs.hold
 refine List.filter_congr λk hk=>?_
 rw[decide_eq_true (by rw[hn];exact mem_range.mp hk),Bool.and_true]
theorem BV(C:List (List Int)):AG (.lst (C.map pD)) (.lst [])=.ok (.bl (!C.isEmpty)):=by
 have:=CV (C.map pD) λd hd=>by
  obtain⟨c,_,rfl⟩:=mem_map.mp hd
  unfold pD
  rw[Lb,all_eq_true]
  intro x hx
  obtain⟨i,_,rfl⟩:=mem_map.mp hx
  rfl
 rw[show(C.map pD).isEmpty=C.isEmpty by cases C<;>rfl]at this
 exact this
theorem NL(H:Hs)(o:H.Ok)(hpn:H.pn=H.n)(hj:j<H.m)(x7 x8 x9 x10:Option S):
  (H.pl j=none/\∃ y7 y8 y9 y10,Fd (dP H [sQ (tK (range j) H.N H.baV),sd (.str (H.N j)),x7,x8,x9,x10])
    = .nx (dP H [sQ (tK (range (j+1)) H.N H.baV),sd (.str (H.N j)),y7,y8,y9,y10]))\/
  ((H.pl j).isSome=true/\Fd (dP H [sQ (tK (range j) H.N H.baV),sd (.str (H.N j)),x7,x8,x9,x10])
    = .rt (.tup [.str (H.N j),.int (((H.pl j).getD 0:Nat):Int)])):=by
 have hm:=o.hm
 have hn:=o.hn
 have hp2:=o.hp2
 have hp1:=o.hp
 have hpl:=VM H o j
 have jm:j∈H.drs:=mem_range.mpr hj
 have clen:(H.C j).length<64:=by unfold Hs.C;rw[length_map];omega
 have en:Bi [H.grD]=.ok (H.ks.map λ(k:Nat)=>D.tup [.int (k:Int),.tup [.str (H.kn k),sL (H.th k) H.N]]):=Wn (λk=>D.tup [.str (H.kn k),sL (H.th k) H.N]) H.n
 obtain⟨Q5,h5⟩:∃ Q5:Option S,Q5=sQ (tK (range j) H.N H.baV):=⟨_,rfl⟩
 have cm1:De 2 (Hc 2 (Sa (Gb 0) (Sa (Gb 1) Gc))) Ug Wg (dP H [Q5,sd (.str (H.N j)),x7,x8,x9,x10]) (H.ks.map λ(k:Nat)=>D.tup [.int (k:Int),.tup [.str (H.kn k),sL (H.th k) H.N]])=.ok ((H.C j).map pD):=by
  refine Hd ?_ (by rw[length_map];unfold Hs.ks;rw[length_range];omega)
  have:=Vk (gc:=Ug) (fe:=Wg) (λk=>H.ob k j) (λ(k:Nat)=>D.int (k:Int)) (λk=>D.tup [.str (H.kn k),sL (H.th k) H.N]) (λk=>pD (H.cut k)) (dP H [Q5,sd (.str (H.N j)),x7,x8,x9,x10]) H.ks none none (λk hk=>by
   have hk':=mem_range.mp hk
   have e1:Ki H.waD (.int (k:Int))=.ok (sL (H.own k) H.N):=Yr _ _ _ (Ul (by omega) (by
    show((range H.n).map λk=>sL ((range H.m).filter (H.ob k)) (nm H.X H.Q))[((k:Int)).toNat]? =_
    rw[show((k:Int)).toNat=k by omega,getElem?_map,getElem?_range hk'];rfl))
   have e2:=LC (Lr H o) (FG H k) jm
   rw[EG H k jm]at e2
   have e3:Ki (.tup [.str (H.kn k),sL (H.th k) H.N]) (.int 0)=.ok (.str (H.kn k)):=rfl
   have e4:=IM H o (k:=k) (by rw[hpn];exact hk')
   refine⟨?_,λ_=>?_⟩
   .unfold Ug
    simp only[tR,b2,Oa,Ua,Res.bind_ok,e1,e2,Za]
   .unfold Wg
    simp only[b2,KH,kD,Oa,Ua,Lo,Ct,Res.bind_ok,e3,e4])
  refine this.trans (congrArg Res.ok ?_)
  unfold Hs.C
  rw[T1 H hpn,map_map];rfl
 have sC:Qd (cD (H.C j))=.ok ((H.C j).map pD):=rfl
 have i0:Ki H.ru (.int 0)=.ok (.int H.p):=rfl
 have ixh:Ki H.ru (.int 2)=.ok (.int H.h):=rfl
 have rg:=Px H.p (by omega) (by omega)
 have er:Wh 0 H.p.toNat=(range H.p.toNat).map λ(i:Nat)=>D.int (i:Int):=by
  unfold Wh
  exact map_congr_left λi _=>by rw[Int.zero_add]
 rw[er]at rg
 have cm2:∀ y8:Option S,De 1 (Gb 0) (λ_=>.ok true) Xg (dP H [Q5,sd (.str (H.N j)),sd (cD (H.C j)),y8,x9,x10]) ((range H.p.toNat).map λ(i:Nat)=>D.int (i:Int))=.ok ((H.lb j).map pD):=λy8=>by
  refine Hd ?_ (by rw[length_map,length_range];omega)
  have:=Lh (gc:=λ_=>.ok true) (fe:=Xg) (λ_=>true) (λ(i:Nat)=>D.int (i:Int)) (λi=>pD (Qb ((H.C j).map λc=>c.getD i 0))) (dP H [Q5,sd (.str (H.N j)),sd (cD (H.C j)),y8,x9,x10]) (range H.p.toNat) none (λi hi=>⟨rfl,λ_=>by
   have hi':=mem_range.mp hi
   have cm:=LY (fe:=Qj) (H.C j) i (λc h1=>by rw[EK H o j c h1];exact hi') clen [sd (.int (i:Int)),sd H.ru,sd (sL H.drs H.N),sd H.grD,sd H.waD,sd (dK H.plT),Q5,sd (.str (H.N j)),sd (cD (H.C j)),y8,x9,x10] (λc e1=>by
    unfold Qj
    simp only[b2,Oa,Ua,Res.bind_ok,e1])
   have so:=VG ((H.C j).map λc=>c.getD i 0) (by rw[length_map];exact clen)
   have tp:Se (.lst ((Qb ((H.C j).map λc=>c.getD i 0)).map D.int))=.ok (pD (Qb ((H.C j).map λc=>c.getD i 0))):=rfl
   unfold Xg
   simp only[b1,Bf,Fc,Ta,Ya,Res.bind_ok,sC,cm,so,tp]⟩)
  rw[Mh]at this
  refine this.trans (congrArg Res.ok ?_)
  unfold Hs.lb Uh
  rw[map_map];rfl
 have lbm:(H.lb j).map pD=(range H.p.toNat).map λi=>pD (Qb ((H.C j).map λc=>c.getD i 0)):=by
  unfold Hs.lb Uh
  rw[map_map];rfl
 have en2:Bi [.lst ((H.lb j).map pD)]=.ok ((range H.p.toNat).map λ(i:Nat)=>D.tup [.int (i:Int),pD (Qb ((H.C j).map λc=>c.getD i 0))]):=by
  rw[lbm]
  exact Wn (λi=>pD (Qb ((H.C j).map λc=>c.getD i 0))) H.p.toNat
 have inner:=Zl (t:=Hc 2 (Sa (Gb 9) (Sa (Gb 10) Gc))) (body:=Zg) (λ_ δ=>∃ z9 z10:Option S,δ=(dP H [Q5,sd (.str (H.N j)),sd (cD (H.C j)),sd (.lst ((H.lb j).map pD)),z9,z10]))
  (λ(i:Nat)=>D.tup [.int (i:Int),pD (Qb ((H.C j).map λc=>c.getD i 0))]) (λi=> !okH H.h (H.C j) i) (λ(i:Nat)=>.rt (.tup [.str (H.N j),.int (i:Int)])) (λk=>.inl ⟨_,rfl⟩) (range H.p.toNat) 0 (dP H [Q5,sd (.str (H.N j)),sd (cD (H.C j)),sd (.lst ((H.lb j).map pD)),x9,x10]) (λi2 i δ hi hI=>by
   obtain⟨z9,z10,rfl⟩:=hI
   refine⟨(dP H [Q5,sd (.str (H.N j)),sd (cD (H.C j)),sd (.lst ((H.lb j).map pD)),sd (.int (i:Int)),sd (pD (Qb ((H.C j).map λc=>c.getD i 0)))]),rfl,?_⟩
   have ln:Yj (pD (Qb ((H.C j).map λc=>c.getD i 0)))=.ok (.int ((Qb ((H.C j).map λc=>c.getD i 0)).length:Int)):=by
    show Yj (.tup ((Qb _).map D.int))=_
    rw[A3,length_map]
   have gt:LF (.int ((Qb ((H.C j).map λc=>c.getD i 0)).length:Int)) (.int H.h)=.ok (.bl (!okH H.h (H.C j) i)):=by
    rw[Wo]
    unfold okH
    congr 2
    by_cases z:((Qb ((H.C j).map λc=>c.getD i 0)).length:Int)<=H.h
    .rw[decide_eq_true z];exact decide_eq_false (by omega)
    .rw[decide_eq_false z];exact decide_eq_true (by omega)
   generalize pD (Qb ((H.C j).map λc=>c.getD i 0))=PV at*
   generalize ((Qb ((H.C j).map λc=>c.getD i 0)).length:Int)=LN at*
   cases hb:(!okH H.h (H.C j) i) with
   |false=>
    rw[hb]at gt
    refine .inl ⟨rfl,(dP H [Q5,sd (.str (H.N j)),sd (cD (H.C j)),sd (.lst ((H.lb j).map pD)),sd (.int (i:Int)),sd PV]),?_,_,_,rfl⟩
    unfold Zg
    simp only[Dg,tR,b1,b2,kD,Oa,Ua,Res.bind_ok,ln,ixh,gt,Za,Ub,false_eq_true,if_false,reduceIte]
   |true=>
    rw[hb]at gt
    refine .inr ⟨rfl,?_⟩
    unfold Zg
    simp only[Dg,Rb,tR,b1,b2,kD,Qg,Aa,Qa,Ra,Ta,Ya,Oa,Ua,Res.bind_ok,ln,ixh,gt,Za,Ub,Hb,List.length_cons,length_nil,reduceAdd,reduceLeDiff,if_true,reduceIte]) ⟨_,_,rfl⟩
 have fl7:∀ y8:Option S,Sr 7 (dP H [Q5,sd (.str (H.N j)),some (.o ((H.C j).map pD)),y8,x9,x10])=(dP H [Q5,sd (.str (H.N j)),sd (cD (H.C j)),y8,x9,x10]):=λ_=>rfl
 have fl8:Sr 8 (dP H [Q5,sd (.str (H.N j)),sd (cD (H.C j)),some (.o ((H.lb j).map pD)),x9,x10])=(dP H [Q5,sd (.str (H.N j)),sd (cD (H.C j)),sd (.lst ((H.lb j).map pD)),x9,x10]):=rfl
 rcases inner with⟨i,ei,f⟩|⟨en',δ2,f,z9,z10,rfl⟩
 .have e':H.pl j=some i:=ei
  refine .inr ⟨by rw[e'];rfl,?_⟩
  rw[e',<-h5]
  show _=Out.rt (.tup [.str (H.N j),.int (i:Int)])
  clear e' ei lbm
  generalize (H.lb j).map pD=LB at*
  unfold Fd
  simp only[Ab,Sh,Kf,Jg,Fc,b1,b2,kD,Aa,Qa,Ra,Ta,Ya,Oa,Ua,Res.bind_ok,en,cm1,fl7,i0,rg,cm2,fl8,en2,f,Hb,Bb,Fi,set_cons_zero,set_cons_succ]
 .refine .inl ⟨en',?_⟩
  have io:Of (range (j+1)) H.N:=JE H λk hk=>by have:=mem_range.mp hk;omega
  have t1:Re (tK (range j) H.N H.baV) (.inr (H.N j)) .non=tK (range (j+1)) H.N λk=>if k=j then .non else H.baV k:=by
   rw[Ol (g':=λk=>if k=j then .non else H.baV k) λk hk=>by
    have:=mem_range.mp hk
    rw[if_neg (by omega)]]
   have:=ZD (f:=H.N) (g:=λk=>if k=j then .non else H.baV k) j λk hk e=>by
    have:=Il (X:=H.X) (Q:=H.Q) (j:=k) (k:=j) (by omega) (by omega) e
    omega
   rw[if_pos rfl]at this
   exact this
  have pt1:=Dm 5 (dP H [Q5,sd (.str (H.N j)),sd (cD (H.C j)),sd (.lst ((H.lb j).map pD)),z9,z10]) (tK (range j) H.N H.baV) (H.N j) .non (Ea 6) (kD .non) (by rw[h5];rfl) (by unfold tK;rw[length_map,length_range];omega) rfl (by simp only[Ta,Ya])
  rw[t1]at pt1
  simp only[set_cons_zero,set_cons_succ]at pt1
  have nn:=BV (H.C j)
  have tp:Se (.lst ((H.lb j).map pD))=.ok (bD (H.lb j)):=rfl
  obtain⟨G1,hG1⟩:∃ G1:List (Cb×D),G1=tK (range (j+1)) H.N λk=>if k=j then .non else H.baV k:=⟨_,rfl⟩
  rw[<-hG1]at pt1
  have pt2:=Dm 5 (dP H [sQ G1,sd (.str (H.N j)),sd (cD (H.C j)),sd (.lst ((H.lb j).map pD)),z9,z10]) G1 (H.N j) (bD (H.lb j)) (Ea 6) (b1 Se (Ga 8)) rfl (by rw[hG1];unfold tK;rw[length_map,length_range];omega) (by simp only[b1,Oa,Ua,Res.bind_ok,tp]) (by simp only[Ta,Ya])
  simp only[set_cons_zero,set_cons_succ]at pt2
  have l2:∀ v,Dg (tR (b2 AG (Ga 7) (Bf (b1 Cf Qa)))) (Lf 5 (Ea 6) (b1 Se (Ga 8))) Out.nx (dP H [sQ G1,sd (.str (H.N j)),sd (cD (H.C j)),sd (.lst ((H.lb j).map pD)),z9,z10])=v->
    Fd (dP H [Q5,sd (.str (H.N j)),x7,x8,x9,x10])=v:=λv hv=>by
   rw[<-hv]
   clear hv lbm
   generalize (H.lb j).map pD=LB at*
   unfold Fd
   simp only[Ab,Sh,Kf,Jg,Fc,b1,b2,kD,Aa,Qa,Ra,Ta,Ya,Oa,Ua,Res.bind_ok,en,cm1,fl7,i0,rg,cm2,fl8,en2,f,Hb,Bb,set_cons_zero,set_cons_succ]at pt1 ⊢
   rw[pt1,Bb]
  rw[<-h5]
  cases hz:(H.C j).isEmpty with
  |true=>
   have hC:H.C j= []:=List.isEmpty_iff.mp hz
   have eG:G1=tK (range (j+1)) H.N H.baV:=by
    rw[hG1]
    refine Ol λk _=>?_
    by_cases e:k=j
    .subst e;rw[if_pos rfl];unfold Hs.baV;rw[if_pos hC]
    .rw[if_neg e]
   rw[hz]at nn
   refine⟨sd (cD (H.C j)),sd (.lst ((H.lb j).map pD)),z9,z10,l2 _ ?_⟩
   rw[<-eG]
   have nn':AG (cD (H.C j)) (.lst [])=.ok (.bl false):=nn
   simp only[Dg,tR,b1,b2,Bf,Cf,Qa,Oa,Ua,Res.bind_ok,nn',Za,Ub,length_nil,zero_le,false_eq_true,if_true,if_false,reduceIte]
  |false=>
   have hC:¬ H.C j= []:=λz=>by rw[z]at hz;cases hz
   have eG:Re G1 (.inr (H.N j)) (bD (H.lb j))=tK (range (j+1)) H.N H.baV:=by
    rw[hG1,PQ io (mem_range.mpr (lt_succ_self _))]
    refine Ol λk _=>?_
    by_cases e:k=j
    .subst e;rw[if_pos rfl];unfold Hs.baV;rw[if_neg hC]
    .rw[if_neg e,if_neg e]
   rw[hz]at nn
   rw[eG]at pt2
   refine⟨sd (cD (H.C j)),sd (.lst ((H.lb j).map pD)),z9,z10,l2 _ ?_⟩
   have nn':AG (cD (H.C j)) (.lst [])=.ok (.bl true):=nn
   rw[<-pt2]
   simp only[Dg,tR,b1,b2,Bf,Cf,Qa,Oa,Ua,Res.bind_ok,nn',Za,Ub,length_nil,zero_le,if_true,reduceIte]
theorem B1(H:Hs)(o:H.Ok)(hpn:H.pn=H.n):Wa 5 Yc [H.ru,sL H.drs H.N,H.grD,H.waD,dK H.plT]=match H.drs.find? (λj=>(H.pl j).isSome) with
  |none=>.ok (dK H.baT)
  |some j=>.ok (.tup [.str (H.N j),.int (((H.pl j).getD 0:Nat):Int)]):=by
 have sq:Qd (sL H.drs H.N)=.ok (H.drs.map λj=>D.str (H.N j)):=rfl
 have one:=Zl (t:=Gb 6) (body:=Fd) (λi δ=>∃ x6 x7 x8 x9 x10:Option S,δ=(dP H [sQ (tK (range i) H.N H.baV),x6,x7,x8,x9,x10]))
  (λj=>D.str (H.N j)) (λj=>(H.pl j).isSome) (λj=>.rt (.tup [.str (H.N j),.int (((H.pl j).getD 0:Nat):Int)])) (λj=>.inl ⟨_,rfl⟩) H.drs 0 (dP H [some (.q [] []),none,none,none,none,none]) (λi j δ hj hI=>by
   obtain⟨x6,x7,x8,x9,x10,rfl⟩:=hI
   rw[zero_add]
   have e2:(range H.m)[i]? =some j:=hj
   have hi':i<H.m:=by have:=(List.getElem?_eq_some_iff.mp e2).1;rw[length_range]at this;exact this
   rw[getElem?_range hi']at e2
   have this:j=i:=(Option.some.inj e2).symm
   subst this
   refine⟨_,rfl,?_⟩
   rcases NL H o hpn hi' x7 x8 x9 x10 with⟨b,y7,y8,y9,y10,e⟩|⟨b,e⟩
   .exact .inl ⟨by rw[b];rfl,_,e,_,_,_,_,_,rfl⟩
   .exact .inr ⟨b,e⟩) ⟨none,none,none,none,none,rfl⟩
 rcases one with⟨j,ej,f⟩|⟨en,δ2,f,x6,x7,x8,x9,x10,rfl⟩
 .rw[ej]
  refine Vb _ _ _ _ ?_ rfl
  clear ej
  unfold Yc Zm
  walk_at "s"
  simp only[b1,Ab,Th,Kf,Ta,Ya,Res.bind_ok,sq,f,Hb,Bb,Fi,Ec,set_cons_zero,set_cons_succ]
 .rw[en]
  refine Vb _ _ _ _ ?_ rfl
  clear en
  rw[zero_add,show H.drs.length=H.m from length_range]at f
  have fz:EC 5 (dP H [sQ (tK (range H.m) H.N H.baV),x6,x7,x8,x9,x10])=(dP H [sd (dK H.baT),x6,x7,x8,x9,x10]):=rfl
  unfold Yc Zm
  walk_at "s"
  simp only[b1,Ab,Th,Kf,Gu,Rb,Ta,Ya,Oa,Ua,Res.bind_ok,sq,f,fz,Hb,Bb,Ec,set_cons_zero,set_cons_succ]
theorem Nr:∀ (ds:List D),(∀ d∈ds,Gg d d=true)->Ot ds ds=true
 | [],_=>by simp[Ot]
 |d::ds,h=>by rw[Ot,h d mem_cons_self,Nr ds λx hx=>h x (mem_cons_of_mem _ hx)];rfl
theorem Xn:∀ (n:Nat) (d:D),Lb n d=true->Gg d d=true
 |_,.non,_=>by simp[Gg]
 |_,.bl b,_=>by simp[Gg]
 |_,.int i,_=>by simp[Gg]
 |_,.str x,_=>by simp[Gg]
 |0,.tup ds,h=>by simp[Lb]at h
 |0,.lst ds,h=>by simp[Lb]at h
 |n+1,.tup ds,h=>by
  rw[Lb,all_eq_true]at h
  rw[Gg]
  exact Nr ds λd hd=>Xn n d (h d hd)
 |n+1,.lst ds,h=>by
  rw[Lb,all_eq_true]at h
  rw[Gg]
  exact Nr ds λd hd=>Xn n d (h d hd)
 |_,.dct _ _,h=>by simp[Lb]at h
 |_,.exc _ _,h=>by simp[Lb]at h
 |_,.obj _ _ _,h=>by simp[Lb]at h
theorem QL(d:D)(h:Lb 40 d=true):Aq d d=.ok (.bl true):=by
 unfold Aq
 rw[if_pos (by rw[h];rfl),Xn 40 d h]
theorem Vv:∀ {l:List (Cb×D)},(l.map (·.1)).Nodup->∀ p∈l,Cc l p.1=some p.2
 | [],_,p,h=>by simp at h
 |q::l,hn,p,h=>by
  rw[map_cons,nodup_cons]at hn
  rcases mem_cons.mp h with rfl|h
  .exact Lg rfl
  .rw[Mf (λz=>hn.1 (by rw[show q.1=p.1 from z];exact mem_map_of_mem h))]
   exact Vv hn.2 p h
variable{m l:List (Cb×D)}
theorem Jw(hn:(m.map (·.1)).Nodup)(hl:l.length=m.length)(hs:∀ p∈l,p∈m/\Lb 39 p.2=true):L3.eqT l m=true:=by
 unfold L3.eqT
 rw[and_eq_true,all_eq_true]
 refine⟨by rw[hl];simp,λp hp=>?_⟩
 rw[Vv hn p (hs p hp).1]
 exact Xn 39 p.2 (hs p hp).2
theorem OG(n:Nat)(c:List Int):Lb (n+1) (pD c)=true:=by
 unfold pD
 rw[Lb,all_eq_true]
 intro d hd
 obtain⟨i,_,rfl⟩:=mem_map.mp hd
 cases n<;>rfl
theorem LX(n:Nat)(B:List (List Int)):Lb (n+2) (bD B)=true:=by
 unfold bD
 rw[Lb,all_eq_true]
 intro d hd
 obtain⟨c,_,rfl⟩:=mem_map.mp hd
 exact OG n c
theorem UR(h:∀ p∈l,Lb 39 p.2=true):(l.map (·.2)).all (Lb 39)=true:=by
 rw[all_eq_true]
 intro d hd
 obtain⟨p,hp,rfl⟩:=mem_map.mp hd
 exact h p hp
theorem AC(h1:∀ p∈l,Lb 39 p.2=true)(h2:∀ p∈m,Lb 39 p.2=true)(h:L3.eqT l m=true):YB (dK l) (dK m)=.ok (.bl true)/\BJ (dK l) (dK m)=.ok (.bl false):=by
 constructor
 .show(if((l.map (·.2)).all (Lb 39)&&(m.map (·.2)).all (Lb 39))=true then Res.ok (D.bl (L3.eqT ((l.map (·.1)).zip (l.map (·.2))) ((m.map (·.1)).zip (m.map (·.2))))) else .stuck)=_
  rw[UR h1,UR h2,Ii,Ii,h];rfl
 .show(if((l.map (·.2)).all (Lb 39)&&(m.map (·.2)).all (Lb 39))=true then Res.ok (D.bl (!L3.eqT ((l.map (·.1)).zip (l.map (·.2))) ((m.map (·.1)).zip (m.map (·.2))))) else .stuck)=_
  rw[UR h1,UR h2,Ii,Ii,h];rfl
theorem Er(H:Hs):∀ p∈H.baT,Lb 39 p.2=true:=λp hp=>by
 unfold Hs.baT tK at hp
 obtain⟨k,_,rfl⟩:=mem_map.mp hp
 show Lb 39 (H.baV k)=true
 unfold Hs.baV
 split
 .rfl
 .exact LX 37 _
theorem Gp(H:Hs):∀ p∈H.plT,Lb 39 p.2=true:=λp hp=>by
 unfold Hs.plT tK at hp
 obtain⟨k,_,rfl⟩:=mem_map.mp hp
 exact OG 38 _
theorem FN(ks:List Nat)(f:Nat->Str)(g:Nat->D)(h:ks.length<=1000):Tr (dK (tK ks f g))=.ok (ks.map λk=>D.tup [.str (f k),g k]):=by
 show(@ite (Res (List D)) (((tK ks f g).map (·.1)).length<=sizeLine) (propDecidable _) (.ok ((((tK ks f g).map (·.1)).zip ((tK ks f g).map (·.2))).map λp=>.tup [Ik p.1,p.2])) .stuck)=_
 rw[if_pos (by unfold tK;rw[length_map,length_map];exact KR h),Ii]
 unfold tK
 rw[map_map];rfl
def YF(X Q:Str)(p d h s:Int)(m ct n:Nat)(f:Nat->Int)(cut:Nat->List Int)(po:List Nat):Hs:=⟨X,Q,p,d,h,s,m,ct,n,λk=>Oq m (f k),λk=>Ep m ct (f k),n,cut,po⟩
theorem CO{p d h s:Int}{m:Nat}{f:Nat->Int}{cut:Nat->List Int}{po:List Nat}(hxq:X.length<=10/\Q.length<=10/\FJ X/\FJ Q)(hp:1<=p)(hp2:p<=100)(m1:1<=m)(hm:m<=19)(hc:ct<m)(hn:n<=19)(hcut:∀ k,k<n->(cut k).length=p.toNat)(h1:po.Nodup)(h2:∀ k,k∈po↔k<n):(YF X Q p d h s m ct n f cut po).Ok:=
 ⟨hxq,hp,hp2,m1,hm,hc,hn,λk _=>N7 m ct (f k) (by omega),le_refl _,hcut,h1,h2⟩
theorem O9(X Q:Str)(p d h s:Int)(m ct n:Nat)(f:Nat->Int)(cut:Nat->List Int)(po:List Nat)(hh:0<=h)(H:Hs)(hH:H=YF X Q p d h s m ct n f cut (range n))(o:(YF X Q p d h s m ct n f cut po).Ok):
  (H.drs.find? (λj=>(H.pl j).isSome)=none->Sb [H.hsD,dK (YF X Q p d h s m ct n f cut po).plT]=.ok (dK H.baT)/\Mc [H.hsD,dK (YF X Q p d h s m ct n f cut po).plT]=.ok (dK H.baT))/\
  ∀ j,H.drs.find? (λj=>(H.pl j).isSome)=some j->Wa 2 Uc [H.hsD,dK (YF X Q p d h s m ct n f cut po).plT]=.ok (.tup [.str (H.N j),.int (((H.pl j).getD 0:Nat):Int)]):=by
 subst hH
 have e1:=RK _ o hh
 have e2:=XR _ o hh
 refine⟨λhz=>?_,λj hz=>?_⟩
 .have hz':(YF X Q p d h s m ct n f cut po).drs.find? (λj=>((YF X Q p d h s m ct n f cut po).pl j).isSome)=none:=hz
  rw[hz']at e1 e2
  exact⟨e1,e2⟩
 .exact MQ _ o hh (j:=j) hz
theorem GO(n:Nat):(range n).reverse.Nodup:=List.pairwise_reverse.mpr (Pairwise.imp (λh=>Ne.symm h) nodup_range)
theorem law_true(ns:List Int)(hl:ns.length<=63):TF [.lst (ns.map D.int)]=.ok (.bl true):=by
 obtain⟨p,d,h,s,er,hp,hp2,hd,hd2,hh,hs⟩:=QP ns
 obtain⟨X,Q,hxq,hnm⟩:=AV ns
 obtain⟨m,ct,n,f,b1',b2',b3',b4',b5',eh⟩:=SM ns X Q hnm 8 9 (by decide) (by decide) (by decide) (by decide)
 obtain⟨cut,hcut,ep⟩:=UW ns X Q p d h s hp (by omega) hd hs (λk=>Oq m (f k)) n (by omega)
 obtain⟨v,ev⟩:=Tn ns 19 (by decide) (by decide)
 have mv:=Tf v 2 (by decide)
 obtain⟨H,hH⟩:∃ H:Hs,H=YF X Q p d h s m ct n f cut (range n):=⟨_,rfl⟩
 have o0:(YF X Q p d h s m ct n f cut (range n)).Ok:=CO hxq hp (by omega) b1' (by omega) b3' (by omega) hcut nodup_range λk=>mem_range
 have o:H.Ok:=by rw[hH];exact o0
 have oR:(YF X Q p d h s m ct n f cut (range n).reverse).Ok:=CO hxq hp (by omega) b1' (by omega) b3' (by omega) hcut (GO n) λk=>by rw[mem_reverse,mem_range]
 have hpn:H.pn=H.n:=by rw[hH];rfl
 have du:=B1 H o hpn
 have mk:=TM H o
 have kn:(λk=>nm X Q (20+k))=H.kn:=by rw[hH];rfl
 have plE:tK (range n) (λk=>nm X Q (20+k)) (λk=>pD (cut k))=H.plT:=by rw[hH];rfl
 rw[plE]at ep
 have inj:Of (range n) H.kn:=Uw H λk hk=>by have:=mem_range.mp hk;omega
 have it:Tr (dK H.plT)=.ok ((range n).map λk=>D.tup [.str (H.kn k),pD (cut k)]):=by
  have:=FN (range n) H.kn (λk=>pD (cut k)) (by rw[length_range];omega)
  rw[<-kn]at this ⊢
  rw[plE]at this
  exact this
 have sl:M5 (.lst ((range n).map λk=>D.tup [.str (H.kn k),pD (cut k)])) none (some (-1))=.ok ((range n).reverse.map λk=>D.tup [.str (H.kn k),pD (cut k)]):=by
  show(if(some (-1:Int))=some 0 then Res.stuck else Res.ok (Ej _ none (some (-1))))=_
  rw[if_neg (by decide),Sv,List.map_reverse]
 have injR:Of (range n).reverse H.kn:=λa ha b hb e=>inj a (mem_reverse.mp ha) b (mem_reverse.mp hb) e
 have dr:Mg (.lst ((range n).reverse.map λk=>D.tup [.str (H.kn k),pD (cut k)]))=.ok (dK (YF X Q p d h s m ct n f cut (range n).reverse).plT):=by
  have:=Sq (g:=λk=>pD (cut k)) injR (GO n)
  rw[<-kn]at this ⊢
  exact this
 have ndP:(H.plT.map (·.1)).Nodup:=Ht (GD H o) o.po1
 have eqS:=AC (Gp H) (Gp H) (Jw ndP rfl λp hp=>⟨hp,Gp H p hp⟩)
 have plR:(YF X Q p d h s m ct n f cut (range n).reverse).plT=H.plT.reverse:=by
  rw[hH]
  show tK (range n).reverse _ _=(tK (range n) _ _).reverse
  unfold tK
  rw[List.map_reverse];rfl
 have eqR':=AC (l:=(YF X Q p d h s m ct n f cut (range n).reverse).plT) (m:=H.plT) (Gp _) (Gp H) (Jw ndP (by rw[plR,List.length_reverse]) λp hp=>⟨by rw[plR]at hp;exact mem_reverse.mp hp,Gp _ p hp⟩)
 have dd:Hw (dK H.plT)=.ok (dK H.plT):=rfl
 have hand:∃ HP:D,YB HP (dK H.plT)=.ok (.bl true)/\BJ HP (dK H.plT)=.ok (.bl false)/\((H.drs.find? (λj=>(H.pl j).isSome)=none->Sb [H.hsD,HP]=.ok (dK H.baT)/\Mc [H.hsD,HP]=.ok (dK H.baT))/\
   ∀ j,H.drs.find? (λj=>(H.pl j).isSome)=some j->Wa 2 Uc [H.hsD,HP]=.ok (.tup [.str (H.N j),.int (((H.pl j).getD 0:Nat):Int)]))/\∀ (a1 a2 a3 a4 a5 a6 a8 a10 a11:Option S),Dg (tR (b2 Aq (b2 Kd (b1 (Wa 2 Ma) (Aa (Ea 0) (Aa (kD (.int 19)) Qa))) (kD (.int 2))) (kD (.int 1)))) (Jc 9 (b1 Mg (Bf (b3 M5 (Bf (KB Tr (Ea 7))) Qm (b1 Os (b1 Yw (kD (.int 1)))))))) Out.nx [sd (.lst (ns.map D.int)),a1,a2,a3,a4,a5,a6,sd (dK H.plT),a8,sd (dK H.plT),a10,a11]
    = .nx [sd (.lst (ns.map D.int)),a1,a2,a3,a4,a5,a6,sd (dK H.plT),a8,sd HP,a10,a11]:=by
  by_cases hz:(v%2==1)=true
  .refine⟨_,eqR'.1,eqR'.2,O9 X Q p d h s m ct n f cut _ (by omega) H hH oR,λa1 a2 a3 a4 a5 a6 a8 a10 a11=>?_⟩
   simp only[Dg,Jc,tR,b1,KB,b2,b3,Bf,kD,Qm,Aa,Qa,Ra,Ta,Ya,Oa,Ua,Res.bind_ok,Fs,Ao,ev,mv,Ff,hz,it,sl,dr,Za,Ub,Hb,set_cons_zero,set_cons_succ,if_true,reduceIte]
  .have hz':(v%2==1)=false:=by simpa using hz
   have tl:=O9 X Q p d h s m ct n f cut _ (by omega) H hH o0
   rw[<-hH]at tl
   refine⟨dK H.plT,eqS.1,eqS.2,tl,λa1 a2 a3 a4 a5 a6 a8 a10 a11=>?_⟩
   simp only[Dg,tR,b1,b2,kD,Aa,Qa,Ra,Ta,Res.bind_ok,ev,mv,Ff,hz',Za,Ub,false_eq_true,if_false,reduceIte]
 obtain⟨HP,q1,q2,⟨q3,q4⟩,q5⟩:=hand
 have asg:∀ (a0 a1 a2 a3 a4 a5:Option S) (A B C D':D) (r:Ca),JH (Hc 4 (Sa (Gb 2) (Sa (Gb 3) (Sa (Gb 4) (Sa (Gb 5) Gc))))) (a0::a1::a2::a3::a4::a5::r) (.tup [A,B,C,D'])=.nx (a0::a1::sd A::sd B::sd C::sd D'::r):=λ_ _ _ _ _ _ _ _ _ _ _=>rfl
 have mk':Wa 4 (As 4 "House" Hg) [Kn p d h s,.lst (Vl X Q m),.lst (HE X Q m ct),.lst (Lk X Q (λk=>Oq m (f k)) n)]=.ok H.hsD:=by
  rw[hH]at mk ⊢;exact mk
 have du':Wa 5 Yc [Kn p d h s,.lst (Vl X Q m),.lst (Lk X Q (λk=>Oq m (f k)) n),.lst (Ey X Q m (λk=>Ep m ct (f k)) n),dK H.plT]=match H.drs.find? (λj=>(H.pl j).isSome) with
  |none=>.ok (dK H.baT)
  |some j=>.ok (.tup [.str (H.N j),.int (((H.pl j).getD 0:Nat):Int)]):=by
  rw[hH]at du ⊢;exact du
 cases hf:H.drs.find? (λj=>(H.pl j).isSome) with
 |some j=>
  rw[hf]at du'
  have du2:Wa 5 Yc [Kn p d h s,.lst (Vl X Q m),.lst (Lk X Q (λk=>Oq m (f k)) n),.lst (Ey X Q m (λk=>Ep m ct (f k)) n),dK H.plT]=.ok (.tup [.str (H.N j),.int (((H.pl j).getD 0:Nat):Int)]):=du'
  have st:=q4 j hf
  have se:Aq (.tup [.str (H.N j),.int (((H.pl j).getD 0:Nat):Int)]) (.tup [.str (H.N j),.int (((H.pl j).getD 0:Nat):Int)])=.ok (.bl true):=QL _ rfl
  have tu:Im "tuple" (.tup [.str (H.N j),.int (((H.pl j).getD 0:Nat):Int)])=.ok (.bl true):=rfl
  have an:MZ (.ok (.bl true)) (.ok (.bl true))=.ok (.bl true):=rfl
  clear hcut hnm hxq o o0 oR q3 q4 du du' mk it sl dr eqS eqR' plR ndP inj injR plE kn hf hH
  generalize D.tup [.str (H.N j),.int (((H.pl j).getD 0:Nat):Int)]=TV at*
  generalize H.hsD=HD at*
  generalize H.plT=PT at*
  generalize Vl X Q m=DR at*
  generalize HE X Q m ct=WG at*
  generalize Lk X Q (λk=>Oq m (f k)) n=GR at*
  generalize Ey X Q m (λk=>Ep m ct (f k)) n=WA at*
  generalize Kn p d h s=RU at*
  generalize ns.map D.int=NN at*
  unfold TF NK
  walk_at "s"
  simp -implicitDefEqProofs only [Ab,Jc,OD,Bf,kD,b1,Aa,Qa,Ra,Ta,Ya,Oa,Ua,Res.bind_ok,Hb,Bb,Bt,er,eh,asg,mk',ep,du2,dd,set_cons_zero,set_cons_succ]
  rw[q5,Bb]
  simp only[Ab,Dg,Rb,tR,b1,b2,X5,Aa,Qa,Ra,Ta,Ya,Oa,Ua,Res.bind_ok,tu,st,se,q1,an,Za,Ub,Hb,Fi,Ec,if_true,reduceIte]
 |none=>
  rw[hf]at du'
  have du2:Wa 5 Yc [Kn p d h s,.lst (Vl X Q m),.lst (Lk X Q (λk=>Oq m (f k)) n),.lst (Ey X Q m (λk=>Ep m ct (f k)) n),dK H.plT]=.ok (dK H.baT):=du'
  obtain⟨bo,bq⟩:=q3 hf
  have bo':Wa 2 Sb [H.hsD,HP]=.ok (dK H.baT):=Vb _ _ _ _ bo rfl
  have tu:Im "tuple" (dK H.baT)=.ok (.bl false):=rfl
  have ndB:(H.baT.map (·.1)).Nodup:=Ht (Lr H o) nodup_range
  have eT:L3.eqT H.baT H.baT=true:=Jw ndB rfl λp hp=>⟨hp,Er H p hp⟩
  have eqB:=AC (Er H) (Er H) eT
  have neB:WC H.baT H.baT=.ok (.bl false):=by
   unfold WC
   rw[eT,if_pos (by rw[and_eq_true,all_eq_true];exact⟨λp hp=>Er H p hp,λp hp=>Er H p hp⟩)];rfl
  have drE:D.lst (Vl X Q m)=sL H.drs H.N:=by rw[hH];rfl
  have ks:(H.baT.map λq=>Ik q.1)=H.drs.map λj=>D.str (H.N j):=by
   unfold Hs.baT tK
   rw[map_map];rfl
  have neK:AG (.lst (H.baT.map λq=>Ik q.1)) (.lst (Vl X Q m))=.ok (.bl false):=by
   rw[ks,drE]
   exact EV H.N H.drs
  have sq:Qd (.lst (Vl X Q m))=.ok (H.drs.map λj=>D.str (H.N j)):=by rw[drE];rfl
  have ix0:Ki (.lst (Vl X Q m)) (.int 0)=.ok (.str (H.N 0)):=by
   rw[drE]
   refine Yr _ _ _ (Ul (by omega) ?_)
   have:H.drs=range m:=by rw[hH];rfl
   rw[this,getElem?_map]
   show Option.map _ (range m)[0]? =_
   rw[getElem?_range (by omega)];rfl
  obtain⟨Q10,h10⟩:∃ Q10:Option S,Q10=sQ H.baT:=⟨_,rfl⟩
  have sQ10:∀ (a0 a1 a2 a3 a4 a5 a6 a7 a8 a9:Option S) (r:Ca),Rc 10 (a0::a1::a2::a3::a4::a5::a6::a7::a8::a9::Q10::r)=.ok H.baT:=λa0 a1 a2 a3 a4 a5 a6 a7 a8 a9 r=>by
   rw[h10]
   simp only[Lo]
   show Res.ok ((H.baT.map (·.1)).zip (H.baT.map (·.2)))=_
   rw[Ii]
  obtain⟨δ2,lp,x11,e11⟩:=Am (t:=Gb 11) (body:=Vw) (λ_ δ=>∃ x11:Option S,δ= [sd (.lst (ns.map D.int)),sd (Kn p d h s),sd (.lst (Vl X Q m)),sd (.lst (HE X Q m ct)),sd (.lst (Lk X Q (λk=>Oq m (f k)) n)),sd (.lst (Ey X Q m (λk=>Ep m ct (f k)) n)),sd H.hsD,sd (dK H.plT),sd (dK H.baT),sd HP,Q10,x11])
   (H.drs.map λj=>D.str (H.N j)) [sd (.lst (ns.map D.int)),sd (Kn p d h s),sd (.lst (Vl X Q m)),sd (.lst (HE X Q m ct)),sd (.lst (Lk X Q (λk=>Oq m (f k)) n)),sd (.lst (Ey X Q m (λk=>Ep m ct (f k)) n)),sd H.hsD,sd (dK H.plT),sd (dK H.baT),sd HP,Q10,none] (λi e δ he hI=>by
    obtain⟨x11,rfl⟩:=hI
    rw[getElem?_map]at he
    obtain⟨j,hj,rfl⟩:=map_eq_some_iff.mp he
    have gj:Zh H.baT (.str (H.N j))=.ok (H.baV j):=FC (g:=H.baV) (Lr H o) (mem_of_getElem? hj)
    refine⟨_,rfl,[sd (.lst (ns.map D.int)),sd (Kn p d h s),sd (.lst (Vl X Q m)),sd (.lst (HE X Q m ct)),sd (.lst (Lk X Q (λk=>Oq m (f k)) n)),sd (.lst (Ey X Q m (λk=>Ep m ct (f k)) n)),sd H.hsD,sd (dK H.plT),sd (dK H.baT),sd HP,Q10,sd (.str (H.N j))],.inl ?_,_,rfl⟩
    simp only[set_cons_zero,set_cons_succ]
    unfold Vw
    by_cases hz:H.C j= []
    .have ev2:H.baV j=.non:=by unfold Hs.baV;rw[if_pos hz]
     rw[ev2]at gj
     simp only[Dg,Um,tR,b1,KH,sQ10,Oa,Ua,Res.bind_ok,gj,show Js .non=.ok (.bl false) from rfl,Za,Nn,Ub,false_eq_true,if_false,reduceIte]
    .have ev2:H.baV j=bD (H.lb j):=by unfold Hs.baV;rw[if_neg hz]
     rw[ev2]at gj
     have wh:=ZQ (H.lb j)
     have nb:Js (bD (H.lb j))=.ok (.bl true):=rfl
     simp only[Dg,Um,Gi,tR,b1,KH,Aa,Qa,Ra,sQ10,Oa,Ua,Res.bind_ok,gj,nb,wh,Za,Nn,Ub,Bool.not_true,false_eq_true,if_true,if_false,reduceIte]) ⟨none,rfl⟩
  subst e11
  have pt:=Dm 10 [sd (.lst (ns.map D.int)),sd (Kn p d h s),sd (.lst (Vl X Q m)),sd (.lst (HE X Q m ct)),sd (.lst (Lk X Q (λk=>Oq m (f k)) n)),sd (.lst (Ey X Q m (λk=>Ep m ct (f k)) n)),sd H.hsD,sd (dK H.plT),sd (dK H.baT),sd HP,Q10,x11] H.baT (H.N 0) (.int 5) (b2 Ki (Ga 2) (kD (.int 0))) (kD (.int 5)) (by rw[h10];rfl) (by unfold Hs.baT tK;rw[length_map];have:H.drs.length=H.m:=length_range;have:=o.hm;omega) rfl (by simp only[b2,kD,Oa,Ua,Res.bind_ok,ix0])
  simp only[set_cons_zero,set_cons_succ]at pt
  have ow:∀ (a0 a1 a2 a3 a4 a5 a6 a7 a8 a9 a10 a11:Option S),CG 10 [a0,a1,a2,a3,a4,a5,a6,a7,a8,a9,a10,a11] (dK H.baT)=.nx [a0,a1,a2,a3,a4,a5,a6,a7,a8,a9,Q10,a11]:=λ_ _ _ _ _ _ _ _ _ _ _ _=>by rw[h10];rfl
  have q8:∀ (a0 a1 a2 a3 a4 a5 a6 a7:Option S) (r:Ca),Rc 8 (a0::a1::a2::a3::a4::a5::a6::a7::sd (dK H.baT)::r)=.ok H.baT:=λ_ _ _ _ _ _ _ _ _=>by simp only[Lo,Ct]
  clear hcut hnm hxq o0 oR q3 q4 du du' mk it sl dr eqS eqR' plR ndP inj injR plE kn hf ndB eT drE ks
  obtain⟨TB,hTB⟩:∃ TB:D,TB=dK H.baT:=⟨_,rfl⟩
  unfold TF NK
  walk_at "s"
  simp -implicitDefEqProofs only [Ab,Jc,OD,Bf,kD,b1,Aa,Qa,Ra,Ta,Ya,Oa,Ua,Res.bind_ok,Hb,Bb,Bt,er,eh,asg,mk',ep,du2,dd,set_cons_zero,set_cons_succ]
  rw[q5,Bb]
  simp only[Ab,Dg,Rb,PD,tR,Pk,Gi,L3.isQ,ksT,K6,Bf,b1,b2,Kc,Aa,Qa,Ra,Ta,Ya,Oa,Ua,sQ10,q8,Res.bind_ok,tu,bq,ow,neK,neB,q2,Za,Jl,Ub,Hb,Bb,List.length_cons,length_nil,reduceAdd,Bool.not_true,false_eq_true,if_true,if_false,reduceIte]
  simp only[Kf,Ab,b1,Ta,Ya,Res.bind_ok,sq,lp,Hb,Bb]
  rw[pt]
  simp only[Bb,Rb,b1,b2,Aa,Qa,Ra,Ta,Ya,Oa,Ua,Res.bind_ok,bo',eqB.1,Hb,Ec]
end G
local macro_rules| `(tactic| walk_at "memfree")=> `(tactic| first|exact forall_mem_nil _|exact forall_mem_cons.mpr ⟨(by intro h;first|exact absurd h (by decide)|exact Or.inl rfl|exact Or.inr rfl),by walk_at "memfree"⟩)
local macro_rules| `(tactic| walk_at "memdis")=> `(tactic| first|exact forall_mem_nil _|exact forall_mem_cons.mpr ⟨by decide +kernel,by walk_at "memdis"⟩)
local macro_rules| `(tactic| walk_at "compok")=> `(tactic| exact⟨rfl,by decide +kernel,by walk_at "memfree",rfl,by walk_at "memdis"⟩)
namespace G
open PySem PySem.Spec PyProof.Rows L2 L3
abbrev M6:List Str:= ["_law_place","_law_door","_law_script","_law_most_doors","_law_most_keys","_law_doors","_law_cut","_law_wings","_law_wants","_law_grants","_law_k","_law_cell_here","_law_own","_law_things"]
abbrev nl1:List Str:= ["_law_script","_law_most_doors","_law_most_keys","_law_doors","_law_cut","_law_wings","_law_wants","_law_grants","_law_k","_law_cell_here","_law_own","_law_things"]
abbrev nl2:List Str:= ["_law_k","_law_row","_law_rules_here","_law_doors","_law_grants","_law_wants","_law_plan_here","_law_found","_law_door","_law_some","_law_pins","_law_place","_law_pin"]
abbrev nl3:List Str:= ["_law_place","_law_rules_here","_law_doors","_law_grants","_law_wants","_law_plan_here","_law_found","_law_door","_law_some","_law_pins","?","_law_pin"]
abbrev nl4:List Str:= ["_law_rules_here","_law_doors","_law_grants","_law_wants","_law_plan_here","_law_found","_law_door","_law_some","_law_pins","_law_place","_law_pin"]
abbrev nl5:List Str:= ["_law_rules_here","_law_doors","_law_grants","_law_wants","_law_plan_here"]
abbrev nl6:List Str:= ["name","rules","held","plan","barrels","door","names"]
def top(i:Nat):Stmt:=PySem.Challenge.pw_wardsmith_k41_barrels_of_a_plan.main.body.getD i (.Pass ⟨0,0,0,0⟩)
abbrev Gj:Stmt:=top 23
abbrev Em:Stmt:=Qw (top 22) 0
abbrev Ve:Stmt:=top 25
abbrev Wf:Stmt:=top 31
abbrev Xe:Stmt:=top 26
abbrev Xd:Stmt:=top 28
abbrev We:Stmt:=top 27
abbrev Ye:Stmt:=top 30
abbrev Yd:Stmt:=top 29
abbrev Fm:Stmt:=Qw (top 5) 0
abbrev Fh:Stmt:=Qw (top 3) 0
abbrev Ce:Stmt:=top 9
abbrev Ze:Stmt:=top 8
abbrev Yf:Stmt:=top 11
abbrev Be:Stmt:=top 20
abbrev Vc:Stmt:=top 19
abbrev Xf:Stmt:=top 14
abbrev Zf:Stmt:=top 13
abbrev Ag:Stmt:=top 15
abbrev Gh:Stmt:=top 18
abbrev Wc:Stmt:=top 17
abbrev Zd:Stmt:=top 32
abbrev Ae:Stmt:=top 33
abbrev Jo:Stmt:=top 34
structure Txt(K:Frag)(mg:Str->Option Value)(ca:Nat->V):Prop where
 n_ValueError:mg "ValueError"=none
 n_bool:mg "bool"=none
 n_dict:mg "dict"=none
 n_enumerate:mg "enumerate"=none
 n_int:mg "int"=none
 n_isinstance:mg "isinstance"=none
 n_len:mg "len"=none
 n_list:mg "list"=none
 n_max:mg "max"=none
 n_min:mg "min"=none
 n_range:mg "range"=none
 n_set:mg "set"=none
 n_sorted:mg "sorted"=none
 n_tuple:mg "tuple"=none
 o_House_doors:FldK K "House" "doors"
 o_House_grants:FldK K "House" "grants"
 o_House_rules:FldK K "House" "rules"
 o_House_wings:FldK K "House" "wings"
 f_door:∀ c∈(["Steep"]:List Str),FldX K c "door"
 f_place:∀ c∈(["Steep","TooHigh"]:List Str),FldX K c "place"
 m_SmithError_Steep:MatchX K "SmithError" "Steep"
 m_TooHigh_TooHigh:MatchX K "TooHigh" "TooHigh"
 v_NoCuts:IsC K mg "NoCuts" (ca 4)
 v_NoSuch:IsC K mg "NoSuch" (ca 5)
 v_Steep:IsC K mg "Steep" (ca 1)
 v_TooHigh:IsC K mg "TooHigh" (ca 0)
 v_ValueError:IsC K mg "ValueError" (ca 3)
 v_Wrong:IsC K mg "Wrong" (ca 6)
 i_0:IsiX K [("Steep",true),("TooHigh",false)] [ca 1]
 i_1:IsiX K [("Steep",true),("TooHigh",true)] [ca 3]
 i_2:IsiX K [("Steep",false),("TooHigh",true)] [ca 0,ca 4,ca 5,ca 6]
variable{w:World}{K:Frag}{mg:Str->Option Value}{f:Addr}{fd:FuncData}
section
variable {P:Program}{base:Heap}{ca:Nat->V}
theorem RJ:FnScope ["things"] ["things"] (Da Gj):=⟨rfl,rfl,rfl,by decide +kernel,rfl,by decide +kernel,by decide +kernel⟩
theorem GJ(F:Fun K "copied" "copied" Gj f fd)(hm:mg "copied"=some (.ref f))(T:Txt K mg ca)  :Fn P w K mg base 1 "copied" 1 Ph:=
 Ge (k:=0) F RJ hm (F.binds (ps:= ["things"]) λ_ _ _ _ _ _=>BZ λ_=>rfl) λcdv A outer s H E hr=>
  (Eb (Ad (Qc (Gf ["name","names"] ["things"] (by walk_at "compok") rfl (Xi (Ia 0)) (λC fp pins s H=>⟨(Wi rfl (Wb (Ib 0 (show Nodup (["name","names","things"]:List Str) by decide +kernel)) (Wb (Ib 1 (show Nodup (["name","names","things"]:List Str) by decide +kernel)) Vi))),Gq,(Vm (Ba (Ia 0) (Ba (Qc (Bl T.n_list (La 1))) Xa)))⟩)))))
theorem CQ:FnScope ["self","rules","doors","wings","grants"] ["self","rules","doors","wings","grants"] (Da Em):=⟨rfl,rfl,rfl,by decide +kernel,rfl,by decide +kernel,by decide +kernel⟩
theorem SO{C:Addr}(F:Fun K "__init__" "House.__init__" Em f fd)(M:Mk K C f)(hm:mg "House"=some (.ref C))(hc:nsIn K mainGlobals "House"=some (some (.ref C)))(cl:Cls K C)(na_rules:NoAttr K C "rules")(na_doors:NoAttr K C "doors")(na_wings:NoAttr K C "wings")(na_grants:NoAttr K C "grants")(T:Txt K mg ca)(F_copied:Fn P w K mg base 1 "copied" 1 Ph):FnI P w K mg base 3 "House" 4 4 Hg:=
 AU (k:=1) F CQ M hm hc (F.binds (ps:= ["self","rules","doors","wings","grants"]) λ_ _ _ _ _ _=>us5 λ_ _ _ _ _=>rfl) λcdv A outer s H E hr=>
  (Wq cl na_rules (Ia 1)
  (Wq cl na_doors (Qc (Bl T.n_list (La 2)))
  (Wq cl na_wings (Pb (F_copied.mono (by decide)) hr (Ba (Ia 3) Xa))
  (Wq cl na_grants (Pb (F_copied.mono (by decide)) hr (Ba (Ia 4) Xa))
  Z1))))
theorem Dk:FnScope ["_law_script","_law_k","_law_number"] ["_law_script","_law_k"] (Da Ve):=⟨rfl,rfl,rfl,by decide +kernel,rfl,by decide +kernel,by decide +kernel⟩
theorem Bx(F:Fun K "_law_cell" "_law_cell" Ve f fd)(hm:mg "_law_cell"=some (.ref f))(T:Txt K mg ca)  :Fn P w K mg base 1 "_law_cell" 2 Ma:=
 Ge (k:=0) F Dk hm (F.binds (ps:= ["_law_script","_law_k"]) λ_ _ _ _ _ _=>CZ λ_ _=>rfl) λcdv A outer s H E hr=>
  (Ja (Hj (Af Ab0 (La 1) (Ka (Iq T.n_len (La 0)))) (Eb (Ad (Lj (La 0) (La 1)))) Tc)
  (Ja (Bd 2 Dk.nd (Fe (Ka (Qp (La 1) (Ka Va))) (Ka Va)))
  (Ja (Hj (Af SK (Ka (Iq T.n_len (La 0))) (Ka Va)) (Eb (Bd 2 Dk.nd (Fe (La 2) (Ka (Qp (Ka (Ed (Ka (Lj (La 0) (Ka (Ed (Ka (Qp (La 1) (Ka Va))) (Ka (Iq T.n_len (La 0))))))) (Ka Va))) (Ka Va)))))) Tc)
  (Eb (Ad (Ed (Ka (Qp (La 2) (La 2))) (Ka Va)))))))
theorem Pd:FnScope nl4 nl5 (Da Wf):=⟨rfl,rfl,rfl,by decide +kernel,rfl,by decide +kernel,by decide +kernel⟩
theorem AA(F:Fun K "_law_due" "_law_due" Wf f fd)(hm:mg "_law_due"=some (.ref f))(T:Txt K mg ca)  :Fn P w K mg base 1 "_law_due" 5 Yc:=
 Ge (k:=0) F Pd hm (F.binds (ps:=nl5) λ_ _ _ _ _ _=>us5 λ_ _ _ _ _=>rfl) λcdv A outer s H E hr=>
  (Ja (Ys 5 Pd.nd)
  (Ja (Kl PassesOwn.never rfl (Xi (Ia 1)) (Ib 6 Pd.nd) (Ja (Ko 7 Pd.nd (Gf ["_law_k","_law_row"] nl4 (by walk_at "compok") rfl (Xo T.n_enumerate (Ba (Ia 2) Xa)) (λC fp pins s H=>⟨(Wi rfl (Wb (Ib 0 (show Nodup nl2 by decide +kernel)) (Wb (Ib 1 (show Nodup nl2 by decide +kernel)) Vi))),(Hq (D6 (La 8) (Ka (Lj (La 5) (La 0))))),(Np (Rh 6) (Ka (Lj (La 1) (Ka Va))))⟩)))
  (Ja (Ck 7 (by refine ZP 8 Pd.nd ["_law_place"] ["_law_rules_here","_law_doors","_law_grants","_law_wants","_law_plan_here","_law_found","_law_door","_law_some","_law_pins","?","_law_pin"] (by walk_at "compok") rfl (Yn T.n_range (Ba (Lj (La 0) (Ka Va)) Xa))  ?_;exact(λC fp pins s H=>⟨(Ib 0 (show Nodup nl3 by decide +kernel)),Gq,(Mo T.n_tuple (Ka (Qc (Xu rfl T.n_sorted T.n_set (Ka (Qc (Gf ["_law_cuts_here"] nl3 (by walk_at "compok") rfl (Xi (Ia 8)) (λC fp pins s H=>⟨(Ib 0 (show Nodup (["_law_cuts_here","_law_place","_law_rules_here","_law_doors","_law_grants","_law_wants","_law_plan_here","_law_found","_law_door","_law_some","_law_pins","?","_law_pin"]:List Str) by decide +kernel)),Gq,(Lj (La 0) (La 1))⟩))))))))⟩)))
  (Ja (Ck 8 (Kl PassesOwn.never rfl (Xo T.n_enumerate (Ba (Ia 8) Xa)) (Wi rfl (Wb (Ib 9 Pd.nd) (Wb (Ib 10 Pd.nd) Vi))) (Eb (Hj (Af SK (Ka (Iq T.n_len (La 10))) (Ka (Lj (La 0) (Ka Va)))) (Eb (Ad (Vm (Ba (Ia 6) (Ba (Ia 9) Xa))))) Tc))))
  (Ja (Ll 5 EB (Ia 6))
  (Eb (Hj (Af (Y6 (Hm hr)) (La 7) (Ka (Qc (Gk Xa)))) (Eb (Ll 5 (Mo T.n_tuple (La 8)) (Ia 6))) Tc)))))))
  (Eb (MG 5 (SD 5)))))
theorem Ek:FnScope ["_law_script","_law_k","_law_some","_law_pad"] ["_law_script","_law_k"] (Da Xe):=⟨rfl,rfl,rfl,by decide +kernel,rfl,by decide +kernel,by decide +kernel⟩
theorem Gx(F:Fun K "_law_name" "_law_name" Xe f fd)(hm:mg "_law_name"=some (.ref f))(T:Txt K mg ca)(F__law_cell:Fn P w K mg base 1 "_law_cell" 2 Ma):Fn P w K mg base 2 "_law_name" 2 Kb:=
 Ge (k:=1) F Ek hm (F.binds (ps:= ["_law_script","_law_k"]) λ_ _ _ _ _ _=>CZ λ_ _=>rfl) λcdv A outer s H E hr=>
  (Ja (Bd 2 Ek.nd ER)
  (Ja (Bd 3 Ek.nd (Pb (F__law_cell.mono (by decide)) hr (Ba (Ia 0) (Ba Va Xa))))
  (Eb (Ad (Fe (Ka (Fe (Ka (Fe (Ka (BR (Ka ER) (Ka (Ed (La 3) (Ka Va))))) (Ka (Lj (La 2) (Ka (Ed (La 1) (Ka Va))))))) (Ka (Lj (La 2) (Ka (Ed (Ka (Pp (La 1) (Ka Va))) (Ka Va))))))) (Ka (BR (Ka ER) (Ka (Ed (Ka (Pp (La 3) (Ka Va))) (Ka Va))))))))))
theorem Mb:FnScope nl1 ["_law_script","_law_most_doors","_law_most_keys"] (Da Xd):=⟨rfl,rfl,rfl,by decide +kernel,rfl,by decide +kernel,by decide +kernel⟩
theorem Wt(F:Fun K "_law_house" "_law_house" Xd f fd)(hm:mg "_law_house"=some (.ref f))(T:Txt K mg ca)(F__law_cell:Fn P w K mg base 1 "_law_cell" 2 Ma)(F__law_name:Fn P w K mg base 2 "_law_name" 2 Kb):Fn P w K mg base 3 "_law_house" 3 Ud:=
 Ge (k:=2) F Mb hm (F.binds (ps:= ["_law_script","_law_most_doors","_law_most_keys"]) λ_ _ _ _ _ _=>W5 λ_ _ _=>rfl) λcdv A outer s H E hr=>
  (Ja (by refine ZP 3 Mb.nd ["_law_k"] ["_law_script","_law_most_doors","_law_most_keys","_law_doors","_law_cut","_law_wings","_law_wants","_law_grants","?","_law_cell_here","_law_own","_law_things"] (by walk_at "compok") rfl (Yn T.n_range (Ba (Fe (Ka Va) (Ka (Ed (Ka (Pb (F__law_cell.mono (by decide)) hr (Ba (Ia 0) (Ba Va Xa)))) (La 1)))) Xa))  ?_;exact(λC fp pins s H=>⟨(Ib 0 (show Nodup (["_law_k","_law_script","_law_most_doors","_law_most_keys","_law_doors","_law_cut","_law_wings","_law_wants","_law_grants","?","_law_cell_here","_law_own","_law_things"]:List Str) by decide +kernel)),Gq,(Pb (F__law_name.mono (by decide)) hr (Ba (Ia 1) (Ba (Ia 0) Xa)))⟩))
  (Ja (Bd 4 Mb.nd (Ed (Ka (Pb (F__law_cell.mono (by decide)) hr (Ba (Ia 0) (Ba Va Xa)))) (Ka (Iq T.n_len (La 3)))))
  (Ja (Bd 5 Mb.nd (Qc (Gk (Ba (Vm (Ba (Pb (F__law_name.mono (by decide)) hr (Ba (Ia 0) (Ba Va Xa))) (Ba (Qc (G7 (La 3) (BD (Ia 4)) AD)) Xa))) (Ba (Vm (Ba (Pb (F__law_name.mono (by decide)) hr (Ba (Ia 0) (Ba Va Xa))) (Ba (Qc (Gk (Ba (Pb (F__law_name.mono (by decide)) hr (Ba (Ia 0) (Ba Va Xa))) (Ba (Lj (La 3) (Ka Va)) Xa)))) Xa))) Xa)))))
  (Ja (Ko 6 Mb.nd (Gk Xa))
  (Ja (Ko 7 Mb.nd (Gk Xa))
  (Ja (Kl PassesOwn.never rfl (Yn T.n_range (Ba (Fe (Ka Va) (Ka (Ed (Ka (Pb (F__law_cell.mono (by decide)) hr (Ba (Ia 0) (Ba Va Xa)))) (La 2)))) Xa)) (Ib 8 Mb.nd) (Ja (Bd 9 Mb.nd (Ed (Ka (Pb (F__law_cell.mono (by decide)) hr (Ba (Ia 0) (Ba (Fe (Ka Va) (La 8)) Xa)))) (Ka (HZ (Ka Va) (Ka Va)))))
  (Ja (Ck 3 (Ko 10 Mb.nd (Gf ["_law_place","_law_door"] nl1 (by walk_at "compok") rfl (Xo T.n_enumerate (Ba (Ia 3) Xa)) (λC fp pins s H=>⟨(Wi rfl (Wb (Ib 0 (show Nodup M6 by decide +kernel)) (Wb (Ib 1 (show Nodup M6 by decide +kernel)) Vi))),(Hq (Af (Pt (Hm hr)) (Ka (Ed (Ka (Pp (La 11) (Ka (Fe (Ka Va) (Ka (Qp (Ka Va) (La 0))))))) (Ka Va))) (Ka Va))),(Ia 1)⟩))))
  (Ja (Bd 11 Mb.nd (Qc (OY (La 10) AD (BD (GH (Ka Va))))))
  (Ja (Hj (Af (Pt (Hm hr)) (Ka (Ed (La 9) (Ka Va))) (Ka Va)) (Ja (Bd 11 Mb.nd (Qc (NY (La 11) (Ka (Qc (Gk (Ba (Pb (F__law_name.mono (by decide)) hr (Ba (Ia 0) (Ba Va Xa))) Xa)))))))
  (Eb (Ck 3 (Ko 10 Mb.nd (Gf ["_law_place","_law_door"] nl1 (by walk_at "compok") rfl (Xo T.n_enumerate (Ba (Ia 3) Xa)) (λC fp pins s H=>⟨(Wi rfl (Wb (Ib 0 (show Nodup M6 by decide +kernel)) (Wb (Ib 1 (show Nodup M6 by decide +kernel)) Vi))),(Hq (GY (Ay (D6 (La 1) (La 12)) (Jt (Af X6 (La 0) (La 6)))))),(Ia 1)⟩)))))) Tc)
  (Ja (Hj (GY (Ay (Af (Pt (Hm hr)) (La 11) (Ka (Qc (Gk Xa)))) (Jt (Af (Pt (Hm hr)) (Ka (Ed (La 9) (Ka Va))) (Ka Va))))) (Ja (Bd 11 Mb.nd (Qc (Gk (Ba (Pb (F__law_name.mono (by decide)) hr (Ba (Ia 0) (Ba Va Xa))) Xa))))
  (Eb (Ck 3 (Ko 10 Mb.nd (Gf ["_law_place","_law_door"] nl1 (by walk_at "compok") rfl (Xo T.n_enumerate (Ba (Ia 3) Xa)) (λC fp pins s H=>⟨(Wi rfl (Wb (Ib 0 (show Nodup M6 by decide +kernel)) (Wb (Ib 1 (show Nodup M6 by decide +kernel)) Vi))),(Hq (GY (Ay (Af (Pt (Hm hr)) (La 0) (Ka Va)) (Jt (Af X6 (La 0) (La 6)))))),(Ia 1)⟩)))))) Tc)
  (Ja (Io 7 (Vm (Ba (Pb (F__law_name.mono (by decide)) hr (Ba (Ia 0) (Ba (Fe (Ka Va) (La 8)) Xa))) (Ba (Ia 11) Xa))))
  (Eb (Ck 10 (Io 6 (Ia 10)))))))))))
  (Eb (Ck 6 (Ck 7 (Ck 3 (Ad (Vm (Ba (Ia 3) (Ba (Ia 5) (Ba (Ia 7) (Ba (Ia 6) Xa))))))))))))))))
theorem Yb:FnScope ["_law_script","_law_k","_law_rules_here","_law_places","_law_depths","_law_heights","_law_step","_law_cell_here","_law_found","_law_place","_law_low","_law_high"] ["_law_script","_law_k","_law_rules_here"] (Da We):=⟨rfl,rfl,rfl,by decide +kernel,rfl,by decide +kernel,by decide +kernel⟩
theorem Fx(F:Fun K "_law_cuts" "_law_cuts" We f fd)(hm:mg "_law_cuts"=some (.ref f))(T:Txt K mg ca)(F__law_cell:Fn P w K mg base 1 "_law_cell" 2 Ma):Fn P w K mg base 2 "_law_cuts" 3 Od:=
 Ge (k:=1) F Yb hm (F.binds (ps:= ["_law_script","_law_k","_law_rules_here"]) λ_ _ _ _ _ _=>W5 λ_ _ _=>rfl) λcdv A outer s H E hr=>
  (Ja (YY (Ia 2) (Wi rfl (Wb (Ib 3 Yb.nd) (Wb (Ib 4 Yb.nd) (Wb (Ib 5 Yb.nd) (Wb (Ib 6 Yb.nd) Vi))))))
  (Ja (Bd 7 Yb.nd (Ed (Ka (Pb (F__law_cell.mono (by decide)) hr (Ba (Ia 0) (Ba (Ia 1) Xa)))) (Ka (HZ (Ka Va) (Ka Va)))))
  (Ja (Ko 8 Yb.nd (Gk (Ba (Ed (La 7) (La 4)) Xa)))
  (Ja (Kl PassesOwn.never rfl (XM T.n_range (Ba Va (Ba (Ia 3) Xa))) (Ib 9 Yb.nd) (Ja (Bd 7 Yb.nd (Fe (Ka (Ed (Ka (Qp (La 7) (Ka Va))) (Ka Va))) (La 9)))
  (Ja (Bd 10 Yb.nd (T9 rfl T.n_max (Ba Va (Ba (HH (Ka (Lj (La 8) (Ka (GH (Ka Va))))) (La 6)) Xa))))
  (Ja (Bd 11 Yb.nd (FZ rfl T.n_min (Ba (HH (La 4) (Ka Va)) (Ba (Fe (Ka (Lj (La 8) (Ka (GH (Ka Va))))) (La 6)) Xa))))
  (Eb (Io 8 (Fe (La 10) (Ka (Ed (Ka (Pp (La 7) (Ka Va))) (Ka (Fe (Ka (HH (La 11) (La 10))) (Ka Va))))))))))))
  (Eb (Ad (Mo T.n_tuple (La 8))))))))
theorem Bh:FnScope ["_law_script","_law_rules_here","_law_grants","_law_plan_here","_law_k","_law_row"] ["_law_script","_law_rules_here","_law_grants"] (Da Ye):=⟨rfl,rfl,rfl,by decide +kernel,rfl,by decide +kernel,by decide +kernel⟩
theorem Hx(F:Fun K "_law_plan" "_law_plan" Ye f fd)(hm:mg "_law_plan"=some (.ref f))(T:Txt K mg ca)(F__law_cell:Fn P w K mg base 1 "_law_cell" 2 Ma)(F__law_cuts:Fn P w K mg base 2 "_law_cuts" 3 Od):Fn P w K mg base 3 "_law_plan" 3 Te:=
 Ge (k:=2) F Bh hm (F.binds (ps:= ["_law_script","_law_rules_here","_law_grants"]) λ_ _ _ _ _ _=>W5 λ_ _ _=>rfl) λcdv A outer s H E hr=>
  (Ja (Ys 3 Bh.nd)
  (Ja (Kl PassesOwn.never rfl (Xo T.n_enumerate (Ba (Ia 2) Xa)) (Wi rfl (Wb (Ib 4 Bh.nd) (Wb (Ib 5 Bh.nd) Vi))) (Ja (Ll 3 (Pb (F__law_cuts.mono (by decide)) hr (Ba (Ia 0) (Ba (Fe (Ka Va) (La 4)) (Ba (Ia 1) Xa)))) (Lj (La 5) (Ka Va)))
  (Eb (Hj (GY (EZ (Af SK (La 4) (Ka Va)) (WQ (Af (Pt (Hm hr)) (Ka (Ed (Ka (Pb (F__law_cell.mono (by decide)) hr (Ba (Ia 0) (Ba (Fe (Ka Va) (La 4)) Xa)))) (Ka Va))) (Ka Va))))) (Eb (Ll 3 (Np (Rh 3) (Ka (Lj (Ka (Lj (La 2) (Ka (Ed (Ka (Pp (Ka (Pb (F__law_cell.mono (by decide)) hr (Ba (Ia 0) (Ba (Fe (Ka Va) (La 4)) Xa)))) (Ka Va))) (La 4))))) (Ka Va)))) (Lj (La 5) (Ka Va)))) Tc))))
  (Eb (MG 3 (SD 3)))))
theorem Eg:FnScope ["_law_script","_law_depths","_law_heights"] ["_law_script"] (Da Yd):=⟨rfl,rfl,rfl,by decide +kernel,rfl,by decide +kernel,by decide +kernel⟩
theorem Xt(F:Fun K "_law_rules" "_law_rules" Yd f fd)(hm:mg "_law_rules"=some (.ref f))(T:Txt K mg ca)(F__law_cell:Fn P w K mg base 1 "_law_cell" 2 Ma):Fn P w K mg base 2 "_law_rules" 1 Gd:=
 Ge (k:=1) F Eg hm (F.binds (ps:= ["_law_script"]) λ_ _ _ _ _ _=>BZ λ_=>rfl) λcdv A outer s H E hr=>
  (Ja (Bd 1 Eg.nd (Fe (Ka Va) (Ka (Ed (Ka (Pb (F__law_cell.mono (by decide)) hr (Ba (Ia 0) (Ba Va Xa)))) (Ka Va)))))
  (Ja (Bd 2 Eg.nd (Fe (Ka Va) (Ka (Ed (Ka (Pb (F__law_cell.mono (by decide)) hr (Ba (Ia 0) (Ba Va Xa)))) (La 1)))))
  (Ja (Hj (Af (Pt (Hm hr)) (Ka (Ed (Ka (Pp (Ka (Pb (F__law_cell.mono (by decide)) hr (Ba (Ia 0) (Ba Va Xa)))) (Ka Va))) (Ka Va))) (Ka Va)) (Eb (Bd 2 Eg.nd (FZ rfl T.n_min (Ba (Ia 1) (Ba (Fe (Ka Va) (Ka (Ed (Ka (Pb (F__law_cell.mono (by decide)) hr (Ba (Ia 0) (Ba Va Xa)))) (Ka Va)))) Xa))))) Tc)
  (Eb (Ad (Vm (Ba (Fe (Ka Va) (Ka (Ed (Ka (Pb (F__law_cell.mono (by decide)) hr (Ba (Ia 0) (Ba Va Xa)))) (Ka Va)))) (Ba (Ia 1) (Ba (Ia 2) (Ba (Fe (Ka Va) (Ka (Ed (Ka (Pb (F__law_cell.mono (by decide)) hr (Ba (Ia 0) (Ba Va Xa)))) (Ka (HH (La 1) (Ka Va)))))) Xa))))))))))
theorem DQ:FnScope ["self","door","place"] ["self","door","place"] (Da Fm):=⟨rfl,rfl,rfl,by decide +kernel,rfl,by decide +kernel,by decide +kernel⟩
theorem UO{C S:Addr}(F:Fun K "__init__" "Steep.__init__" Fm f fd)(Z:XInit K C S f)(hm:mg "Steep"=some (.ref C))(hc:nsIn K mainGlobals "Steep"=some (some (.ref C)))(hS:mg "SmithError"=some (.ref S))(na_door:findIn K (.ref C) "door"=some none)(na_place:findIn K (.ref C) "place"=some none):FnG P w K mg base 2 "Steep" [("door",false),("place",true)]:=
 HF (k:=0) F DQ Z hm hc (F.binds (ps:= ["self","door","place"]) λ_ _ _ _ _ _=>W5 λ_ _ _=>rfl) λcdv A outer s H E hr=>Y1 Z hS na_door na_place (Mx (QW 1 (Mx (KP 2 LP rfl (by first|exact Or.inl rfl|exact Or.inr (Or.inl rfl)|exact Or.inr (Or.inr rfl)))) rfl (by first|exact Or.inl rfl|exact Or.inr (Or.inl rfl)|exact Or.inr (Or.inr rfl)))) (λσ v1 v2 h1 s1 h2 s2=>⟨V1 h1 s1,⟨UM h2 s2,trivial⟩⟩)
theorem UD:FnScope ["self","place"] ["self","place"] (Da Fh):=⟨rfl,rfl,rfl,by decide +kernel,rfl,by decide +kernel,by decide +kernel⟩
theorem CD{C S:Addr}(F:Fun K "__init__" "TooHigh.__init__" Fh f fd)(Z:XInit K C S f)(hm:mg "TooHigh"=some (.ref C))(hc:nsIn K mainGlobals "TooHigh"=some (some (.ref C)))(hS:mg "SmithError"=some (.ref S))(na_place:findIn K (.ref C) "place"=some none):FnG P w K mg base 2 "TooHigh" [("place",true)]:=
 HF (k:=0) F UD Z hm hc (F.binds (ps:= ["self","place"]) λ_ _ _ _ _ _=>CZ λ_ _=>rfl) λcdv A outer s H E hr=>X1 Z hS na_place (Mx (KP 1 LP rfl (by first|exact Or.inl rfl|exact Or.inr (Or.inl rfl)|exact Or.inr (Or.inr rfl)))) (λσ v1 h1 s1=>⟨UM h1 s1,trivial⟩)
theorem Iu:FnScope ["rules"] ["rules"] (Da Ce):=⟨rfl,rfl,rfl,by decide +kernel,rfl,by decide +kernel,by decide +kernel⟩
theorem Du(F:Fun K "heights_of" "heights_of" Ce f fd)(hm:mg "heights_of"=some (.ref f))(T:Txt K mg ca)  :Fn P w K mg base 1 "heights_of" 1 Hf:=
 Ge (k:=0) F Iu hm (F.binds (ps:= ["rules"]) λ_ _ _ _ _ _=>BZ λ_=>rfl) λcdv A outer s H E hr=>
  (Eb (Ad (Lj (La 0) (Ka Va))))
theorem Rx:FnScope ["rules"] ["rules"] (Da Ze):=⟨rfl,rfl,rfl,by decide +kernel,rfl,by decide +kernel,by decide +kernel⟩
theorem Jx(F:Fun K "places_of" "places_of" Ze f fd)(hm:mg "places_of"=some (.ref f))(T:Txt K mg ca)  :Fn P w K mg base 1 "places_of" 1 Ig:=
 Ge (k:=0) F Rx hm (F.binds (ps:= ["rules"]) λ_ _ _ _ _ _=>BZ λ_=>rfl) λcdv A outer s H E hr=>
  (Eb (Ad (Lj (La 0) (Ka Va))))
theorem Ei:FnScope ["rules","some","barrel","place","pin"] ["rules","some"] (Da Yf):=⟨rfl,rfl,rfl,by decide +kernel,rfl,by decide +kernel,by decide +kernel⟩
theorem CA(F:Fun K "least_of" "least_of" Yf f fd)(hm:mg "least_of"=some (.ref f))(T:Txt K mg ca)(F_TooHigh:FnG P w K mg base 2 "TooHigh" [("place",true)])(F_heights_of:Fn P w K mg base 1 "heights_of" 1 Hf)(F_places_of:Fn P w K mg base 1 "places_of" 1 Ig):FnX P w K mg base 3 "least_of" 2 Pc:=
 Tq (k:=2) F Ei hm (F.binds (ps:= ["rules","some"]) λ_ _ _ _ _ _=>CZ λ_ _=>rfl) λcdv A outer s H E hr=>
  (Ja (Fq (Ko 2 Ei.nd (Gk Xa)))
  (Ja (Kl PassesOwn.leaving rfl (WM (Yn T.n_range (Ba (Pb (F_places_of.mono (by decide)) hr (Ba (Ia 0) Xa)) Xa))) (Ib 3 Ei.nd) (Ja (Fq (Bd 4 Ei.nd (Mo T.n_tuple (Ka (Qc (Xu rfl T.n_sorted T.n_set (Ka (Qc (Gf ["one"] ["rules","some","barrel","place","pin"] (by walk_at "compok") rfl (Xi (Ia 1)) (λC fp pins s H=>⟨(Ib 0 (show Nodup (["one","rules","some","barrel","place","pin"]:List Str) by decide +kernel)),Gq,(Lj (La 0) (La 4))⟩))))))))))
  (Ja (Hj (Y9 (Af SK (Ka (Iq T.n_len (La 4))) (Ka (Pb (F_heights_of.mono (by decide)) hr (Ba (Ia 0) Xa))))) (Eb (AQ (F_TooHigh.mono (by decide)) hr QJ rfl (Gy (Ba (Ia 3) Xa)))) Tc)
  (Eb (Fq (Io 2 (Ia 4)))))))
  (Eb (Fq (Ad (Mo T.n_tuple (La 2)))))))
theorem Rm:FnScope ["rules","door","some","refusal"] ["rules","door","some"] (Da Be):=⟨rfl,rfl,rfl,by decide +kernel,rfl,by decide +kernel,by decide +kernel⟩
theorem Au(F:Fun K "barrel_for" "barrel_for" Be f fd)(hm:mg "barrel_for"=some (.ref f))(T:Txt K mg ca)(F_Steep:FnG P w K mg base 2 "Steep" [("door",false),("place",true)])(F_TooHigh:FnG P w K mg base 2 "TooHigh" [("place",true)])(F_least_of:FnX P w K mg base 3 "least_of" 2 Pc):FnX P w K mg base 4 "barrel_for" 3 Xb:=
 Tq (k:=3) F Rm hm (F.binds (ps:= ["rules","door","some"]) λ_ _ _ _ _ _=>W5 λ_ _ _=>rfl) λcdv A outer s H E hr=>
  (Ja (Fq (Hj (Af (Pt (Hm hr)) (Ka (Iq T.n_len (La 2))) (Ka Va)) (Eb (Ad EB)) Tc))
  (Eb (BQ 3 ["TooHigh"] (F_least_of.mono (by decide)) (forall_mem_cons.mpr ⟨T.m_TooHigh_TooHigh,forall_mem_nil _⟩) Rm.nd hr (Ba (Ia 0) (Ba (Ia 2) Xa)) O2 Tc (F_Steep.mono (by decide)) hr OJ (λ_=>(Ba (Ia 1) (Ba (EH T.f_place (Ia 3)) Xa))))))
theorem Oc:FnScope ["rules","held","plan","barrels","door","names"] ["rules","held","plan"] (Da Vc):=⟨rfl,rfl,rfl,by decide +kernel,rfl,by decide +kernel,by decide +kernel⟩
theorem Bu(F:Fun K "barrels_in" "barrels_in" Vc f fd)(hm:mg "barrels_in"=some (.ref f))(T:Txt K mg ca)(F_barrel_for:FnX P w K mg base 4 "barrel_for" 3 Xb):FnX P w K mg base 5 "barrels_in" 3 Zb:=
 Tq (k:=4) F Oc hm (F.binds (ps:= ["rules","held","plan"]) λ_ _ _ _ _ _=>W5 λ_ _ _=>rfl) λcdv A outer s H E hr=>
  (Ja (Fq (Ys 3 Oc.nd))
  (Ja (Kl PassesOwn.leaving rfl (WM (Pw (Ia 1))) (Wi rfl (Wb (Ib 4 Oc.nd) (Wb (Ib 5 Oc.nd) Vi))) (Eb (Ll 3 (By (F_barrel_for.mono (by decide)) Bo hr (Gy (Ba (Ia 0) (Ba (Ia 4) (Ba (Qc (Gf ["name"] ["rules","held","plan","barrels","door","names"] (by walk_at "compok") rfl (Xi (Ia 5)) (λC fp pins s H=>⟨(Ib 0 (show Nodup nl6 by decide +kernel)),(Hq (JR (La 0) (Rh 3))),(Np (Rh 3) (La 0))⟩))) Xa))))) (GZ (Ia 4)))))
  (Eb (Fq (MG 3 (SD 3))))))
theorem Eu(F:Fun K "barrels_in" "barrels_in" Vc f fd)(hm:mg "barrels_in"=some (.ref f))(T:Txt K mg ca)(F_barrel_for:FnX P w K mg base 4 "barrel_for" 3 Xb):FnQX P w K mg base 5 "barrels_in" 3 Ac:=
 Xy (k:=4) F Oc hm (F.binds (ps:= ["rules","held","plan"]) λ_ _ _ _ _ _=>W5 λ_ _ _=>rfl) λcdv A outer s H E hr=>
  (ZG (Fq (Ys 3 Oc.nd)) (NoQ.nox NoQ.ownQ)
  (ZG (Kl PassesOwn.leaving rfl (WM (Pw (Ia 1))) (Wi rfl (Wb (Ib 4 Oc.nd) (Wb (Ib 5 Oc.nd) Vi))) (Eb (Ll 3 (By (F_barrel_for.mono (by decide)) Bo hr (Gy (Ba (Ia 0) (Ba (Ia 4) (Ba (Qc (Gf ["name"] ["rules","held","plan","barrels","door","names"] (by walk_at "compok") rfl (Xi (Ia 5)) (λC fp pins s H=>⟨(Ib 0 (show Nodup nl6 by decide +kernel)),(Hq (JR (La 0) (Rh 3))),(Np (Rh 3) (La 0))⟩))) Xa))))) (GZ (Ia 4))))) (NoQ.for_ NoQ.put)
  (N5 3)))
theorem Kg:FnScope ["house","name","members","reached","waiting","thing"] ["house","name"] (Da Xf):=⟨rfl,rfl,rfl,by decide +kernel,rfl,by decide +kernel,by decide +kernel⟩
theorem BA(F:Fun K "doors_of" "doors_of" Xf f fd)(hm:mg "doors_of"=some (.ref f))(T:Txt K mg ca)  :Fn P w K mg base 1 "doors_of" 2 Qf:=
 Ge (k:=0) F Kg hm (F.binds (ps:= ["house","name"]) λ_ _ _ _ _ _=>CZ λ_ _=>rfl) λcdv A outer s H E hr=>
  (Ja (Bd 2 Kg.nd (Zq rfl T.n_dict (Ka (Qc (NY (Ka (Mt T.o_House_wings (Ia 0))) (Ka (Mt T.o_House_grants (Ia 0))))))))
  (Ja (Ys 3 Kg.nd)
  (Ja (Ko 4 Kg.nd (Gk (Ba (Ia 1) Xa)))
  (Ja (HX 100000 PassesOwn.never (Af SK (Ka (Iq T.n_len (La 4))) (Ka Va)) (Ja (K5 5 4 Kg.nd)
  (Eb (Hj (E6 (La 5) (Rh 3)) (Ja (Ll 3 IE (Ia 5))
  (Eb (J5 4 (Y5 (Rh 2) (Ba (Ia 5) (Ba (Qc (Gk Xa)) Xa)))))) Tc))))
  (Eb (MG 3 (Ad (Qc (Gf ["door"] ["house","name","members","reached","waiting","thing"] (by walk_at "compok") rfl (Xi (Mt T.o_House_doors (Ia 0))) (λC fp pins s H=>⟨(Ib 0 (show Nodup (["door","house","name","members","reached","waiting","thing"]:List Str) by decide +kernel)),(Hq (JR (La 0) (Rh 4))),(Ia 0)⟩))))))))))
theorem NA:FnScope ["things"] ["things"] (Da Zf):=⟨rfl,rfl,rfl,by decide +kernel,rfl,by decide +kernel,by decide +kernel⟩
theorem EA(F:Fun K "names_of" "names_of" Zf f fd)(hm:mg "names_of"=some (.ref f))(T:Txt K mg ca)  :Fn P w K mg base 1 "names_of" 1 Rf:=
 Ge (k:=0) F NA hm (F.binds (ps:= ["things"]) λ_ _ _ _ _ _=>BZ λ_=>rfl) λcdv A outer s H E hr=>
  (Eb (Ad (Qc (Gf ["name","names"] ["things"] (by walk_at "compok") rfl (Xi (Ia 0)) (λC fp pins s H=>⟨(Wi rfl (Wb (Ib 0 (show Nodup (["name","names","things"]:List Str) by decide +kernel)) (Wb (Ib 1 (show Nodup (["name","names","things"]:List Str) by decide +kernel)) Vi))),Gq,(Ia 0)⟩)))))
theorem OA:FnScope ["house"] ["house"] (Da Ag):=⟨rfl,rfl,rfl,by decide +kernel,rfl,by decide +kernel,by decide +kernel⟩
theorem FA(F:Fun K "spans_of" "spans_of" Ag f fd)(hm:mg "spans_of"=some (.ref f))(T:Txt K mg ca)(F_doors_of:Fn P w K mg base 1 "doors_of" 2 Qf)(F_names_of:Fn P w K mg base 1 "names_of" 1 Rf):Fn P w K mg base 2 "spans_of" 1 Sf:=
 Ge (k:=1) F OA hm (F.binds (ps:= ["house"]) λ_ _ _ _ _ _=>BZ λ_=>rfl) λcdv A outer s H E hr=>
  (Eb (Ad (Zq rfl T.n_dict (Ka (Qc (Gf ["name"] ["house"] (by walk_at "compok") rfl (Xi (Pb (F_names_of.mono (by decide)) hr (Ba (Mt T.o_House_grants (Ia 0)) Xa))) (λC fp pins s H=>⟨(Ib 0 (show Nodup (["name","house"]:List Str) by decide +kernel)),Gq,(Vm (Ba (Ia 0) (Ba (Pb (F_doors_of.mono (by decide)) hr (Ba (Ia 1) (Ba (Ia 0) Xa))) Xa)))⟩)))))))
theorem Zs:FnScope ["house","spans"] ["house"] (Da Gh):=⟨rfl,rfl,rfl,by decide +kernel,rfl,by decide +kernel,by decide +kernel⟩
theorem DD(F:Fun K "held_by" "held_by" Gh f fd)(hm:mg "held_by"=some (.ref f))(T:Txt K mg ca)(F_spans_of:Fn P w K mg base 2 "spans_of" 1 Sf):Fn P w K mg base 3 "held_by" 1 Ue:=
 Ge (k:=2) F Zs hm (F.binds (ps:= ["house"]) λ_ _ _ _ _ _=>BZ λ_=>rfl) λcdv A outer s H E hr=>
  (Ja (Bd 1 Zs.nd (Pb (F_spans_of.mono (by decide)) hr (Ba (Ia 0) Xa)))
  (Eb (Ad (Zq rfl T.n_dict (Ka (Qc (Gf ["door"] ["house","spans"] (by walk_at "compok") rfl (Xi (Mt T.o_House_doors (Ia 0))) (λC fp pins s H=>⟨(Ib 0 (show Nodup (["door","house","spans"]:List Str) by decide +kernel)),Gq,(Vm (Ba (Ia 0) (Ba (Qc (Gf ["name","doors"] ["door","house","spans"] (by walk_at "compok") rfl (Pw (Ia 2)) (λC fp pins s H=>⟨(Wi rfl (Wb (Ib 0 (show Nodup (["name","doors","door","house","spans"]:List Str) by decide +kernel)) (Wb (Ib 1 (show Nodup (["name","doors","door","house","spans"]:List Str) by decide +kernel)) Vi))),(Hq (D6 (La 2) (La 1))),(Ia 0)⟩))) Xa)))⟩))))))))
theorem Sm:FnScope ["house","plan"] ["house","plan"] (Da Wc):=⟨rfl,rfl,rfl,by decide +kernel,rfl,by decide +kernel,by decide +kernel⟩
theorem Cu(F:Fun K "barrels_of" "barrels_of" Wc f fd)(hm:mg "barrels_of"=some (.ref f))(T:Txt K mg ca)(F_barrels_in:FnX P w K mg base 5 "barrels_in" 3 Zb)(F_held_by:Fn P w K mg base 3 "held_by" 1 Ue):FnX P w K mg base 6 "barrels_of" 2 Sb:=
 Tq (k:=5) F Sm hm (F.binds (ps:= ["house","plan"]) λ_ _ _ _ _ _=>CZ λ_ _=>rfl) λcdv A outer s H E hr=>
  (Eb (Ad (By (F_barrels_in.mono (by decide)) Bo hr (Gy (Ba (Mt T.o_House_rules (Ia 0)) (Ba (Pb (F_held_by.mono (by decide)) hr (Ba (Ia 0) Xa)) (Ba (Ia 1) Xa)))))))
theorem Fu(F:Fun K "barrels_of" "barrels_of" Wc f fd)(hm:mg "barrels_of"=some (.ref f))(T:Txt K mg ca)(F_barrels_in:FnX P w K mg base 5 "barrels_in" 3 Zb)(F_held_by:Fn P w K mg base 3 "held_by" 1 Ue)(FQ_barrels_in:FnQX P w K mg base 5 "barrels_in" 3 Ac):FnQX P w K mg base 6 "barrels_of" 2 Mc:=
 Xy (k:=5) F Sm hm (F.binds (ps:= ["house","plan"]) λ_ _ _ _ _ _=>CZ λ_ _=>rfl) λcdv A outer s H E hr=>
  (QX (FQ_barrels_in.mono (by decide)) Bo hr (Gy (Ba (Mt T.o_House_rules (Ia 0)) (Ba (Pb (F_held_by.mono (by decide)) hr (Ba (Ia 0) Xa)) (Ba (Ia 1) Xa)))))
theorem Fg:FnScope ["_law_house_here","_law_plan_here","_law_caught","e"] ["_law_house_here","_law_plan_here"] (Da Zd):=⟨rfl,rfl,rfl,by decide +kernel,rfl,by decide +kernel,by decide +kernel⟩
theorem Yt(F:Fun K "_law_steep" "_law_steep" Zd f fd)(hm:mg "_law_steep"=some (.ref f))(T:Txt K mg ca)(F_Steep:FnG P w K mg base 2 "Steep" [("door",false),("place",true)])(F_TooHigh:FnG P w K mg base 2 "TooHigh" [("place",true)])(F_barrels_of:FnX P w K mg base 6 "barrels_of" 2 Sb):Fn P w K mg base 7 "_law_steep" 2 Uc:=
 Ge (k:=6) F Fg hm (F.binds (ps:= ["_law_house_here","_law_plan_here"]) λ_ _ _ _ _ _=>CZ λ_ _=>rfl) λcdv A outer s H E hr=>
  (Ja (Bd 2 Fg.nd EB)
  (Ja (GX 3 ["Steep"] (F_barrels_of.mono (by decide)) (forall_mem_cons.mpr ⟨T.m_SmithError_Steep,forall_mem_nil _⟩) Fg.nd hr (Ba (Ia 0) (Ba (Ia 1) Xa)) NU Tc (λ_=>(Eb (Bd 2 Fg.nd (Ia 3)))))
  (Ja (Hj (GY (Ay (Nt (Rl (FH T.i_0 T.n_isinstance (La 2) (Qo T.v_Steep)))) (Jt (Nt (Rl (FH T.i_1 T.n_isinstance (La 2) (Qo T.v_ValueError))))))) (Eb (Ad EB)) Tc)
  (Ja (Hj (GY (Ay (Rl (A6 T.i_2 T.n_isinstance (La 2) (Rq (Qo T.v_TooHigh) (Rq (Qo T.v_NoCuts) (Rq (Qo T.v_NoSuch) (Rq (Qo T.v_Wrong) RZ)))))) (Jt (Rl (Yv Mz (by decide +kernel) T.n_isinstance T.n_bool (Ka (EH T.f_place (Ia 2)))))))) (Eb (Ad EB)) Tc)
  (Eb (Ad (Vm (Ba (EH T.f_door (Ia 2)) (Ba (EH T.f_place (Ia 2)) Xa)))))))))
theorem Mi:FnScope ["_law_barrel","_law_pin","_law_height"] ["_law_barrel"] (Da Ae):=⟨rfl,rfl,rfl,by decide +kernel,rfl,by decide +kernel,by decide +kernel⟩
theorem Zt(F:Fun K "_law_whole" "_law_whole" Ae f fd)(hm:mg "_law_whole"=some (.ref f))(T:Txt K mg ca)  :Fn P w K mg base 1 "_law_whole" 1 Vd:=
 Ge (k:=0) F Mi hm (F.binds (ps:= ["_law_barrel"]) λ_ _ _ _ _ _=>BZ λ_=>rfl) λcdv A outer s H E hr=>
  (Ja (Hj (Nt (Rl (Yv Yo (by decide +kernel) T.n_isinstance T.n_tuple (La 0)))) (Eb (Ad IE)) Tc)
  (Ja (Kl PassesOwn.never rfl (Xi (Ia 0)) (Ib 1 Mi.nd) (Ja (Hj (Nt (Rl (Yv Yo (by decide +kernel) T.n_isinstance T.n_tuple (La 1)))) (Eb (Ad IE)) Tc)
  (Eb (Kl PassesOwn.never rfl (Xi (Ia 1)) (Ib 2 Mi.nd) (Eb (Hj (GY (Ay (Nt (Rl (Yv JU (by decide +kernel) T.n_isinstance T.n_int (La 2)))) (Jt (Rl (Yv Mz (by decide +kernel) T.n_isinstance T.n_bool (La 2)))))) (Eb (Ad IE)) Tc))))))
  (Eb (Ad IE))))
theorem Bg:FnScope ["_law_script","_law_rules_here","_law_doors","_law_wings","_law_grants","_law_wants","_law_house_here","_law_plan_here","_law_due_here","_law_handed","_law_found","_law_door"] ["_law_script"] (Da Jo):=⟨rfl,rfl,rfl,by decide +kernel,rfl,by decide +kernel,by decide +kernel⟩
theorem K3(F:Fun K "law" "law" Jo f fd)(T:Txt K mg ca)(F_House:FnI P w K mg base 3 "House" 4 4 Hg)(F__law_cell:Fn P w K mg base 1 "_law_cell" 2 Ma)(F__law_due:Fn P w K mg base 1 "_law_due" 5 Yc)(F__law_house:Fn P w K mg base 3 "_law_house" 3 Ud)(F__law_plan:Fn P w K mg base 3 "_law_plan" 3 Te)(F__law_rules:Fn P w K mg base 2 "_law_rules" 1 Gd)(F__law_steep:Fn P w K mg base 7 "_law_steep" 2 Uc)(F__law_whole:Fn P w K mg base 1 "_law_whole" 1 Vd)(F_barrels_of:FnX P w K mg base 6 "barrels_of" 2 Sb)(FQ_barrels_of:FnQX P w K mg base 6 "barrels_of" 2 Mc):FnOk P w K mg base Po 8 f fd ["_law_script"] (O6 K 1 TF):=
 Q1 (k:=7) F Bg λcdv A outer s H E hr=>
  (Ja (Bd 1 Bg.nd (Pb (F__law_rules.mono (by decide)) hr (Ba (Ia 0) Xa)))
  (Ja (YY (Pb (F__law_house.mono (by decide)) hr (Ba (Ia 0) (Ba Va (Ba Va Xa)))) (Wi rfl (Wb (Ib 2 Bg.nd) (Wb (Ib 3 Bg.nd) (Wb (Ib 4 Bg.nd) (Wb (Ib 5 Bg.nd) Vi))))))
  (Ja (Bd 6 Bg.nd (B6 (F_House.mono (by decide)) hr (Ba (Ia 1) (Ba (Qc (Bl T.n_list (La 2))) (Ba (Qc (Bl T.n_list (La 3))) (Ba (Qc (Bl T.n_list (La 4))) Xa))))))
  (Ja (Bd 7 Bg.nd (Pb (F__law_plan.mono (by decide)) hr (Ba (Ia 0) (Ba (Ia 1) (Ba (Ia 4) Xa)))))
  (Ja (Bd 8 Bg.nd (Pb (F__law_due.mono (by decide)) hr (Ba (Ia 1) (Ba (Ia 2) (Ba (Ia 4) (Ba (Ia 5) (Ba (Ia 7) Xa)))))))
  (Ja (Bd 9 Bg.nd (CY T.n_dict (La 7)))
  (Ja (Hj (Af (Pt (Hm hr)) (Ka (Ed (Ka (Pb (F__law_cell.mono (by decide)) hr (Ba (Ia 0) (Ba Va Xa)))) (Ka Va))) (Ka Va)) (Eb (Bd 9 Bg.nd (Zq rfl T.n_dict (Ka (Qc (OY (Ka (Qc (QT rfl T.n_list (Ia 7)))) AD (BD (GH (Ka Va))))))))) Tc)
  (Ja (Hj (Rl (Yv Yo (by decide +kernel) T.n_isinstance T.n_tuple (La 8))) (Eb (Ad (R9 (AR (Pt (Hm hr)) (Ka (Pb (F__law_steep.mono (by decide)) hr (Ba (Ia 6) (Ba (Ia 9) Xa)))) (La 8)) (U9 (AR (KY (Hm hr)) (La 9) (La 7)))))) Tc)
  (Ja (RD 10 Bg.nd (FQ_barrels_of.mono (by decide)) G8 hr (Ba (Ia 6) (Ba (Ia 9) Xa)))
  (Ja (Hj (GY (Ay (Nt (Rl (Z5 T.n_isinstance T.n_dict (Rh 10)))) (Ay (Af (Y6 (Hm hr)) (Ka (Qc (UT rfl T.n_list (Rh 10)))) (La 2)) (Ay (X9 (Hm hr) (Rh 10) (Rh 8)) (Jt (Af (Z6 (Hm hr)) (La 9) (La 7))))))) (Eb (Ad IE)) Tc)
  (Ja (Kl PassesOwn.never rfl (Xi (Ia 2)) (Ib 11 Bg.nd) (Eb (Hj (GY (EZ (F6 (Ka (Np (Rh 10) (La 11)))) (WQ (Nt (Rl (Pb (F__law_whole.mono (by decide)) hr (Ba (Np (Rh 10) (La 11)) Xa))))))) (Eb (Ad IE)) Tc)))
  (Ja (Ll 10 Va (Lj (La 2) (Ka Va)))
  (Eb (Ad (AR (KY (Hm hr)) (Ka (BY (F_barrels_of.mono (by decide)) hr (Ba (Ia 6) (Ba (Ia 9) Xa)))) (La 8))))))))))))))))
end
variable{l:PySem.W.OpenLaw}
theorem all_mk{h:Heap}{fa:Addr}(X:K.In h)(G:h.Ns mainGlobals mg)(hfa:mg "law"=some (.ref fa)){f0 f1 C1 f2 f3 f4 f5 f6 f7 f8 f9 C9 S9 xN9 f10 C10 S10 xN10 f11 f12 f13 f14 f15 f16 f17 f18 f19 f20 f21 f22 f23 ck0 ck1 ck2 ck4 ck5 ck6:Addr}{od0 an0 od1 an1 od2 an2 od3 an3 od4 an4 od5 an5 od6 an6 od7 an7 od8 an8 od9 an9 xd9 od10 an10 xd10 od11 an11 od12 an12 od13 an13 od14 an14 od15 an15 od16 an16 od17 an17 od18 an18 od19 an19 od20 an20 od21 an21 od22 an22 od23 an23:Option Addr}{sl0 sl1 sl2 sl3 sl4 sl5 sl6 sl7 sl8 sl9 sl10 sl11 sl12 sl13 sl14 sl15 sl16 sl17 sl18 sl19 sl20 sl21 sl22 sl23:Array (Option Value)}{oc0 kV0 dc0 pm0 cd0 ct0 oc1 kV1 dc1 pm1 cd1 ct1 oc2 kV2 dc2 pm2 cd2 ct2 oc3 kV3 dc3 pm3 cd3 ct3 oc4 kV4 dc4 pm4 cd4 ct4 oc5 kV5 dc5 pm5 cd5 ct5 oc6 kV6 dc6 pm6 cd6 ct6 oc7 kV7 dc7 pm7 cd7 ct7 oc8 kV8 dc8 pm8 cd8 ct8 oc9 kV9 dc9 pm9 cd9 ct9 oc10 kV10 dc10 pm10 cd10 ct10 oc11 kV11 dc11 pm11 cd11 ct11 oc12 kV12 dc12 pm12 cd12 ct12 oc13 kV13 dc13 pm13 cd13 ct13 oc14 kV14 dc14 pm14 cd14 ct14 oc15 kV15 dc15 pm15 cd15 ct15 oc16 kV16 dc16 pm16 cd16 ct16 oc17 kV17 dc17 pm17 cd17 ct17 oc18 kV18 dc18 pm18 cd18 ct18 oc19 kV19 dc19 pm19 cd19 ct19 oc20 kV20 dc20 pm20 cd20 ct20 oc21 kV21 dc21 pm21 cd21 ct21 oc22 kV22 dc22 pm22 cd22 ct22 oc23 kV23 dc23 pm23 cd23 ct23:Value}{xm9 xq9 xm10 xq10:Str}{xb9 xe9 xs9 xb10 xe10 xs10:List Value}{xh9 xa9 xh10 xa10:Bool}{xn9 xn10:List Str}{xo9 xo10:Option Bool}{x0_9 x1_9 x2_9 x3_9 x5_9 x0_10 x1_10 x2_10 x3_10 x5_10:Option Value}{xc9 xc10:ClassData}(a0:nsIn K mainGlobals "copied"=some (some (.ref f0)))(l0:K.lookup f0=some ⟨oc0,od0,.func (fnOf "copied" "copied" (Nb Gj) (Fb Gj) (Da Gj) .none kV0 dc0 pm0 an0 cd0 ct0),sl0⟩)(c0:codeIn K cd0 "copied"=true)(k0:keepIn K (.ref f0)=true)(aC1:nsIn K mainGlobals "House"=some (some (.ref C1)))(a1:findIn K (.ref C1) "__init__"=some (some (.ref f1)))(i1:isFn K (.ref f1)=true)(l1:K.lookup f1=some ⟨oc1,od1,.func (fnOf "__init__" "House.__init__" (Nb Em) (Fb Em) (Da Em) .none kV1 dc1 pm1 an1 cd1 ct1),sl1⟩)(c1:codeIn K cd1 "House.__init__"=true)(k1:keepIn K (.ref f1)=true)(pg1:plainGet K C1 Str.empty=true)(hd1:hasDictIn K C1=true)(po1:plainOver K C1=true)(sa1:findIn K (.ref C1) "__setattr__"=some (some (.builtin "object.__setattr__")))(mk1:makesIn K C1=true)(kc1:keepIn K (.ref C1)=true)(n1_rules:findIn K (.ref C1) "rules"=some none)(n1_doors:findIn K (.ref C1) "doors"=some none)(n1_wings:findIn K (.ref C1) "wings"=some none)(n1_grants:findIn K (.ref C1) "grants"=some none)(a2:nsIn K mainGlobals "_law_cell"=some (some (.ref f2)))(l2:K.lookup f2=some ⟨oc2,od2,.func (fnOf "_law_cell" "_law_cell" (Nb Ve) (Fb Ve) (Da Ve) .none kV2 dc2 pm2 an2 cd2 ct2),sl2⟩)(c2:codeIn K cd2 "_law_cell"=true)(k2:keepIn K (.ref f2)=true)(a3:nsIn K mainGlobals "_law_due"=some (some (.ref f3)))(l3:K.lookup f3=some ⟨oc3,od3,.func (fnOf "_law_due" "_law_due" (Nb Wf) (Fb Wf) (Da Wf) .none kV3 dc3 pm3 an3 cd3 ct3),sl3⟩)(c3:codeIn K cd3 "_law_due"=true)(k3:keepIn K (.ref f3)=true)(a4:nsIn K mainGlobals "_law_name"=some (some (.ref f4)))(l4:K.lookup f4=some ⟨oc4,od4,.func (fnOf "_law_name" "_law_name" (Nb Xe) (Fb Xe) (Da Xe) .none kV4 dc4 pm4 an4 cd4 ct4),sl4⟩)(c4:codeIn K cd4 "_law_name"=true)(k4:keepIn K (.ref f4)=true)(a5:nsIn K mainGlobals "_law_house"=some (some (.ref f5)))(l5:K.lookup f5=some ⟨oc5,od5,.func (fnOf "_law_house" "_law_house" (Nb Xd) (Fb Xd) (Da Xd) .none kV5 dc5 pm5 an5 cd5 ct5),sl5⟩)(c5:codeIn K cd5 "_law_house"=true)(k5:keepIn K (.ref f5)=true)(a6:nsIn K mainGlobals "_law_cuts"=some (some (.ref f6)))(l6:K.lookup f6=some ⟨oc6,od6,.func (fnOf "_law_cuts" "_law_cuts" (Nb We) (Fb We) (Da We) .none kV6 dc6 pm6 an6 cd6 ct6),sl6⟩)(c6:codeIn K cd6 "_law_cuts"=true)(k6:keepIn K (.ref f6)=true)(a7:nsIn K mainGlobals "_law_plan"=some (some (.ref f7)))(l7:K.lookup f7=some ⟨oc7,od7,.func (fnOf "_law_plan" "_law_plan" (Nb Ye) (Fb Ye) (Da Ye) .none kV7 dc7 pm7 an7 cd7 ct7),sl7⟩)(c7:codeIn K cd7 "_law_plan"=true)(k7:keepIn K (.ref f7)=true)(a8:nsIn K mainGlobals "_law_rules"=some (some (.ref f8)))(l8:K.lookup f8=some ⟨oc8,od8,.func (fnOf "_law_rules" "_law_rules" (Nb Yd) (Fb Yd) (Da Yd) .none kV8 dc8 pm8 an8 cd8 ct8),sl8⟩)(c8:codeIn K cd8 "_law_rules"=true)(k8:keepIn K (.ref f8)=true)(aC9:nsIn K mainGlobals "Steep"=some (some (.ref C9)))(aS9:nsIn K mainGlobals "SmithError"=some (some (.ref S9)))(ex9:K.lookup C9=some (excClassObj xm9 xq9 C9 xN9 xb9 xe9 xh9 xn9 xs9 xa9 xo9 xd9 x0_9 x1_9 x2_9 x3_9 x5_9 "ValueError.__new__"))(eo9:nsOkIn K xN9=true)(ei9:nsIn K xN9 "__init__"=some (some (.ref f9)))(et9:tailIn K CH xe9=true)(ef9:typeIn K (.ref f9)=some (.type "function"))(kc9:keepIn K (.ref C9)=true)(sa9:findIn K (.ref C9) "__setattr__"=some (some (.builtin "object.__setattr__")))(em9:mroIn K C9 (.type "object")=some true)(el9:PySem.W.clsIn K C9=some xc9)(ev9:Zn 2 xc9.mro=true)(eh9:xc9.hasDict=true)(eg9:specialIn K (.ref S9) "__getattribute__"=some (some (.builtin "type.__getattribute__")))(er9:readsIn K S9 (.type "type")=true)(eb9:findCls K (.ref S9) (.type "type") "__init__"=some (.val (.builtin "ValueError.__init__")))(en9_door:findIn K (.ref C9) "door"=some none)(en9_place:findIn K (.ref C9) "place"=some none)(l9:K.lookup f9=some ⟨oc9,od9,.func (fnOf "__init__" "Steep.__init__" (Nb Fm) (Fb Fm) (Da Fm) .none kV9 dc9 pm9 an9 cd9 ct9),sl9⟩)(c9:codeIn K cd9 "Steep.__init__"=true)(k9:keepIn K (.ref f9)=true)(xa9:findIn K (.ref C9) "__getattribute__"=some (some (.builtin "BaseException.__getattribute__")))(xb9:findIn K (.ref C9) "__getattr__"=some none)(xc9:findIn K (.ref C9) "__class__"=some (some (.builtin "object.__class__")))(xd9:mroIn K C9 (.type "BaseException")=some true)(xf9:hasDictIn K C9=true)(aC10:nsIn K mainGlobals "TooHigh"=some (some (.ref C10)))(aS10:nsIn K mainGlobals "SmithError"=some (some (.ref S10)))(ex10:K.lookup C10=some (excClassObj xm10 xq10 C10 xN10 xb10 xe10 xh10 xn10 xs10 xa10 xo10 xd10 x0_10 x1_10 x2_10 x3_10 x5_10 "ValueError.__new__"))(eo10:nsOkIn K xN10=true)(ei10:nsIn K xN10 "__init__"=some (some (.ref f10)))(et10:tailIn K CH xe10=true)(ef10:typeIn K (.ref f10)=some (.type "function"))(kc10:keepIn K (.ref C10)=true)(sa10:findIn K (.ref C10) "__setattr__"=some (some (.builtin "object.__setattr__")))(em10:mroIn K C10 (.type "object")=some true)(el10:PySem.W.clsIn K C10=some xc10)(ev10:Zn 2 xc10.mro=true)(eh10:xc10.hasDict=true)(eg10:specialIn K (.ref S10) "__getattribute__"=some (some (.builtin "type.__getattribute__")))(er10:readsIn K S10 (.type "type")=true)(eb10:findCls K (.ref S10) (.type "type") "__init__"=some (.val (.builtin "ValueError.__init__")))(en10_place:findIn K (.ref C10) "place"=some none)(l10:K.lookup f10=some ⟨oc10,od10,.func (fnOf "__init__" "TooHigh.__init__" (Nb Fh) (Fb Fh) (Da Fh) .none kV10 dc10 pm10 an10 cd10 ct10),sl10⟩)(c10:codeIn K cd10 "TooHigh.__init__"=true)(k10:keepIn K (.ref f10)=true)(xa10:findIn K (.ref C10) "__getattribute__"=some (some (.builtin "BaseException.__getattribute__")))(xb10:findIn K (.ref C10) "__getattr__"=some none)(xc10:findIn K (.ref C10) "__class__"=some (some (.builtin "object.__class__")))(xd10:mroIn K C10 (.type "BaseException")=some true)(xf10:hasDictIn K C10=true)(a11:nsIn K mainGlobals "heights_of"=some (some (.ref f11)))(l11:K.lookup f11=some ⟨oc11,od11,.func (fnOf "heights_of" "heights_of" (Nb Ce) (Fb Ce) (Da Ce) .none kV11 dc11 pm11 an11 cd11 ct11),sl11⟩)(c11:codeIn K cd11 "heights_of"=true)(k11:keepIn K (.ref f11)=true)(a12:nsIn K mainGlobals "places_of"=some (some (.ref f12)))(l12:K.lookup f12=some ⟨oc12,od12,.func (fnOf "places_of" "places_of" (Nb Ze) (Fb Ze) (Da Ze) .none kV12 dc12 pm12 an12 cd12 ct12),sl12⟩)(c12:codeIn K cd12 "places_of"=true)(k12:keepIn K (.ref f12)=true)(a13:nsIn K mainGlobals "least_of"=some (some (.ref f13)))(l13:K.lookup f13=some ⟨oc13,od13,.func (fnOf "least_of" "least_of" (Nb Yf) (Fb Yf) (Da Yf) .none kV13 dc13 pm13 an13 cd13 ct13),sl13⟩)(c13:codeIn K cd13 "least_of"=true)(k13:keepIn K (.ref f13)=true)(a14:nsIn K mainGlobals "barrel_for"=some (some (.ref f14)))(l14:K.lookup f14=some ⟨oc14,od14,.func (fnOf "barrel_for" "barrel_for" (Nb Be) (Fb Be) (Da Be) .none kV14 dc14 pm14 an14 cd14 ct14),sl14⟩)(c14:codeIn K cd14 "barrel_for"=true)(k14:keepIn K (.ref f14)=true)(a15:nsIn K mainGlobals "barrels_in"=some (some (.ref f15)))(l15:K.lookup f15=some ⟨oc15,od15,.func (fnOf "barrels_in" "barrels_in" (Nb Vc) (Fb Vc) (Da Vc) .none kV15 dc15 pm15 an15 cd15 ct15),sl15⟩)(c15:codeIn K cd15 "barrels_in"=true)(k15:keepIn K (.ref f15)=true)(a16:nsIn K mainGlobals "doors_of"=some (some (.ref f16)))(l16:K.lookup f16=some ⟨oc16,od16,.func (fnOf "doors_of" "doors_of" (Nb Xf) (Fb Xf) (Da Xf) .none kV16 dc16 pm16 an16 cd16 ct16),sl16⟩)(c16:codeIn K cd16 "doors_of"=true)(k16:keepIn K (.ref f16)=true)(a17:nsIn K mainGlobals "names_of"=some (some (.ref f17)))(l17:K.lookup f17=some ⟨oc17,od17,.func (fnOf "names_of" "names_of" (Nb Zf) (Fb Zf) (Da Zf) .none kV17 dc17 pm17 an17 cd17 ct17),sl17⟩)(c17:codeIn K cd17 "names_of"=true)(k17:keepIn K (.ref f17)=true)(a18:nsIn K mainGlobals "spans_of"=some (some (.ref f18)))(l18:K.lookup f18=some ⟨oc18,od18,.func (fnOf "spans_of" "spans_of" (Nb Ag) (Fb Ag) (Da Ag) .none kV18 dc18 pm18 an18 cd18 ct18),sl18⟩)(c18:codeIn K cd18 "spans_of"=true)(k18:keepIn K (.ref f18)=true)(a19:nsIn K mainGlobals "held_by"=some (some (.ref f19)))(l19:K.lookup f19=some ⟨oc19,od19,.func (fnOf "held_by" "held_by" (Nb Gh) (Fb Gh) (Da Gh) .none kV19 dc19 pm19 an19 cd19 ct19),sl19⟩)(c19:codeIn K cd19 "held_by"=true)(k19:keepIn K (.ref f19)=true)(a20:nsIn K mainGlobals "barrels_of"=some (some (.ref f20)))(l20:K.lookup f20=some ⟨oc20,od20,.func (fnOf "barrels_of" "barrels_of" (Nb Wc) (Fb Wc) (Da Wc) .none kV20 dc20 pm20 an20 cd20 ct20),sl20⟩)(c20:codeIn K cd20 "barrels_of"=true)(k20:keepIn K (.ref f20)=true)(a21:nsIn K mainGlobals "_law_steep"=some (some (.ref f21)))(l21:K.lookup f21=some ⟨oc21,od21,.func (fnOf "_law_steep" "_law_steep" (Nb Zd) (Fb Zd) (Da Zd) .none kV21 dc21 pm21 an21 cd21 ct21),sl21⟩)(c21:codeIn K cd21 "_law_steep"=true)(k21:keepIn K (.ref f21)=true)(a22:nsIn K mainGlobals "_law_whole"=some (some (.ref f22)))(l22:K.lookup f22=some ⟨oc22,od22,.func (fnOf "_law_whole" "_law_whole" (Nb Ae) (Fb Ae) (Da Ae) .none kV22 dc22 pm22 an22 cd22 ct22),sl22⟩)(c22:codeIn K cd22 "_law_whole"=true)(k22:keepIn K (.ref f22)=true)(a23:nsIn K mainGlobals "law"=some (some (.ref f23)))(l23:K.lookup f23=some ⟨oc23,od23,.func (fnOf "law" "law" (Nb Jo) (Fb Jo) (Da Jo) .none kV23 dc23 pm23 an23 cd23 ct23),sl23⟩)(c23:codeIn K cd23 "law"=true)(k23:keepIn K (.ref f23)=true)(z0:nsIn K mainGlobals "ValueError"=some none)(z1:nsIn K mainGlobals "bool"=some none)(z2:nsIn K mainGlobals "dict"=some none)(z3:nsIn K mainGlobals "enumerate"=some none)(z4:nsIn K mainGlobals "int"=some none)(z5:nsIn K mainGlobals "isinstance"=some none)(z6:nsIn K mainGlobals "len"=some none)(z7:nsIn K mainGlobals "list"=some none)(z8:nsIn K mainGlobals "max"=some none)(z9:nsIn K mainGlobals "min"=some none)(z10:nsIn K mainGlobals "range"=some none)(z11:nsIn K mainGlobals "set"=some none)(z12:nsIn K mainGlobals "sorted"=some none)(z13:nsIn K mainGlobals "tuple"=some none)(cn0:nsIn K mainGlobals "TooHigh"=some (some (.ref ck0)))(cn1:nsIn K mainGlobals "Steep"=some (some (.ref ck1)))(cn2:nsIn K mainGlobals "SmithError"=some (some (.ref ck2)))(cn4:nsIn K mainGlobals "NoCuts"=some (some (.ref ck4)))(cn5:nsIn K mainGlobals "NoSuch"=some (some (.ref ck5)))(cn6:nsIn K mainGlobals "Wrong"=some (some (.ref ck6)))(cm2_1:exmOne K (.ref ck1) (.ref ck2)=some true)(cm0_0:exmOne K (.ref ck0) (.ref ck0)=some true)(ea1:findIn K (.ref ck1) "__getattribute__"=some (some (.builtin "BaseException.__getattribute__")))(eb1:findIn K (.ref ck1) "__getattr__"=some none)(ec1:findIn K (.ref ck1) "__class__"=some (some (.builtin "object.__class__")))(ed1:mroIn K ck1 (.type "object")=some true)(ee1:mroIn K ck1 (.type "BaseException")=some true)(ea0:findIn K (.ref ck0) "__getattribute__"=some (some (.builtin "BaseException.__getattribute__")))(eb0:findIn K (.ref ck0) "__getattr__"=some none)(ec0:findIn K (.ref ck0) "__class__"=some (some (.builtin "object.__class__")))(ed0:mroIn K ck0 (.type "object")=some true)(ee0:mroIn K ck0 (.type "BaseException")=some true)(ek0_0:kitAny K (.ref ck0) [.ref ck1]=some false)(ek0_1:kitAny K (.ref ck1) [.ref ck1]=some true)(ek1_0:kitAny K (.ref ck0) [.type "ValueError"]=some true)(ek1_1:kitAny K (.ref ck1) [.type "ValueError"]=some true)(ek2_0:kitAny K (.ref ck0) [.ref ck0,.ref ck4,.ref ck5,.ref ck6]=some true)(ek2_1:kitAny K (.ref ck1) [.ref ck0,.ref ck4,.ref ck5,.ref ck6]=some false)
  :∃ fd:FuncData,(∀ (s:Shared) (v:Value),BindsTo s fd ⟨[v],[]⟩ [("_law_script",v)])/\∀ base:Heap,K.In base->base.Ns mainGlobals mg->FnOk l.prog w K mg base Po 8 fa fd ["_law_script"] (YG K):=by
 have e:=hfa.symm.trans (mg_of X G a23)
 cases e
 have T:Txt K mg (λi=>([.ref ck0,.ref ck1,.ref ck2,.ty "ValueError",.ref ck4,.ref ck5,.ref ck6]:List V).getD i .non):=⟨mg_none_of X G z0,mg_none_of X G z1,mg_none_of X G z2,mg_none_of X G z3,mg_none_of X G z4,mg_none_of X G z5,mg_none_of X G z6,mg_none_of X G z7,mg_none_of X G z8,mg_none_of X G z9,mg_none_of X G z10,mg_none_of X G z11,mg_none_of X G z12,mg_none_of X G z13,⟨⟨C1,aC1,⟨pg1,hd1,po1,sa1⟩,n1_doors⟩⟩,⟨⟨C1,aC1,⟨pg1,hd1,po1,sa1⟩,n1_grants⟩⟩,⟨⟨C1,aC1,⟨pg1,hd1,po1,sa1⟩,n1_rules⟩⟩,⟨⟨C1,aC1,⟨pg1,hd1,po1,sa1⟩,n1_wings⟩⟩,forall_mem_cons.mpr ⟨⟨C9,aC9,⟨xa9,xb9,xc9,em9,xd9⟩,xf9,en9_door⟩,forall_mem_nil _⟩,forall_mem_cons.mpr ⟨⟨C9,aC9,⟨xa9,xb9,xc9,em9,xd9⟩,xf9,en9_place⟩,forall_mem_cons.mpr ⟨⟨C10,aC10,⟨xa10,xb10,xc10,em10,xd10⟩,xf10,en10_place⟩,forall_mem_nil _⟩⟩,⟨_,_,cn1,cn2,cm2_1⟩,⟨_,_,cn0,cn0,cm0_0⟩,.own (mg_of X G cn4),.own (mg_of X G cn5),.own (mg_of X G cn1),.own (mg_of X G cn0),.blt (mg_none_of X G z0) PyProof.Rows.Boot.«ValueError» (by decide),.own (mg_of X G cn6),(Eh cn1 ⟨ea1,eb1,ec1,ed1,ee1⟩ ek0_1 (Eh cn0 ⟨ea0,eb0,ec0,ed0,ee0⟩ ek0_0 (Vr (Uk Jr)))),(Eh cn1 ⟨ea1,eb1,ec1,ed1,ee1⟩ ek1_1 (Eh cn0 ⟨ea0,eb0,ec0,ed0,ee0⟩ ek1_0 (Vr (BS Jr)))),(Eh cn1 ⟨ea1,eb1,ec1,ed1,ee1⟩ ek2_1 (Eh cn0 ⟨ea0,eb0,ec0,ed0,ee0⟩ ek2_0 (Vr (Uk (Uk (Uk (Uk Jr)))))))⟩
 refine⟨fnOf "law" "law" (Nb Jo) (Fb Jo) (Da Jo) .none kV23 dc23 pm23 an23 cd23 ct23,λs v=>.of_eq rfl,λbase _ _=>?_⟩
 have F_copied:Fn l.prog w K mg base 1 "copied" 1 Ph:=GJ (Dc (st:=Gj) l0 c0 k0) (mg_of X G a0) T
 have F_House:FnI l.prog w K mg base 3 "House" 4 4 Hg:=SO (Dc (st:=Em) l1 c1 k1) ⟨mk1,a1,i1,kc1⟩ (mg_of X G aC1) aC1 ⟨pg1,hd1,po1,sa1⟩ n1_rules n1_doors n1_wings n1_grants T F_copied
 have F__law_cell:Fn l.prog w K mg base 1 "_law_cell" 2 Ma:=Bx (Dc (st:=Ve) l2 c2 k2) (mg_of X G a2) T
 have F__law_due:Fn l.prog w K mg base 1 "_law_due" 5 Yc:=AA (Dc (st:=Wf) l3 c3 k3) (mg_of X G a3) T
 have F__law_name:Fn l.prog w K mg base 2 "_law_name" 2 Kb:=Gx (Dc (st:=Xe) l4 c4 k4) (mg_of X G a4) T F__law_cell
 have F__law_house:Fn l.prog w K mg base 3 "_law_house" 3 Ud:=Wt (Dc (st:=Xd) l5 c5 k5) (mg_of X G a5) T F__law_cell F__law_name
 have F__law_cuts:Fn l.prog w K mg base 2 "_law_cuts" 3 Od:=Fx (Dc (st:=We) l6 c6 k6) (mg_of X G a6) T F__law_cell
 have F__law_plan:Fn l.prog w K mg base 3 "_law_plan" 3 Te:=Hx (Dc (st:=Ye) l7 c7 k7) (mg_of X G a7) T F__law_cell F__law_cuts
 have F__law_rules:Fn l.prog w K mg base 2 "_law_rules" 1 Gd:=Xt (Dc (st:=Yd) l8 c8 k8) (mg_of X G a8) T F__law_cell
 have F_Steep:FnG l.prog w K mg base 2 "Steep" [("door",false),("place",true)]:=UO (Dc (st:=Fm) l9 c9 k9) ⟨⟨_,_,_,_,_,_,_,_,_,_,_,_,_,_,_,_,ex9,eo9,ei9,et9⟩,ef9,kc9,sa9,em9,⟨_,2,el9,ev9,eh9⟩,eg9,er9,eb9⟩ (mg_of X G aC9) aC9 (mg_of X G aS9) en9_door en9_place
 have F_TooHigh:FnG l.prog w K mg base 2 "TooHigh" [("place",true)]:=CD (Dc (st:=Fh) l10 c10 k10) ⟨⟨_,_,_,_,_,_,_,_,_,_,_,_,_,_,_,_,ex10,eo10,ei10,et10⟩,ef10,kc10,sa10,em10,⟨_,2,el10,ev10,eh10⟩,eg10,er10,eb10⟩ (mg_of X G aC10) aC10 (mg_of X G aS10) en10_place
 have F_heights_of:Fn l.prog w K mg base 1 "heights_of" 1 Hf:=Du (Dc (st:=Ce) l11 c11 k11) (mg_of X G a11) T
 have F_places_of:Fn l.prog w K mg base 1 "places_of" 1 Ig:=Jx (Dc (st:=Ze) l12 c12 k12) (mg_of X G a12) T
 have F_least_of:FnX l.prog w K mg base 3 "least_of" 2 Pc:=CA (Dc (st:=Yf) l13 c13 k13) (mg_of X G a13) T F_TooHigh F_heights_of F_places_of
 have F_barrel_for:FnX l.prog w K mg base 4 "barrel_for" 3 Xb:=Au (Dc (st:=Be) l14 c14 k14) (mg_of X G a14) T F_Steep F_TooHigh F_least_of
 have F_barrels_in:FnX l.prog w K mg base 5 "barrels_in" 3 Zb:=Bu (Dc (st:=Vc) l15 c15 k15) (mg_of X G a15) T F_barrel_for
 have FQ_barrels_in:FnQX l.prog w K mg base 5 "barrels_in" 3 Ac:=Eu (Dc (st:=Vc) l15 c15 k15) (mg_of X G a15) T F_barrel_for
 have F_doors_of:Fn l.prog w K mg base 1 "doors_of" 2 Qf:=BA (Dc (st:=Xf) l16 c16 k16) (mg_of X G a16) T
 have F_names_of:Fn l.prog w K mg base 1 "names_of" 1 Rf:=EA (Dc (st:=Zf) l17 c17 k17) (mg_of X G a17) T
 have F_spans_of:Fn l.prog w K mg base 2 "spans_of" 1 Sf:=FA (Dc (st:=Ag) l18 c18 k18) (mg_of X G a18) T F_doors_of F_names_of
 have F_held_by:Fn l.prog w K mg base 3 "held_by" 1 Ue:=DD (Dc (st:=Gh) l19 c19 k19) (mg_of X G a19) T F_spans_of
 have F_barrels_of:FnX l.prog w K mg base 6 "barrels_of" 2 Sb:=Cu (Dc (st:=Wc) l20 c20 k20) (mg_of X G a20) T F_barrels_in F_held_by
 have FQ_barrels_of:FnQX l.prog w K mg base 6 "barrels_of" 2 Mc:=Fu (Dc (st:=Wc) l20 c20 k20) (mg_of X G a20) T F_barrels_in F_held_by FQ_barrels_in
 have F__law_steep:Fn l.prog w K mg base 7 "_law_steep" 2 Uc:=Yt (Dc (st:=Zd) l21 c21 k21) (mg_of X G a21) T F_Steep F_TooHigh F_barrels_of
 have F__law_whole:Fn l.prog w K mg base 1 "_law_whole" 1 Vd:=Zt (Dc (st:=Ae) l22 c22 k22) (mg_of X G a22) T
 exact Z2 (K3 (Dc (st:=Jo) l23 c23 k23) T F_House F__law_cell F__law_due F__law_house F__law_plan F__law_rules F__law_steep F__law_whole F_barrels_of FQ_barrels_of) law_true
theorem walk{q:Program}{loose:List Str}{XP:(Str->Option Value)->Heap->Prop}{YP:World->Heap->Prop}{d:DefRec}{K:Params->Frag}(hn:l.most=some 63)(hdf:d.params.defaults= [])(hY:∀ (w:World) (h:Heap),YP w h->(K w.params).In h)(F:∀ (w:World) (mg:Str->Option Value) (fa:Addr) (h:Heap),(K w.params).In h->h.Ns mainGlobals mg->mg d.name=some (.ref fa)->
   ∃ fd:FuncData,(∀ (s:Shared) (u:Value),BindsTo s fd ⟨[u],[]⟩ [("_law_script",u)])/\∀ base:Heap,(K w.params).In base->base.Ns mainGlobals mg->FnOk l.prog w (K w.params) mg base Po 8 fa fd ["_law_script"] (YG (K w.params))):
  PySem.W.WalkO q loose XP YP l.row.toRowW d [] (λf vs=>PySem.call f vs):=
 L2.walk_of (n:=63) (k:=8) (x:="_law_script") (CX:=λ_=>Po) (sp:=λw=>YG (K w.params)) hn (by decide) hdf ⟨rfl,by decide,by decide,rfl⟩ hY F (λ_ _ a ns hl _ hS=>⟨a,ns,rfl,hS,hl,λ_=>rfl⟩) λ_ _ _ _ _ z=>z
end G
open PySem PySem.W PyProof.Rows
theorem PySem.W.Fast.tw2176161174007128959 : True := trivial
theorem PySem.W.Fast.tw10499511032602784927 : True := trivial
theorem PySem.W.Fast.tw1000193497879202970 : True := trivial
theorem PySem.W.Fast.tw14734841334602514201 : True := trivial
theorem PySem.W.Fast.tw14464394581559392986 : True := trivial
theorem PySem.W.Fast.tw470336282483343526 : True := trivial
theorem PySem.W.Fast.tw15272096033838448985 : True := trivial
theorem PySem.W.Fast.tw3773029553644538133 : True := trivial
theorem PySem.W.Fast.tw6963241079234296991 : True := trivial
theorem PySem.W.Fast.tw3253633957575338148 : True := trivial
theorem PySem.W.Fast.tw6589411675257697004 : True := trivial
theorem PySem.W.Fast.tw17012607704705147153 : True := trivial
theorem PySem.W.Fast.tw15062542033223732837 : True := trivial
theorem PySem.W.Fast.tw17167864882230480631 : True := trivial
theorem PySem.W.Fast.tw13589235475141113713 : True := trivial
theorem PySem.W.Fast.tw11017826569986169974 : True := trivial
theorem PySem.W.Fast.tw10596590463774049713 : True := trivial
theorem PySem.W.Fast.tw6922890455714920900 : True := trivial
theorem PySem.W.Fast.tw12531835987663058788 : True := trivial
theorem PySem.Challenge.cw_wardsmith_k41_barrels_of_a_plan_holds : PySem.Challenge.rw_wardsmith_k41_barrels_of_a_plan.Holds := by
 w_on;o_law;k_head;(case hw=>w_witness2)
 k_fill
 refine G.walk (l:=PySem.Challenge.rw_wardsmith_k41_barrels_of_a_plan) rfl rfl (λw h Y=>PySem.W.kIn_of Y) ?F
 case F=>
  intro w mg fa h KX GG hmg
  refine' G.all_mk KX GG hmg ?a0 ?l0 ?c0 ?k0 ?aC1 ?a1 ?i1 ?l1 ?c1 ?k1 ?pg1 ?hd1 ?po1 ?sa1 ?mk1 ?kc1 ?n1_rules ?n1_doors ?n1_wings ?n1_grants ?a2 ?l2 ?c2 ?k2 ?a3 ?l3 ?c3 ?k3 ?a4 ?l4 ?c4 ?k4 ?a5 ?l5 ?c5 ?k5 ?a6 ?l6 ?c6 ?k6 ?a7 ?l7 ?c7 ?k7 ?a8 ?l8 ?c8 ?k8 ?aC9 ?aS9 ?ex9 ?eo9 ?ei9 ?et9 ?ef9 ?kc9 ?sa9 ?em9 ?el9 ?ev9 ?eh9 ?eg9 ?er9 ?eb9 ?l9 ?c9 ?k9 ?en9_door ?en9_place ?xa9 ?xb9 ?xc9 ?xd9 ?xf9 ?aC10 ?aS10 ?ex10 ?eo10 ?ei10 ?et10 ?ef10 ?kc10 ?sa10 ?em10 ?el10 ?ev10 ?eh10 ?eg10 ?er10 ?eb10 ?l10 ?c10 ?k10 ?en10_place ?xa10 ?xb10 ?xc10 ?xd10 ?xf10 ?a11 ?l11 ?c11 ?k11 ?a12 ?l12 ?c12 ?k12 ?a13 ?l13 ?c13 ?k13 ?a14 ?l14 ?c14 ?k14 ?a15 ?l15 ?c15 ?k15 ?a16 ?l16 ?c16 ?k16 ?a17 ?l17 ?c17 ?k17 ?a18 ?l18 ?c18 ?k18 ?a19 ?l19 ?c19 ?k19 ?a20 ?l20 ?c20 ?k20 ?a21 ?l21 ?c21 ?k21 ?a22 ?l22 ?c22 ?k22 ?a23 ?l23 ?c23 ?k23 ?z0 ?z1 ?z2 ?z3 ?z4 ?z5 ?z6 ?z7 ?z8 ?z9 ?z10 ?z11 ?z12 ?z13 ?cn0 ?cn1 ?cn2 ?cn4 ?cn5 ?cn6 ?cm2_1 ?cm0_0 ?ea1 ?eb1 ?ec1 ?ed1 ?ee1 ?ea0 ?eb0 ?ec0 ?ed0 ?ee0 ?ek0_0 ?ek0_1 ?ek1_0 ?ek1_1 ?ek2_0 ?ek2_1
  case a0|l0|c0|k0|aC1|a1|i1|l1|c1|k1|pg1|hd1|po1|sa1|mk1|kc1|n1_rules|n1_doors|n1_wings|n1_grants|a2|l2|c2|k2|a3|l3|c3|k3|a4|l4|c4|k4|a5|l5|c5|k5|a6|l6|c6|k6|a7|l7|c7|k7|a8|l8|c8|k8|aC9|aS9|ex9=>k_is
  case eo9=>kernel_rfl
  case ei9=>k_is
  case et9=>kernel_rfl
  case ef9|kc9|sa9|em9|el9=>k_is
  case ev9|eh9=>kernel_rfl
  case eg9|er9|eb9|l9|c9|k9|en9_door|en9_place|xa9|xb9|xc9|xd9|xf9|aC10|aS10|ex10=>k_is
  case eo10=>kernel_rfl
  case ei10=>k_is
  case et10=>kernel_rfl
  case ef10|kc10|sa10|em10|el10=>k_is
  case ev10|eh10=>kernel_rfl
  case eg10|er10|eb10|l10|c10|k10|en10_place|xa10|xb10|xc10|xd10|xf10|a11|l11|c11|k11|a12|l12|c12|k12|a13|l13|c13|k13|a14|l14|c14|k14|a15|l15|c15|k15|a16|l16|c16|k16|a17|l17|c17|k17|a18|l18|c18|k18|a19|l19|c19|k19|a20|l20|c20|k20|a21|l21|c21|k21|a22|l22|c22|k22|a23|l23|c23|k23|z0|z1|z2|z3|z4|z5|z6|z7|z8|z9|z10|z11|z12|z13|cn0|cn1|cn2|cn4|cn5|cn6=>k_is
  case cm2_1|cm0_0=>kts_exm
  case ea1|eb1|ec1|ed1|ee1|ea0|eb0|ec0|ed0|ee0=>k_is
  case ek0_0|ek0_1|ek1_0|ek1_1|ek2_0|ek2_1=>kit_is
