import PyProof.Rows.All
import Wide.All
import OpenK.AllK
import Wide.FinOn
import Lean
import PyProof.EqAt
import PyProof.EqKinds
import PyProof.TupleCall
import PyProof.ZipIter
import PyProof.Draws
import PyProof.TupleIter
import PyProof.ListMulRoad
import PyProof.FactsAll.tuple
import PyProof.ReprRoads
import PyProof.Rows.RegFStrParts
import PyProof.Rows.Range3
import KE.KIntText
import PyProof.AutoListH
import PyProof.Rows.MinMaxN
import PyProof.SetScanFacts
import PyProof.SetKind
import PyProof.DictKinds
import PyProof.WalkLemmas
import PyProof.CollectWalk
import PyProof.FactsAll.set
import PyProof.Walks
import PyProof.WalksS
import PyProof.SetRoads
import PyProof.Rows.SetFrom
import PyProof.Rows.SortWalk
import PyProof.EnumMake
import PyProof.EnumFor
import PyProof.DictItemsLoops
import PyProof.DictWalks
import KE.KDictList
import PyProof.Rows.SumAny
import KE.KRevIter
import KE.KDictOf
import PyProof.AttrMissHeap
import PyProof.NsDelKeeps
import PyProof.RulesAs
import KE.KTryMore
import PyProof.ExcArgsOwn
import KE.KUnpack
import PyProof.ExcClass2
import OpenK.KMake
import OpenK.KGet
import PyProof.InstStore
import PyProof.InstStoreFacts
import OpenK.KCls
import OpenK.KMore
import PyProof.FString4
import PyProof.StrLawsRepr
import KE.KEqDict
import KE.KItemsList
import PyProof.FactsAll.NoneType_1
import PyProof.Rows.SortStr
import KE.KStrOpen
import PySem.Challenge.RW_wardsmith_k34_rows_that_are_none
noncomputable section
open PySem.W (Frag nsIn mg_of keepIn fnOf codeIn findIn hideAll mg_none_of kitAny hasDictIn emptyDict mroIn instObj kia_one plainGet specialIn tail_of_in exmOne hideAll_get of_hideAll callWith_K cellsFrom_some kitOne excIn methodObj lookIn plainOver takerIn makesIn typeIn isFn)
open List (map_cons length_map mem_cons replicate mem_cons_of_mem length_nil set_cons_zero set_cons_succ mem_cons_self size_toArray length_append map_nil cons_append nil_append mem_map getElem?_set_ne not_mem_nil append_assoc lookup_cons append_nil mem_append map_map range length_take getElem?_eq_getElem getElem?_set_self mem_append_right take_of_length_le Nodup getElem?_map all_eq_true map_append length_drop forall_mem_cons mem_singleton all_cons mem_filterMap mem_of_getElem? length_replicate replicate_succ foldl_cons length_singleton getElem?_set_self' all_map drop_of_length_le forall_mem_nil mem_append_left flatten_cons getElem_mem find?_cons map_take mem_of_mem_take take)
open PySem.Heap (lt_size get?_push_of_some get?_push_size SameBut FlyingW size_push get?_update_self)
open Nat (le_refl le_trans ne_of_lt reduceAdd lt_of_lt_of_le reduceLeDiff lt_irrefl reduceSub zero_le ne_of_gt le_succ mod_lt min_eq_left)
open Classical (propDecidable)
open Bool (false_eq_true and_eq_true)
open Array (toList_append length_toList)
open Option (isSome_iff_exists map_eq_some_iff map_some)
open Int (emod_nonneg emod_lt_of_pos)
set_option Elab.async false
set_option linter.all false
set_option maxRecDepth 100000
namespace L2
open PySem PySem.Spec PyProof.Rows
abbrev Jd:=Sum Int Str
def Pv:Jd->Value->Bool
 | .inl k,v=>Value.isInt k v
 | .inr x,v=>Value.isStrOf x v
def GZ(w:World):Jd->Int
 | .inl k=>hashInt k
 | .inr x=>hashStr w x
theorem Ed:∀ {k:Jd} {v:Value},Pv k v=true->(∃ i t,k=Sum.inl i/\v=Value.int i t)\/(∃ x t,k=Sum.inr x/\v=Value.str x t)
 | .inl i,v,h=>by
  obtain⟨t,e⟩:=Value.isInt_shape (k:=i) (v:=v) h
  exact .inl ⟨i,t,rfl,e⟩
 | .inr x,v,h=>by
  obtain⟨t,e⟩:=Value.isStrOf_shape (x:=x) (v:=v) h
  exact .inr ⟨x,t,rfl,e⟩
theorem YH(i:Int)(t:Tok):Pv (.inl i) (.int i t)=true:=by simp[Pv,Value.isInt]
theorem ZH(x:Str)(t:Tok):Pv (.inr x) (.str x t)=true:=by simp[Pv,Value.isStrOf]
theorem HZ(a b:Int):decide ((Sum.inl a:Jd)=Sum.inl b)=(a==b):=by
 by_cases e:a=b
 .subst e;simp
 .have h:¬ (Sum.inl a:Jd)=Sum.inl b:=λq=>e (Sum.inl.inj q)
  rw[decide_eq_false h]
  exact(beq_eq_false_iff_ne.mpr e).symm
theorem KZ(a b:Str):decide ((Sum.inr a:Jd)=Sum.inr b)=decide (a=b):=by
 by_cases e:a=b
 .subst e;simp
 .have h:¬ (Sum.inr a:Jd)=Sum.inr b:=λq=>e (Sum.inr.inj q)
  rw[decide_eq_false h,decide_eq_false e]
theorem IZ(a:Int)(b:Str):decide ((Sum.inl a:Jd)=Sum.inr b)=false:=decide_eq_false (λq=>nomatch q)
theorem JZ(a:Str)(b:Int):decide ((Sum.inr a:Jd)=Sum.inl b)=false:=decide_eq_false (λq=>nomatch q)
def Ef(prog:Program)(w:World):PySem.KeyKind prog w Jd where
 is:=Pv
 hash:=GZ w
 inj:=λv a b ha hb=>by
  rcases Ed ha with⟨i,t,rfl,rfl⟩|⟨x,t,rfl,rfl⟩
  .rcases Ed hb with⟨j,u,rfl,e⟩|⟨y,u,rfl,e⟩
   .injection e with e1 _;rw[e1]
   .exact nomatch e
  .rcases Ed hb with⟨j,u,rfl,e⟩|⟨y,u,rfl,e⟩
   .exact nomatch e
   .injection e with e1 _;rw[e1]
 byValue:=λk v h=>by
  rcases Ed h with⟨i,t,rfl,rfl⟩|⟨x,t,rfl,rfl⟩<;>rfl
 pyHash:=λhv h=>by
  rcases Ed hv with⟨i,t,rfl,rfl⟩|⟨x,t,rfl,rfl⟩
  .exact wpAny_pyHash_int h
  .exact wpAny_pyHash_str h
 eqBool:=λhu hv h=>by
  rcases Ed hu with⟨i,t,rfl,rfl⟩|⟨x,t,rfl,rfl⟩
  .rcases Ed hv with⟨j,u,rfl,rfl⟩|⟨y,u,rfl,rfl⟩
   .rw[HZ]at h;exact wpAny_eqBool_int h
   .rw[IZ]at h;exact SeqAt.EqAt.int_str i t y u _ _ _ _ h
  .rcases Ed hv with⟨j,u,rfl,rfl⟩|⟨y,u,rfl,rfl⟩
   .rw[JZ]at h;exact SeqAt.EqAt.str_int x t j u _ _ _ _ h
   .rw[KZ]at h;exact wpAny_eqBool_str h
 «strs» :=λk x t v h=>by
  rcases Ed h with⟨i,u,rfl,e⟩|⟨y,u,rfl,e⟩
  .exact nomatch e
  .injection e with e1 _
   subst e1
   cases v<;>rfl
theorem Xz(prog:Program)(w:World)(i:Int)(t:Tok):(Ef prog w).is (.inl i) (.int i t)=true:=YH i t
theorem Uq(prog:Program)(w:World)(x:Str)(t:Tok):(Ef prog w).is (.inr x) (.str x t)=true:=ZH x t
inductive V where
 |non|bl (b:Bool)|int (i:Int)|str (x:Str)|byt (b:Array UInt8)|flt (b:UInt64)|ref (a:Addr)|ty (n:String)
 deriving DecidableEq
def RelV:V->Value->Prop
 | .non,u=>u=Value.none
 | .bl b,u=>u=Value.bool b
 | .int i,u=>∃ t,u=Value.int i t
 | .str x,u=>∃ t,u=Value.str x t
 | .byt b,u=>∃ t,u=Value.bytes b t
 | .flt b,u=>∃ t,u=Value.float b t
 | .ref a,u=>u=Value.ref a
 | .ty n,u=>u=Value.type n
abbrev Vals:List V->List Value->Prop:=Paired RelV
variable{xs:List V}{us:List Value}
theorem Vals.length(r:Vals xs us):xs.length=us.length:=Paired.length r
theorem Vals.get:∀ {xs:List V} {us:List Value} {i:Nat} {x:V},Vals xs us->xs[i]? =some x->∃ u,us[i]? =some u/\RelV x u
 |_,_,_,_,.nil,e=>by simp at e
 |_,_,0,_,.cons r _,e=>by simp at e;subst e;exact⟨_,rfl,r⟩
 |_,_,i+1,x,.cons _ t,e=>by
  obtain⟨u,h1,h2⟩:=Vals.get (i:=i) (x:=x) t (by simpa using e)
  exact⟨u,by simpa using h1,h2⟩
variable{u:Value}
theorem Vals.set{x:V}(r:RelV x u):∀ {xs:List V} {us:List Value} (i:Nat),Vals xs us->Vals (xs.set i x) (us.set i u)
 |_,_,_,.nil=>.nil
 |_,_,0,.cons _ t=>.cons r t
 |_,_,i+1,.cons q t=>.cons q (Vals.set r i t)
theorem Vals.append:∀ {xs ys:List V} {us ws:List Value},Vals xs us->Vals ys ws->Vals (xs++ys) (us++ws)
 |_,_,_,_,.nil,s=>s
 |_,_,_,_,.cons r t,s=>.cons r (Vals.append t s)
theorem Vals.take:∀ {xs:List V} {us:List Value} (n:Nat),Vals xs us->Vals (xs.take n) (us.take n)
 |_,_,0,_=>.nil
 |_,_,_+1,.nil=>.nil
 |_,_,n+1,.cons r t=>.cons r (Vals.take n t)
theorem Vals.drop:∀ {xs:List V} {us:List Value} (n:Nat),Vals xs us->Vals (xs.drop n) (us.drop n)
 |_,_,0,r=>r
 |_,_,_+1,.nil=>.nil
 |_,_,n+1,.cons _ t=>Vals.drop n t
def RelO:Option V->Option Value->Prop
 |some v,some u=>RelV v u
 |none,none=>True
 |_,_=>False
def KV{κ:Type}:List (κ×V)->List (κ×Value)->Prop:=Paired λ(p:κ×V) (q:κ×Value)=>p.1=q.1/\RelV p.2 q.2
def kV:Jd->V
 | .inl i=>.int i
 | .inr x=>.str x
inductive HO where
  |lst (xs:List V)
  |tup (xs:List V)
  |dK (kvs:List (Jd×V))|dT (kvs:List (List Jd×V))
  |set (S:Int->Bool) (n:Nat)
  |ins (C dx:Addr) (fs:List (Str×V))
  |own (x:Addr)
  |xd (fs:List (Str×V))
  |met (f x:Addr)
  |rng (lo hi:Int)
  |frz (o:Obj) (u:HO)
  |tbl (ps:Array Value)
  |ext (φ:Heap->Prop)
abbrev Hp:=Addr->Option HO
def Ib(H:Hp)(a:Addr)(o:HO):Hp:=λb=>if b=a then some o else H b
variable{H:Hp}{a:Addr}{o:HO}
theorem Ra:Ib H a o a=some o:=by unfold Ib;rw[if_pos rfl]
variable{b:Addr}
theorem Ea(h:b≠a):Ib H a o b=H b:=by unfold Ib;rw[if_neg h]
theorem GV{u:HO}:Ib (Ib H a o) a u=Ib H a u:=by
 funext b;unfold Ib;split<;>rfl
theorem Pa(h:H a=some o)(h':H b=none):a≠b:=by
 intro e;subst e;rw[h]at h';cases h'
section
variable (P:Program)(w:World)
def ObjOk(H:Hp)(h:Heap)(a:Addr):HO->Prop
 | .lst xs=>xs.length<=sizeLine/\∃ (its:List Value) (n:Nat),Vals xs its/\h.get? a=some {cls:=.type "list",data:=.seq its.toArray n}
 | .tup xs=>xs.length<=sizeLine/\∃ its:List Value,Vals xs its/\IsTup h a its.toArray
 | .dK kvs=>kvs.length<=sizeLine/\(a==sysModules)=false/\∃ vs,KV kvs vs/\h.DictOf (Ef P w) a vs
 | .dT kvs=>kvs.length<=sizeLine/\(a==sysModules)=false/\∃ xs:List (List Jd×Addr×Value),
   Paired (λ(p:List Jd×V) (q:List Jd×Addr×Value)=>p.1=q.1/\H q.2.1=some (.tup (p.1.map kV))/\RelV p.2 q.2.2) kvs xs/\
   ∃ o es ep,h.get? a=some o/\o.ExactDict/\o.data=.dict es ep/\es.toList=xs.map (entryOfKey (tupleKind (Ef P w)))/\(xs.map (·.1)).Nodup
 | .set S n=>h.SetOf (intKind P w) a S n
 | .ins C dx fs=>H dx=some (.own a)/\fs.length<=1000/\dx≠a/\h.get? a=some (instObj C dx)/\
   ∃ mA,h.Ns1 dx mA/\(∀ f,RelO (fs.lookup f) (mA f))/\PySem.Within mA (fs.map (·.1))
 | .own _=>∃ o,h.get? a=some o
 | .xd fs=>∃ mA,h.Ns1 a mA/\∀ f,RelO (fs.lookup f) (mA f)
 | .rng lo hi=>∃ t u v,h.get? a=some {cls:=.type "range",data:=.fields #[.int lo t,.int hi u,.int 1 v]}
 | .frz o u=>h.get? a=some o/\ObjOk H h a u
 | .tbl ps=>h.get? a=some {cls:=.none,data:=.fields ps}
 | .met f x=>h.get? a=some (methodObj (.ref f) (.ref x))
 | .ext φ=>φ h/\(∃ o,h.get? a=some o)/\∀ h1 h2:Heap,φ h1->(∀ o,h1.get? a=some o->h2.get? a=some o)->φ h2
def HOk(H:Hp)(h:Heap):Prop:=∀ a o,H a=some o->ObjOk P w H h a o
end
variable{P:Program}{w:World}{H':Hp}{h':Heap}{α:Type}
section
variable {h:Heap}
theorem ObjOk.lt(x:ObjOk P w H h a o):a<h.objs.size:=by
 cases o with
 |lst xs=>obtain⟨_,_,_,_,e⟩:=x;exact lt_size e
 |tup xs=>obtain⟨_,_,_,p⟩:=x;exact p.lt
 |dK kvs=>obtain⟨_,_,_,_,o,_,_,e,_⟩:=x;exact lt_size e
 |dT kvs=>obtain⟨_,_,_,_,o,_,_,e,_⟩:=x;exact lt_size e
 |set S n=>obtain⟨o,_,_,_,e,_⟩:=x;exact lt_size e
 |ins C dx fs=>obtain⟨_,_,_,e,_⟩:=x;exact lt_size e
 |own y=>obtain⟨_,e⟩:=x;exact lt_size e
 |xd fs=>obtain⟨_,⟨_,_,_,e,_⟩,_⟩:=x;exact lt_size e
 |rng lo hi=>obtain⟨_,_,_,e⟩:=x;exact lt_size e
 |frz ob u=>obtain⟨e,_⟩:=x;exact lt_size e
 |tbl ps=>exact lt_size (show h.get? a=some _ from x)
 |met f y=>exact lt_size (show h.get? a=some _ from x)
 |ext φ=>obtain⟨_,⟨_,e⟩,_⟩:=x;exact lt_size e
theorem Paired.mapP{β:Type}{F G:α->β->Prop}:∀ {l₁:List α} {l₂:List β},Paired F l₁ l₂->(∀ a b,F a b->G a b)->Paired G l₁ l₂
 |_,_,.nil,_=>.nil
 |_,_,.cons r t,f=>.cons (f _ _ r) (Paired.mapP t f)
theorem ObjOk.stay(x:ObjOk P w H h a o)(k:∀ b u,(b=a\/H b=some (.own a))->h.get? b=some u->h'.get? b=some u)(ho:∀ b,H b=some (.own a)->H' b=some (.own a))(ht:∀ b xs,H b=some (.tup xs)->H' b=some (.tup xs)):ObjOk P w H' h' a o:=by
 induction o with
 |lst xs=>obtain⟨z,its,n,r,e⟩:=x;exact⟨z,its,n,r,k _ _ (.inl rfl) e⟩
 |tup xs=>obtain⟨z,its,r,ob,e,c⟩:=x;exact⟨z,its,r,ob,k _ _ (.inl rfl) e,c⟩
 |dK kvs=>obtain⟨z,y,vs,r,ob,es,ep,e,c⟩:=x;exact⟨z,y,vs,r,ob,es,ep,k _ _ (.inl rfl) e,c⟩
 |dT kvs=>
  obtain⟨z,y,xs,r,ob,es,ep,e,c⟩:=x
  exact⟨z,y,xs,Paired.mapP r λp q z=>⟨z.1,ht _ _ z.2.1,z.2.2⟩,ob,es,ep,k _ _ (.inl rfl) e,c⟩
 |set S n=>obtain⟨ob,es,ep,t,e,c⟩:=x;exact⟨ob,es,ep,t,k _ _ (.inl rfl) e,c⟩
 |ins C dx fs=>
  obtain⟨d,z,ne,e,mA,⟨od,es,ep,e2,c⟩,r⟩:=x
  exact⟨ho _ d,z,ne,k _ _ (.inl rfl) e,mA,⟨od,es,ep,k _ _ (.inr d) e2,c⟩,r⟩
 |own y=>obtain⟨ob,e⟩:=x;exact⟨ob,k _ _ (.inl rfl) e⟩
 |xd fs=>obtain⟨mA,⟨od,es,ep,e,c⟩,r⟩:=x;exact⟨mA,⟨od,es,ep,k _ _ (.inl rfl) e,c⟩,r⟩
 |rng lo hi=>obtain⟨t,u,v,e⟩:=x;exact⟨t,u,v,k _ _ (.inl rfl) e⟩
 |frz ob u ih=>obtain⟨e,q⟩:=x;exact⟨k _ _ (.inl rfl) e,ih q⟩
 |tbl ps=>
  have e:h.get? a=some {cls:=.none,data:=.fields ps}:=x
  show h'.get? a=some {cls:=.none,data:=.fields ps}
  exact k a _ (.inl rfl) e
 |met f y=>
  have e:h.get? a=some (methodObj (.ref f) (.ref y)):=x
  show h'.get? a=some (methodObj (.ref f) (.ref y))
  exact k a _ (.inl rfl) e
 |ext φ=>obtain⟨p,⟨o,e⟩,st⟩:=x;exact⟨st _ _ p λo q=>k _ _ (.inl rfl) q,⟨o,k _ _ (.inl rfl) e⟩,st⟩
theorem HOk.lt(x:HOk P w H h)(e:H a=some o):a<h.objs.size:=(x a o e).lt
theorem HOk.fresh(x:HOk P w H h)(e:h.objs.size<=a):H a=none:=by
 cases q:H a with
 |none=>rfl
 |some u=>exact absurd (lt_of_lt_of_le (x.lt q) e) (lt_irrefl _)
theorem HOk.kept(x:HOk P w H h)(k:∀ b u,h.get? b=some u->h'.get? b=some u):HOk P w H h':=λa o e=>
 (x a o e).stay (λb u _ q=>k b u q) (λ_ q=>q) λ_ _ q=>q
theorem HOk.laid(x:HOk P w H h)(k:∀ b u,h.get? b=some u->h'.get? b=some u)(hp:h.objs.size<=a)(new:ObjOk P w (Ib H a o) h' a o):HOk P w (Ib H a o) h':=λb u e=>by
 have hn:=x.fresh hp
 by_cases hb:b=a
 .subst hb;rw[Ra]at e;cases e;exact new
 .rw[Ea hb]at e
  exact(x b u e).stay (λc v _ q=>k c v q) (λc q=>by rw[Ea (Pa q hn)];exact q) λc xs q=>by rw[Ea (Pa q hn)];exact q
end
def Rd(H:Hp)(a:Addr)(u:HO):Prop:=H a=some u\/∃ o,H a=some (.frz o u)
theorem Rd.ok{h:Heap}{u:HO}(r:Rd H a u)(x:HOk P w H h):ObjOk P w H h a u:=by
 rcases r with r|⟨o,r⟩
 .exact x a u r
 .obtain⟨_,q⟩:=x a _ r
  exact q
def X6:Option HO->Prop
 |some (.lst _)=>True
 |some (.dK _)=>True
 |some (.dT _)=>True
 |some (.set _ _)=>True
 |some (.ins _ _ _)=>True
 |some (.ext _)=>True
 |_=>False
variable{x e:Addr}
section
variable {h:Heap}{o':HO}
theorem HOk.write(ok:HOk P w H h)(mu:X6 (H x))(he:e=x\/H e=some (.own x))(k:∀ b u,b≠e->h.get? b=some u->h'.get? b=some u)(heo:∃ u,h'.get? e=some u)(new:ObjOk P w (Ib H x o') h' x o'):HOk P w (Ib H x o') h':=λb u q=>by
 have nown:∀ c y,H c=some (.own y)->c≠x:=λc y r z=>by subst z;rw[r]at mu;exact mu
 have ntup:∀ c xs,H c=some (.tup xs)->c≠x:=λc xs r z=>by subst z;rw[r]at mu;exact mu
 by_cases hb:b=x
 .subst hb;rw[Ra]at q;cases q;exact new
 .rw[Ea hb]at q
  by_cases hbe:b=e
  .have q':H b=some (.own x):=by
    rcases he with z|z
    .exact absurd (hbe.trans z) hb
    .rw[hbe];exact z
   rw[q]at q';cases q'
   obtain⟨v,hv⟩:=heo
   exact⟨v,by rw[hbe];exact hv⟩
  .refine(ok b u q).stay (λc v hc r=>k c v ?_ r) (λc r=>by rw[Ea (nown c b r)];exact r) λc xs r=>by rw[Ea (ntup c xs r)];exact r
   rcases hc with rfl|hc
   .exact hbe
   .rintro rfl
    rcases he with z|z
    .exact nown c b hc z
    .rw[hc]at z;cases z;exact hb rfl
end
structure Un(fs ex:List Addr)(H H':Hp)(h h':Heap):Prop where
 keep:∀ b o,h.get? b=some o->H b=none->b∉fs->b∉ex->h'.get? b=some o
 slot:∀ b o,h.get? b=some o->H b=none->b∈fs->b∉ex->∃ sl,h'.get? b=some {o with slots:=sl}
 free:∀ b o,h.get? b=some o->H b=none->b∉ex->H' b=none
 there:∀ b o,h.get? b=some o->b∉ex->∃ o',h'.get? b=some o'
 tups:∀ b xs,H b=some (.tup xs)->H' b=some (.tup xs)
 frzs:∀ b o u,H b=some (.frz o u)->H' b=some (.frz o u)
 tbls:∀ b ps,H b=some (.tbl ps)->∃ more,H' b=some (.tbl (ps++more))
section
variable {fs fs' ex ex':List Addr}{H1 H2:Hp}{h h1 h2:Heap}
theorem Un.any(u:Un fs ex H H1 h h1){ob:Obj}(q:h.get? b=some ob)(n:H b=none)(hx:b∉ex):∃ sl,h1.get? b=some {ob with slots:=sl}:=by
 by_cases hb:b∈fs
 .exact u.slot b ob q n hb hx
 .exact⟨ob.slots,u.keep b ob q n hb hx⟩
theorem Un.kept(k:∀ b u,h.get? b=some u->h'.get? b=some u):Un fs ex H H h h':=
 ⟨λb ob q _ _ _=>k b ob q,λb ob q _ _ _=>⟨ob.slots,k b ob q⟩,λ_ _ _ n _=>n,λb ob q _=>⟨ob,k b ob q⟩,λ_ _ q=>q,λ_ _ _ q=>q,λ_ ps q=>⟨#[],by rw[q];simp⟩⟩
theorem Un.refl:Un fs ex H H h h:=Un.kept λ_ _ q=>q
theorem Un.laid(k:∀ b u,h.get? b=some u->h'.get? b=some u)(hp:h.objs.size<=a)(hn:H a=none):Un fs ex H (Ib H a o) h h' where
 keep:=λb u q _ _ _=>k b u q
 slot:=λb u q _ _ _=>⟨u.slots,k b u q⟩
 free:=λb u q n _=>by rw[Ea (ne_of_lt (lt_of_lt_of_le (lt_size q) hp))];exact n
 there:=λb u q _=>⟨u,k b u q⟩
 tups:=λb xs q=>by rw[Ea (Pa q hn)];exact q
 frzs:=λb u xs q=>by rw[Ea (Pa q hn)];exact q
 tbls:=λb ps q=>⟨#[],by rw[Ea (Pa q hn),q];simp⟩
theorem Un.write(mu:X6 (H x))(he:e=x\/H e=some (.own x))(k:∀ b u,b≠e->h.get? b=some u->h'.get? b=some u)(heo:∃ u,h'.get? e=some u):Un fs ex H (Ib H x o) h h':=by
 have hx:∀ b,H b=none->b≠x:=λb n z=>by subst z;rw[n]at mu;exact mu
 have hb:∀ b,H b=none->b≠e:=λb n z=>by
  subst z
  rcases he with r|r
  .exact hx b n r
  .rw[n]at r;cases r
 have hm:∀ b u,H b=some u->¬ X6 (some u)->b≠x:=λb u q nm z=>by subst z;rw[q]at mu;exact nm mu
 refine⟨λb u q n _ _=>k b u (hb b n) q,λb u q n _ _=>⟨u.slots,k b u (hb b n) q⟩,λb u q n _=>by rw[Ea (hx b n)];exact n,λb u q _=>?_,
  λb xs q=>by rw[Ea (hm b _ q λz=>z)];exact q,λb u xs q=>by rw[Ea (hm b _ q λz=>z)];exact q,λb ps q=>⟨#[],by rw[Ea (hm b _ q λz=>z),q];simp⟩⟩
 by_cases hbe:b=e
 .subst hbe;exact heo
 .exact⟨u,k b u hbe q⟩
end
def G7(h:Heap)(H:Hp):List Addr:=(range h.objs.size).filter λa=>(H a).isSome
def Fx(h:Heap)(H:Hp):Heap:=hideAll h (G7 h H)
theorem QH(h:Heap)(H:Hp):(Fx h H).objs.size=h.objs.size:=PySem.W.hideAll_size _ _
variable{o:Obj}
theorem QL{h:Heap}(e:h.get? b=some o)(n:H b=none):(Fx h H).get? b=some o:=
 hideAll_get _ e λhm=>by
  have q:(H b).isSome=true:=(List.mem_filter.mp hm).2
  rw[n]at q;simp at q
theorem GT{h:Heap}(e:(Fx h H).get? b=some o):h.get? b=some o/\H b=none:=by
 have e':h.get? b=some o:=of_hideAll (G7 h H) e
 refine⟨e',?_⟩
 cases q:H b with
 |none=>rfl
 |some x=>
  have hm:b∈G7 h H:=List.mem_filter.mpr ⟨List.mem_range.mpr (lt_size e'),by simp[q]⟩
  have z:(Fx h H).get? b=none:=PySem.W.hideAll_none (G7 h H) hm
  rw[z]at e;cases e
def NQ(g h:Heap)(L:Addr):List (Addr×Obj):=(range h.objs.size).filterMap λa=>if a=L\/(g.get? a).isSome=true then none else(h.get? a).map λo=>(a,o)
def rest(g h:Heap)(L d:Addr):List (Addr×Obj):=(NQ g h L).filter λp=>decide (p.1≠d)
structure Mod(K:Frag)(mg:Str->Option Value)(base:Heap):Prop where
 kin:K.In base
 glob:base.Ns mainGlobals mg
 blt:∃ mb,base.Ns builtinsNs mb/\∀ x:Str,x≠"__name__"->mb x=bootBuiltins x
 nolimit:base.NoLimit
structure Cx where
 prog:Program
 w:World
 K:Frag
 mg:Str->Option Value
 base:Heap
 A:Around
 N:List Str
 s₀:Shared
 H₀:Hp
 env:Env
 outer:List Env
 stack:List Env
 ex:List Addr
 fn:Str->Bool
 calm:Bool
 pn:List (Addr×Obj)
 xe:Value->Shared->Prop
def Re(l:List Env):List Addr:=l.filterMap (·.frame)
abbrev Cx.fs(X:Cx):List Addr:=Re X.outer
def Jw(sc:Scope)(x:Str):Prop:=sc.names.lookup x=some .local\/sc.names.lookup x=some .cell\/sc.names.lookup x=some .free
def UJ(sc:Scope)(x:Str):Prop:=sc.names.lookup x=some .local\/sc.names.lookup x=some .cell
def R3(env:Env)(h:Heap)(m:Str->Option Value)(x:Str)(u:Value):Prop:=
 (env.kindOf x=some .local/\m x=some u)\/((env.kindOf x=some .cell\/env.kindOf x=some .free)/\∃ c,env.cells.lookup x=some c/\h.IsCell c (some u))
structure Cx.Ok(X:Cx):Prop where
 mod:Mod X.K X.mg X.base
 kind:X.env.scope.kind=.function
 glob:X.env.globals=mainGlobals
 blt:X.env.builtins=builtinsNs
 above:X.s₀.heap.objs.size<=X.env.locals
 inj:∀ x y c,X.env.cells.lookup x=some c->X.env.cells.lookup y=some c->x=y
 has:∀ x,(X.env.kindOf x=some .cell\/X.env.kindOf x=some .free)->∃ c,X.env.cells.lookup x=some c
 cab:∀ x c,X.fn x=true->X.env.cells.lookup x=some c->X.s₀.heap.objs.size<=c
 hd:X.calm=true->X.A.handled=none
 frames:X.A.frames=some X.stack
 stk:X.stack=X.outer\/(X.stack=X.env::X.outer/\X.env.frame=some X.env.locals)
 exf:∀ b∈X.ex,b≠X.env.locals/\∀ x c,X.env.cells.lookup x=some c->c≠b
 bs:∀ b o,X.base.get? b=some o->X.s₀.heap.get? b=some o/\X.H₀ b=none
 bsz:X.base.objs.size<=X.s₀.heap.objs.size
 noex:∀ b o,X.base.get? b=some o->b∉X.ex
 exfs:∀ b∈X.ex,b∉X.fs
 funs:X.s₀.heap.FunFrames X.base X.outer
 frf:∀ b∈X.fs,X.H₀ b=none
structure Inv(X:Cx)(pins:List (Addr×Obj))(σ:List (Option V))(H:Hp)(s:Shared):Prop where
 ok:X.Ok
 os:s.os=X.s₀.os
 bare:AllBare s.gens
 base:Un X.fs X.ex X.H₀ H X.s₀.heap s.heap
 loc:∃ m,s.heap.Ns X.env.locals m/\∀ (i:Nat) (x:Str) (v:V),X.N[i]? =some x->σ[i]? =some (some v)->Jw X.env.scope x->∃ u,RelV v u/\R3 X.env s.heap m x u
 cell:∀ x c,X.env.cells.lookup x=some c->∃ v,s.heap.IsCell c v
 free:H X.env.locals=none
 freeC:∀ x c,X.env.cells.lookup x=some c->H c=none
 pin:∀ p∈X.pn++pins,s.heap.get? p.1=some p.2/\H p.1=none/\p.1≠X.env.locals/\p.1∉X.fs/\∀ v,p.2.data≠ .cell v
 hok:HOk X.prog X.w H s.heap
 len:σ.length=X.N.length
variable{x:Str}{X:Cx}{pins:List (Addr×Obj)}{s s':Shared}{g':Array GenState}{t' i j:Nat}{d':Drawn}{ch:List Addr}{it:Addr}{N:List Str}{M:Model}{A:Around}{E:Value->Shared->Prop}{v:V}{Q:Unit->Shared->Prop}
section
variable {σ:List (Option V)}
theorem Cx.Ok.nofr(ok:X.Ok)(e:X.base.get? b=some o):b∉X.fs:=λhb=>by
 have:=(ok.funs.mem hb).1
 rw[e]at this;cases this
theorem Inv.bs(I:Inv X pins σ H s):∀ b o,X.base.get? b=some o->s.heap.get? b=some o/\H b=none:=λb o e=>
 ⟨I.base.keep b o (I.ok.bs b o e).1 (I.ok.bs b o e).2 (I.ok.nofr e) (I.ok.noex b o e),I.base.free b o (I.ok.bs b o e).1 (I.ok.bs b o e).2 (I.ok.noex b o e)⟩
theorem Inv.bk(I:Inv X pins σ H s):∀ b o,X.base.get? b=some o->s.heap.get? b=some o:=λb o e=>(I.bs b o e).1
theorem Inv.mod(I:Inv X pins σ H s):Mod X.K X.mg X.base:=I.ok.mod
theorem Inv.kIn(I:Inv X pins σ H s):X.K.In s.heap:=I.ok.mod.kin.keeps I.bk
theorem Inv.lt(I:Inv X pins σ H s):X.env.locals<s.heap.objs.size:=let ⟨_,hn,_⟩:=I.loc;hn.lt
theorem Inv.sz(I:Inv X pins σ H s):X.s₀.heap.objs.size<=s.heap.objs.size:=le_trans I.ok.above (Nat.le_of_lt I.lt)
theorem Inv.nofs(I:Inv X pins σ H s)(h:s.heap.objs.size<=a):a∉X.fs:=λhb=>by
 obtain⟨_,o,ho,_⟩:=I.ok.funs.mem hb
 exact absurd (lt_of_lt_of_le (lt_size ho) (le_trans I.sz h)) (lt_irrefl _)
theorem Inv.cne(I:Inv X pins σ H s):∀ x c,X.env.cells.lookup x=some c->c≠X.env.locals:=λx c e z=>by
 obtain⟨v,o,ho,hd⟩:=I.cell x c e
 obtain⟨m,⟨o',es,ep,ho',hd',_⟩,_⟩:=I.loc
 rw[z,ho']at ho;cases ho;rw[hd']at hd;cases hd
theorem Inv.funs(I:Inv X pins σ H s):s.heap.FunFrames X.base X.outer:=by
 have all:∀ (l:List Env),(∀ b∈Re l,b∈X.fs)->X.s₀.heap.FunFrames X.base l->s.heap.FunFrames X.base l:=by
  intro l
  induction l with
  |nil=>intro _ _;trivial
  |cons env r ih=>
   intro hs hl
   obtain⟨hk,⟨L,o,hf,hn,ho,hd⟩,hr⟩:=hl
   have hL:L∈X.fs:=hs L (by unfold Re;rw[List.filterMap_cons,hf];exact mem_cons_self)
   obtain⟨sl,e⟩:=I.base.slot L o ho (I.ok.frf L hL) hL λz=>I.ok.exfs L z hL
   exact⟨hk,⟨L,_,hf,hn,e,hd⟩,ih (λb hb=>hs b (by unfold Re;rw[List.filterMap_cons,hf];exact mem_cons_of_mem _ hb)) hr⟩
 exact all X.outer (λ_ hb=>hb) I.ok.funs
theorem Inv.stack(I:Inv X pins σ H s):s.heap.FunFrames X.base X.stack:=by
 rcases I.ok.stk with e|⟨e,hf⟩
 .rw[e];exact I.funs
 .rw[e]
  obtain⟨m,hn,_⟩:=I.loc
  refine .cons (by rw[I.ok.kind];decide) hf hn ?_ I.funs
  exact Heap.get?_none_of_le (le_trans I.ok.bsz I.ok.above)
theorem Inv.stkSub(I:Inv X pins σ H s):∀ b∈Re X.stack,b∈X.env.locals::X.fs:=λb hb=>by
 rcases I.ok.stk with e|⟨e,hf⟩
 .rw[e]at hb;exact mem_cons_of_mem _ hb
 .rw[e]at hb
  unfold Re at hb
  rw[List.filterMap_cons,hf]at hb
  exact hb
theorem Inv.stkFree(I:Inv X pins σ H s):∀ b∈Re X.stack,H b=none:=λb hb=>by
 rcases mem_cons.mp (I.stkSub b hb) with e|hb
 .rw[e];exact I.free
 .obtain⟨_,o,ho,_⟩:=I.ok.funs.mem hb
  exact I.base.free b o ho (I.ok.frf b hb) λz=>I.ok.exfs b z hb
theorem Inv.step(I:Inv X pins σ H s)(hch:∀ b∈ch,(b∈X.ex\/X.s₀.heap.objs.size<=b)/\b≠X.env.locals/\(∀ x c,X.env.cells.lookup x=some c->c≠b)/\∀ p∈X.pn++pins,p.1≠b)(keep:∀ b o,b≠X.env.locals->b∉X.fs->b∉ch->s.heap.get? b=some o->H b=none->h'.get? b=some o)(slot:∀ b o,b≠X.env.locals->b∈X.fs->b∉ch->s.heap.get? b=some o->H b=none->∃ sl,h'.get? b=some {o with slots:=sl})(free:∀ b o,b∉ch->s.heap.get? b=some o->H b=none->H' b=none)(there:∀ b o,b∉ch->s.heap.get? b=some o->∃ o',h'.get? b=some o')(tups:∀ b xs,H b=some (.tup xs)->H' b=some (.tup xs))(frzs:∀ b o u,H b=some (.frz o u)->H' b=some (.frz o u))(tbls:∀ b ps,H b=some (.tbl ps)->∃ more,H' b=some (.tbl (ps++more)))(ns:∀ m,s.heap.Ns X.env.locals m->h'.Ns X.env.locals m)(hok:HOk X.prog X.w H' h')(hg:AllBare g'):
  Inv X pins σ H' {s with heap:=h',gens:=g',drawn:=d',toks:=t'}:=by
 have neL:∀ b o,X.s₀.heap.get? b=some o->b≠X.env.locals:=λb o e=>ne_of_lt (lt_of_lt_of_le (lt_size e) I.ok.above)
 have neC:∀ b o,X.s₀.heap.get? b=some o->b∉X.ex->b∉ch:=λb o e hx hb=>by
  rcases(hch b hb).1 with z|z
  .exact hx z
  .exact absurd (lt_of_lt_of_le (lt_size e) z) (lt_irrefl _)
 have cellK:∀ x c,X.env.cells.lookup x=some c->∀ v,s.heap.IsCell c v->h'.IsCell c v:=λx c e v ⟨o,ho,hd⟩=>by
  have nch:c∉ch:=λz=>(hch c z).2.2.1 x c e rfl
  by_cases hc:c∈X.fs
  .obtain⟨sl,q⟩:=slot c o (I.cne x c e) hc nch ho (I.freeC x c e)
   exact⟨_,q,hd⟩
  .exact⟨o,keep c o (I.cne x c e) hc nch ho (I.freeC x c e),hd⟩
 refine⟨I.ok,I.os,hg,⟨λb o e n hb hx=>?_,λb o e n hb hx=>?_,λb o e n hx=>?_,λb o e hx=>?_,λb xs e=>tups b xs (I.base.tups b xs e),λb o xs e=>frzs b o xs (I.base.frzs b o xs e),λb ps e=>?_⟩,?_,λx c e=>?_,?_,λx c e=>?_,λp hp=>?_,hok,I.len⟩
 .exact keep b o (neL b o e) hb (neC b o e hx) (I.base.keep b o e n hb hx) (I.base.free b o e n hx)
 .obtain⟨sl,e1⟩:=I.base.slot b o e n hb hx
  obtain⟨sl',e2⟩:=slot b _ (neL b o e) hb (neC b o e hx) e1 (I.base.free b o e n hx)
  exact⟨sl',e2⟩
 .obtain⟨o',e1⟩:=I.base.there b o e hx
  exact free b o' (neC b o e hx) e1 (I.base.free b o e n hx)
 .obtain⟨o',e1⟩:=I.base.there b o e hx
  exact there b o' (neC b o e hx) e1
 .obtain⟨m1,e1⟩:=I.base.tbls b ps e
  obtain⟨m2,e2⟩:=tbls b _ e1
  exact⟨m1++m2,by rw[e2,Array.append_assoc]⟩
 .obtain⟨m,hn,hl⟩:=I.loc
  refine⟨m,ns m hn,λi x v e1 e2 e3=>?_⟩
  obtain⟨u,r,l⟩:=hl i x v e1 e2 e3
  refine⟨u,r,?_⟩
  rcases l with l|⟨k,c,e,z⟩
  .exact .inl l
  .exact .inr ⟨k,c,e,cellK x c e _ z⟩
 .obtain⟨v,z⟩:=I.cell x c e
  exact⟨v,cellK x c e v z⟩
 .obtain⟨m,⟨o,_,_,ho,_⟩,_⟩:=I.loc
  exact free _ o (λz=>(hch _ z).2.1 rfl) ho I.free
 .obtain⟨v,o,ho,hd⟩:=I.cell x c e
  exact free c o (λz=>(hch c z).2.2.1 x c e rfl) ho (I.freeC x c e)
 .obtain⟨e,n,ne,nf,d⟩:=I.pin p hp
  have nch:p.1∉ch:=λz=>(hch p.1 z).2.2.2 p hp rfl
  exact⟨keep p.1 p.2 ne nf nch e n,free p.1 p.2 nch e n,ne,nf,d⟩
theorem Inv.un(I:Inv X pins σ H s)(u:Un X.fs [] H H' s.heap h')(hok:HOk X.prog X.w H' h'):Inv X pins σ H' {s with heap:=h',toks:=t'}:=by
 obtain⟨m,⟨o,es,ep,ho,r⟩,_⟩:=id I.loc
 obtain⟨sl,hL⟩:=u.any ho I.free (by simp)
 exact I.step (g':=s.gens) (d':=s.drawn) (ch:= []) (λ_ z=>nomatch z) (λb o _ hb _ e n=>u.keep b o e n hb (by simp)) (λb o _ hb _ e n=>u.slot b o e n hb (by simp)) (λb o _ e n=>u.free b o e n (by simp)) (λb o _ e=>u.there b o e (by simp)) u.tups u.frzs u.tbls (λm' hm=>by
  obtain⟨o',es',ep',ho',r'⟩:=hm
  rw[ho]at ho';cases ho'
  exact⟨_,es',ep',hL,r'⟩) hok I.bare
theorem Inv.call(I:Inv X pins σ H s)(u:Un (Re X.stack) ch H H' s.heap h')(hok:HOk X.prog X.w H' h')(hg:AllBare g')(hch:∀ b∈ch,(b∈X.ex\/X.s₀.heap.objs.size<=b)/\b≠X.env.locals/\(∀ x c,X.env.cells.lookup x=some c->c≠b)/\∀ p∈X.pn++pins,p.1≠b):
  Inv X pins σ H' {s with heap:=h',gens:=g',drawn:=d',toks:=t'}:=by
 obtain⟨m,⟨o,es,ep,ho,r⟩,_⟩:=id I.loc
 obtain⟨sl,hL⟩:=u.any ho I.free λz=>(hch _ z).2.1 rfl
 exact I.step (ch:=ch) hch (λb o hL hb hc e n=>u.keep b o e n (λz=>(mem_cons.mp (I.stkSub b z)).elim hL hb) hc) (λb o _ _ hc e n=>u.any e n hc) (λb o hc e n=>u.free b o e n hc) (λb o hc e=>u.there b o e hc) u.tups u.frzs u.tbls (λm' hm=>by
  obtain⟨o',es',ep',ho',r'⟩:=hm
  rw[ho]at ho';cases ho'
  exact⟨_,es',ep',hL,r'⟩) hok hg
theorem Inv.turned(I:Inv X pins σ H s)(k:∀ b o,b≠it->s.heap.get? b=some o->h'.get? b=some o)(hn:H it=none)(hL:it≠X.env.locals)(h1:it∈X.ex\/X.s₀.heap.objs.size<=it)(h2:∀ x c,X.env.cells.lookup x=some c->c≠it)(h3:∀ p∈X.pn++pins,p.1≠it):Inv X pins σ H {s with heap:=h',toks:=t'}:=by
 have nit:∀ b u,H b=some u->b≠it:=λb u e z=>by rw[z,hn]at e;cases e
 refine I.step (g':=s.gens) (d':=s.drawn) (ch:= [it]) (λb hb=>?_) (λb o _ _ hc e _=>k b o (λz=>hc (by simp[z])) e) (λb o _ _ hc e _=>⟨o.slots,k b o (λz=>hc (by simp[z])) e⟩) (λ_ _ _ _ n=>n)
  (λb o hc e=>⟨o,k b o (λz=>hc (by simp[z])) e⟩) (λ_ _ e=>e) (λ_ _ _ e=>e) (λb ps e=>⟨#[],by rw[e];simp⟩) (λm hm=>?_) (λb u e=>?_) I.bare
 .have e:b=it:=by simpa using hb
  subst e
  exact⟨h1,hL,h2,h3⟩
 .obtain⟨o,es,ep,ho,r⟩:=hm
  exact⟨o,es,ep,k _ o (Ne.symm hL) ho,r⟩
 .refine(I.hok b u e).stay (λc v hc q=>k c v ?_ q) (λ_ q=>q) λ_ _ q=>q
  rcases hc with z|z
  .rw[z];exact nit b u e
  .exact nit c _ z
theorem Inv.tok(I:Inv X pins σ H s)(t:Nat):Inv X pins σ H {s with toks:=t}:=I.un (h':=s.heap) (t':=t) Un.refl I.hok
theorem Inv.kept(I:Inv X pins σ H s)(k:∀ b u,s.heap.get? b=some u->h'.get? b=some u):Inv X pins σ H {s with heap:=h',toks:=t'}:=I.un (Un.kept k) (I.hok.kept k)
theorem Inv.laid{o:HO}(I:Inv X pins σ H s)(k:∀ b u,s.heap.get? b=some u->h'.get? b=some u)(hp:s.heap.objs.size<=a)(new:ObjOk X.prog X.w (Ib H a o) h' a o):
  Inv X pins σ (Ib H a o) {s with heap:=h',toks:=t'}:=I.un (Un.laid k hp (I.hok.fresh hp)) (I.hok.laid k hp new)
theorem Inv.write{x:Addr}{o:HO}(I:Inv X pins σ H s)(mu:X6 (H x))(he:e=x\/H e=some (.own x))(k:∀ b u,b≠e->s.heap.get? b=some u->h'.get? b=some u)(heo:∃ u,h'.get? e=some u)(new:ObjOk X.prog X.w (Ib H x o) h' x o):Inv X pins σ (Ib H x o) {s with heap:=h',toks:=t'}:=I.un (Un.write mu he k heo) (I.hok.write mu he k heo new)
theorem Inv.pins_of{pins':List (Addr×Obj)}(I:Inv X pins σ H s)(h:∀ p∈pins',s.heap.get? p.1=some p.2/\H p.1=none/\p.1≠X.env.locals/\p.1∉X.fs/\∀ v,p.2.data≠ .cell v):Inv X pins' σ H s:=
 ⟨I.ok,I.os,I.bare,I.base,I.loc,I.cell,I.free,I.freeC,λp hp=>(mem_append.mp hp).elim (λz=>I.pin p (mem_append_left _ z)) (h p),I.hok,I.len⟩
theorem Xs(hN:N.Nodup)(a:N[i]? =some x)(b:N[j]? =some x):i=j:=by
 obtain⟨h1,e1⟩:=List.getElem?_eq_some_iff.mp a
 obtain⟨h2,e2⟩:=List.getElem?_eq_some_iff.mp b
 exact(List.getElem_inj hN).mp (e1.trans e2.symm)
theorem GJ(I:Inv X pins σ H s)(hN:X.N.Nodup)(hi:X.N[i]? =some x)(hx:UJ X.env.scope x)(r:RelV v u)(h:∀ s',Inv X pins (σ.set i (some v)) H s'->(∃ a,SameBut a s.heap s'.heap/\(a=X.env.locals\/X.env.cells.lookup x=some a))->Q () s')(hf:X.fn x=true\/X.env.scope.names.lookup x=some .local:=by first|exact .inl rfl|exact .inr rfl|assumption):wpAny M A (storeName X.env x u) Q E s:=by
 obtain⟨m,hn,hl⟩:=id I.loc
 have hcls:(X.env.scope.kind== .class||(X.env.scope.kind== .module&&X.env.locals != X.env.globals))=false:=by rw[I.ok.kind];rfl
 have hiσ:i<σ.length:=by rw[I.len];exact(List.getElem?_eq_some_iff.mp hi).1
 have cne:=I.cne
 have tracked:∀ {a:Addr} {h':Heap},(∃ o,s.heap.get? a=some o/\H a=none)->SameBut a s.heap h'->HOk X.prog X.w H h':=λ{a h'} ha hs b ob e=>by
  obtain⟨_,_,hfree⟩:=ha
  refine(I.hok b ob e).stay (λc w' hc q=>(hs.2 c ?_).trans q) (λ_ q=>q) λ_ _ q=>q
  rintro rfl
  rcases hc with rfl|hc
  .rw[hfree]at e;cases e
  .rw[hfree]at hc;cases hc
 rcases hx with hk|hk
 .refine wpAny_storeName_local hk hn (λh' hn' hs=>?_) hcls
  obtain⟨oL,_,_,hoL,_⟩:=id hn
  refine h _ ⟨I.ok,I.os,I.bare,⟨λb o e n hb hx=>?_,λb o e n hb hx=>?_,I.base.free,λb o e hx=>?_,I.base.tups,I.base.frzs,I.base.tbls⟩,⟨_,hn',λj y v' e1 e2 e3=>?_⟩,λy c e=>?_,I.free,I.freeC,λp hp=>?_,tracked ⟨oL,hoL,I.free⟩ hs,by simpa using I.len⟩ ⟨_,hs,.inl rfl⟩
  .exact(hs.2 b (ne_of_lt (lt_of_lt_of_le (lt_size e) I.ok.above))).trans (I.base.keep b o e n hb hx)
  .obtain⟨sl,e1⟩:=I.base.slot b o e n hb hx
   exact⟨sl,(hs.2 b (ne_of_lt (lt_of_lt_of_le (lt_size e) I.ok.above))).trans e1⟩
  .obtain⟨o',e1⟩:=I.base.there b o e hx
   exact⟨o',(hs.2 b (ne_of_lt (lt_of_lt_of_le (lt_size e) I.ok.above))).trans e1⟩
  .by_cases hj:j=i
   .subst hj
    rw[hi]at e1;cases e1
    rw[getElem?_set_self hiσ]at e2
    cases e2
    exact⟨u,r,.inl ⟨hk,by simp⟩⟩
   .rw[getElem?_set_ne (Ne.symm hj)]at e2
    obtain⟨u',r',q⟩:=hl j y v' e1 e2 e3
    refine⟨u',r',?_⟩
    rcases q with⟨k,e⟩|⟨k,c,e,z⟩
    .refine .inl ⟨k,?_⟩
     have:y≠x:=λe=>hj (Xs hN e1 (e▸hi))
     simp[this,e]
    .exact .inr ⟨k,c,e,z.sameBut hs (cne y c e)⟩
  .obtain⟨w',z⟩:=I.cell y c e
   exact⟨w',z.sameBut hs (cne y c e)⟩
  .obtain⟨e,n,ne,nf,d⟩:=I.pin p hp
   exact⟨(hs.2 p.1 ne).trans e,n,ne,nf,d⟩
 .have hfn:X.fn x=true:=by
   rcases hf with z|z
   .exact z
   .rw[z]at hk;cases hk
  obtain⟨c,hc⟩:=I.ok.has x (.inl hk)
  obtain⟨w',z⟩:=I.cell x c hc
  refine wpAny_storeName_cell I.ok.kind hk hc z (λh' hc' hs=>?_)
  obtain⟨oc,hoc,hocd⟩:=id z
  refine h {s with heap:=h'} ⟨I.ok,I.os,I.bare,⟨λb o e n hb hx=>?_,λb o e n hb hx=>?_,I.base.free,λb o e hx=>?_,I.base.tups,I.base.frzs,I.base.tbls⟩,⟨m,hn.sameBut hs (Ne.symm (cne x c hc)),λj y v' e1 e2 e3=>?_⟩,λy c' e=>?_,I.free,I.freeC,λp hp=>?_,tracked ⟨oc,hoc,I.freeC x c hc⟩ hs,by simpa using I.len⟩ ⟨c,hs,.inr hc⟩
  .exact(hs.2 b (ne_of_lt (lt_of_lt_of_le (lt_size e) (I.ok.cab x c hfn hc)))).trans (I.base.keep b o e n hb hx)
  .obtain⟨sl,e1⟩:=I.base.slot b o e n hb hx
   exact⟨sl,(hs.2 b (ne_of_lt (lt_of_lt_of_le (lt_size e) (I.ok.cab x c hfn hc)))).trans e1⟩
  .obtain⟨o',e1⟩:=I.base.there b o e hx
   exact⟨o',(hs.2 b (ne_of_lt (lt_of_lt_of_le (lt_size e) (I.ok.cab x c hfn hc)))).trans e1⟩
  .by_cases hj:j=i
   .subst hj
    rw[hi]at e1;cases e1
    rw[getElem?_set_self hiσ]at e2
    cases e2
    exact⟨u,r,.inr ⟨.inl hk,c,hc,hc'⟩⟩
   .rw[getElem?_set_ne (Ne.symm hj)]at e2
    obtain⟨u',r',q⟩:=hl j y v' e1 e2 e3
    refine⟨u',r',?_⟩
    rcases q with q|⟨k,c',e,z'⟩
    .exact .inl q
    .refine .inr ⟨k,c',e,z'.sameBut hs ?_⟩
     rintro rfl
     exact hj (Xs hN e1 (I.ok.inj _ _ _ e hc▸hi))
  .by_cases hcc:c'=c
   .subst hcc;exact⟨_,hc'⟩
   .obtain⟨w2,z2⟩:=I.cell y c' e
    exact⟨w2,z2.sameBut hs hcc⟩
  .obtain⟨e,n,ne,nf,d⟩:=I.pin p hp
   refine⟨(hs.2 p.1 ?_).trans e,n,ne,nf,d⟩
   intro q
   rw[q,hoc]at e
   have q':oc=p.2:=Option.some.inj e
   exact d w' (by rw[<-q'];exact hocd)
theorem Yt(I:Inv X pins σ H s)(hN:X.N.Nodup)(hi:X.N[i]? =some x)(hx:UJ X.env.scope x)(r:RelV v u)(h:∀ s',Inv X pins (σ.set i (some v)) H s'->Q () s')(hf:X.fn x=true\/X.env.scope.names.lookup x=some .local:=by first|exact .inl rfl|exact .inr rfl|assumption):wpAny M A (storeName X.env x u) Q E s:=
 GJ I hN hi hx r (λs' I' _=>h s' I') hf
theorem Inv.call'(I:Inv X pins σ H s)(ho:s'.os=s.os)(u:Un (Re X.stack) ch H H' s.heap s'.heap)(hok:HOk X.prog X.w H' s'.heap)(hg:AllBare s'.gens)(hch:∀ b∈ch,(b∈X.ex\/X.s₀.heap.objs.size<=b)/\b≠X.env.locals/\(∀ x c,X.env.cells.lookup x=some c->c≠b)/\∀ p∈X.pn++pins,p.1≠b):Inv X pins σ H' s':=by
 obtain⟨h',g',d',t',o'⟩:=s'
 have e:o'=s.os:=ho
 subst e
 exact I.call (g':=g') (t':=t') (d':=d') u hok hg hch
end
abbrev XK:=Value->Option Addr×Bool->Hp->Prop
abbrev St:=List (Option V)
abbrev VK:=V->Hp->Prop
abbrev TE:=St->Hp->VK->Prop
abbrev TT:=St->Hp->(Bool->Hp->Prop)->Prop
abbrev TA:=St->Hp->(List V->Hp->Prop)->Prop
structure Ends where
 nx:St->Hp->Prop
 rt:VK
 bk:St->Hp->Prop:=λ_ _=>False
 ct:St->Hp->Prop:=λ_ _=>False
abbrev TS:=Ends->St->Hp->Prop
def EP(X:Cx)(pins:List (Addr×Obj))(σ:St)(Q:VK)(u:Value)(s':Shared):Prop:=∃ v H',Inv X pins σ H' s'/\RelV v u/\Q v H'
def TP(X:Cx)(pins:List (Addr×Obj))(σ:St)(Q:Bool->Hp->Prop)(b:Bool)(s':Shared):Prop:=∃ H',Inv X pins σ H' s'/\Q b H'
def AP(X:Cx)(pins:List (Addr×Obj))(σ:St)(Q:List V->Hp->Prop)(us:List Value)(s':Shared):Prop:=∃ vs H',Inv X pins σ H' s'/\Vals vs us/\Q vs H'
def SP(X:Cx)(pins:List (Addr×Obj))(D:Ends)(f:Flow)(s':Shared):Prop:=
 match f with
 | .next=>∃ σ' H',Inv X pins σ' H' s'/\D.nx σ' H'
 | .brk=>∃ σ' H',Inv X pins σ' H' s'/\D.bk σ' H'
 | .cont=>∃ σ' H',Inv X pins σ' H' s'/\D.ct σ' H'
 | .ret u=>∃ v σ' H',Inv X pins σ' H' s'/\RelV v u/\D.rt v H'
def PE(X:Cx)(e:Expr)(t:TE):Prop:=
 ∀ (pins:List (Addr×Obj)) (s:Shared) (σ:St) (H:Hp) (Q:VK),Inv X pins σ H s->t σ H Q->wpAny (model X.prog X.w) X.A (eval e X.env) (EP X pins σ Q) X.xe s
def PT(X:Cx)(e:Expr)(t:TT):Prop:=
 ∀ (pins:List (Addr×Obj)) (s:Shared) (σ:St) (H:Hp) (Q:Bool->Hp->Prop),Inv X pins σ H s->t σ H Q->wpAny (model X.prog X.w) X.A (isTrue e X.env (eval e X.env)) (TP X pins σ Q) X.xe s
def PW(X:Cx)(e:Expr)(t:TT):Prop:=
 ∀ (whole:Sem Value) (pins:List (Addr×Obj)) (s:Shared) (σ:St) (H:Hp) (Q:Bool->Hp->Prop),Inv X pins σ H s->t σ H Q->wpAny (model X.prog X.w) X.A (isTrue e X.env whole) (TP X pins σ Q) X.xe s
variable{e:Expr}
theorem PW.pt{t:TT}(h:PW X e t):PT X e t:=h _
def PA(X:Cx)(es:List Expr)(t:TA):Prop:=
 ∀ (pos:Pos) (pins:List (Addr×Obj)) (s:Shared) (σ:St) (H:Hp) (Q:List V->Hp->Prop),Inv X pins σ H s->t σ H Q->wpAny (model X.prog X.w) X.A (spliced (backTo pos (starEach es X.env))) (AP X pins σ Q) X.xe s
def PS(X:Cx)(st:Stmt)(t:TS):Prop:=
 ∀ (pins:List (Addr×Obj)) (s:Shared) (σ:St) (H:Hp) (D:Ends),Inv X pins σ H s->t D σ H->wpAny (model X.prog X.w) X.A (exec st X.env) (SP X pins D) X.xe s
def PSs(X:Cx)(st:List Stmt)(t:TS):Prop:=
 ∀ (pins:List (Addr×Obj)) (s:Shared) (σ:St) (H:Hp) (D:Ends),Inv X pins σ H s->t D σ H->wpAny (model X.prog X.w) X.A (execs st X.env) (SP X pins D) X.xe s
theorem thn{t:Sem α}{Q Q':α->Shared->Prop}(h:wpAny M A t Q E s)(hQ:∀ a s,Q a s->Q' a s):wpAny M A t Q' E s:=wpAny_mono h hQ λ_ _ x=>x
variable{a c:Expr}{σ:St}{Q:Value->Shared->Prop}{ta tb:TE}{pos:Pos}{op:CmpOp}
section
def K6(i:Nat):TE:=λσ H Q=>∃ v,σ[i]? =some (some v)/\Q v H
def tC(v:V):TE:=λ_ H Q=>Q v H
theorem Fh{pos:Pos}(hN:X.N[i]? =some x)(hv:Jw X.env.scope x)(hd:(x==("__debug__":Str))=false:=by decide)(hcd:(x==("__classdict__":Str))=false:=by decide):PE X (.Name x pos) (K6 i):=by
 intro pins s σ H Q I h
 obtain⟨v,e,h⟩:=h
 obtain⟨m,hn,hl⟩:=I.loc
 obtain⟨u,r,l⟩:=hl i x v hN e hv
 have fin:EP X pins σ Q u s:=⟨v,H,I,r,h⟩
 rcases l with⟨hk,hm⟩|⟨hk,c,hc,hcell⟩
 .exact wpAny_Name (wpAny_loadName_local I.ok.kind hk hn hm fin) hd
 .rcases hk with hk|hk
  .exact wpAny_Name (wpAny_loadName_cell I.ok.kind hk hc hcell fin) hd
  .exact wpAny_Name (wpAny_loadName_free I.ok.kind hk hc hcell fin hcd) hd
theorem QN{i j pos}:PE X (.Constant (.int i) j pos) (tC (.int i)):=λ_ _ _ H _ I h=>wpAny_Constant_int ⟨.int i,H,I.tok _,⟨_,rfl⟩,h⟩
theorem F5{b j pos}:PE X (.Constant (.bool b) j pos) (tC (.bl b)):=λ_ _ _ H _ I h=>Constant_bool ⟨.bl b,H,I,rfl,h⟩
theorem O0{j pos}:PE X (.Constant .none j pos) (tC .non):=λ_ _ _ H _ I h=>Constant_none ⟨.non,H,I,rfl,h⟩
theorem TN{x j pos}:PE X (.Constant (.str x) j pos) (tC (.str x)):=λ_ _ _ H _ I h=>Calls.Constant_str ⟨.str x,H,I.tok _,⟨_,rfl⟩,h⟩
def Gl(X:Cx)(x:Str):Prop:=X.env.kindOf x=some .globalImplicit
theorem Cj{pos:Pos}(I:Inv X pins σ H s)(hg:Gl X x)(hm:X.mg x=some u)(h:Q u s)(hd:(x==("__debug__":Str))=false:=by decide):wpAny (model X.prog X.w) X.A (eval (.Name x pos) X.env) Q E s:=
 Calls.Name_function_global I.ok.kind hg (Calls.loadGlobal_global (by rw[I.ok.glob];exact I.mod.glob.keeps I.bk) hm h) hd
theorem Sn{pos:Pos}(I:Inv X pins σ H s)(hg:Gl X x)(hm:X.mg x=none)(hv:bootBuiltins x=some u)(h:Q u s)(hn:x≠"__name__":=by decide)(hd:(x==("__debug__":Str))=false:=by decide):wpAny (model X.prog X.w) X.A (eval (.Name x pos) X.env) Q E s:=by
 obtain⟨mb,h1,h2⟩:=I.mod.blt
 exact Calls.Name_function_global I.ok.kind hg (Calls.loadGlobal_builtin (by rw[I.ok.glob];exact I.mod.glob.keeps I.bk) hm (by rw[I.ok.blt];exact h1.keeps I.bk) ((h2 x hn).trans hv) h) hd
theorem Tr{pos:Pos}(hg:Gl X x)(hm:X.mg x=some u)(r:RelV v u)(hd:(x==("__debug__":Str))=false:=by decide):PE X (.Name x pos) (tC v):=
 λ_ _ _ H _ I h=>Cj I hg hm ⟨v,H,I,r,h⟩ hd
theorem JF{pos:Pos}(hg:Gl X x)(hm:X.mg x=none)(hv:bootBuiltins x=some u)(r:RelV v u)(hn:x≠"__name__":=by decide)(hd:(x==("__debug__":Str))=false:=by decide):PE X (.Name x pos) (tC v):=
 λ_ _ _ H _ I h=>Sn I hg hm hv ⟨v,H,I,r,h⟩ hn hd
variable {b:Expr}
def PC(X:Cx)(op:CmpOp)(a b:Expr)(t:TE):Prop:=
 ∀ (pins:List (Addr×Obj)) (s:Shared) (σ:St) (H:Hp) (Q:VK),Inv X pins σ H s->t σ H Q->
  wpAny (model X.prog X.w) X.A (eval a X.env) (λv s₁=>wpAny (model X.prog X.w) X.A (eval b X.env) (λu s₂=>wpAny (model X.prog X.w) X.A (compareOp op v u) (EP X pins σ Q) X.xe s₂) X.xe s₁) X.xe s
theorem ZM(b:Expr)(h:op≠ .In)(h2:op≠ .NotIn):behindInMarks op b=false:=by
 have e1:(op==CmpOp.In)=false:=by cases op<;>first|rfl|exact absurd rfl h
 have e2:(op==CmpOp.NotIn)=false:=by cases op<;>first|rfl|exact absurd rfl h2
 cases b<;>simp[behindInMarks,e1,e2]
def W9(ta:TE):TE:=λσ H Q=>ta σ H λx H1=>Q (.bl (decide (x=.non))) H1
theorem RelV.none_iff{x:V}{v:Value}(r:RelV x v):(v==Value.none)=decide (x=.non):=by
 cases x with
 |non=>cases r;rfl
 |bl _=>cases r;rfl
 |int _=>obtain⟨t,rfl⟩:=r;rfl
 |str _=>obtain⟨t,rfl⟩:=r;rfl
 |byt _=>obtain⟨t,rfl⟩:=r;rfl
 |flt _=>obtain⟨t,rfl⟩:=r;rfl
 |ref _=>cases r;rfl
 |ty _=>cases r;rfl
theorem F0{j pos'}(ha:PE X a ta):PC X .Is a (.Constant .none j pos') (W9 ta):=by
 intro pins s σ H Q I h
 refine thn (ha pins s σ H _ I h) λv s1 ⟨x,H1,I1,r1,q1⟩=>?_
 exact Constant_none (is_none_gen ⟨.bl _,H1,I1,by rw[r1.none_iff];rfl,q1⟩)
def tB(t:TE):TT:=λσ H Q=>t σ H λx H1=>∃ c,x=.bl c/\Q c H1
theorem B1{t:TE}(h:PC X op a b t)(h1:behindInMarks op b=false:=by first|exact ZM _ (by decide) (by decide)|rfl):PT X (.Compare a [op] [b] pos) (tB t):=by
 intro pins s σ H Q I hw
 refine wpAny_isTrue_Compare1 (thn (h pins s σ H _ I hw) λv s1 h1=>thn h1 λu s2 h2=>thn h2 λc s3 ⟨x,H1,I1,r1,q1⟩=>?_) h1
 obtain⟨d,rfl,q⟩:=q1
 cases r1
 exact wpAny_truthy_bool ⟨H1,I1,q⟩
theorem E1{t:TE}(h:PE X e t)(he:∀ whole,isTrue e X.env whole=(do let v <-whole;standAt e.pos;holding [v] (truthy v)):=by intro _;rfl):PT X e (tB t):=by
 intro pins s σ H Q I hw
 refine isTrue_plain (thn (h pins s σ H _ I hw) λv s1 ⟨x,H1,I1,r1,q1⟩=>?_) (he _)
 obtain⟨d,rfl,q⟩:=q1
 cases r1
 exact wpAny_truthy_bool ⟨H1,I1,q⟩
variable {tA tB':TT}{rest:List Expr}
def K9(t u:TT):TT:=λσ H Q=>t σ H λc H1=>if c=true then u σ H1 Q else Q false H1
def tOr(t u:TT):TT:=λσ H Q=>t σ H λc H1=>if c=true then Q true H1 else u σ H1 Q
def X9(t:TT):TT:=λσ H Q=>t σ H λc H1=>Q (!c) H1
theorem LU(ha:PT X a tA):PW X (.BoolOp .And [a] pos) tA:=by
 intro wh pins s σ H Q I h
 refine isTrue_and (thn (ha pins s σ H Q I h) λc s1 e=>?_)
 cases c with
 |true=>exact isTrue_and_nil e
 |false=>exact e
theorem G1(ha:PT X a tA):PW X (.BoolOp .Or [a] pos) tA:=by
 intro wh pins s σ H Q I h
 refine isTrue_or (thn (ha pins s σ H Q I h) λc s1 e=>?_)
 cases c with
 |false=>exact isTrue_or_nil e
 |true=>exact e
theorem F1(ha:PT X a tA)(hb:PW X (.BoolOp .And (b::rest) pos) tB'):PW X (.BoolOp .And (a::b::rest) pos) (K9 tA tB'):=by
 intro wh pins s σ H Q I h
 refine isTrue_and (thn (ha pins s σ H _ I h) λc s1 ⟨H1,I1,q1⟩=>?_)
 cases c with
 |true=>exact hb wh pins s1 σ H1 Q I1 q1
 |false=>exact⟨H1,I1,q1⟩
theorem L5(ha:PT X a tA)(hb:PW X (.BoolOp .Or (b::rest) pos) tB'):PW X (.BoolOp .Or (a::b::rest) pos) (tOr tA tB'):=by
 intro wh pins s σ H Q I h
 refine isTrue_or (thn (ha pins s σ H _ I h) λc s1 ⟨H1,I1,q1⟩=>?_)
 cases c with
 |true=>exact⟨H1,I1,q1⟩
 |false=>exact hb wh pins s1 σ H1 Q I1 q1
theorem D1(ha:PT X a tA):PT X (.UnaryOp .Not a pos) (X9 tA):=by
 intro pins s σ H Q I h
 exact isTrue_not (ha pins s σ H (λc H1=>Q (!c) H1) I h)
def V5(ta tb:TE):TE:=λσ H Q=>ta σ H λx H1=>∃ c,x=.bl c/\if c=true then tb σ H1 Q else Q (.bl false) H1
def Y9(ta tb:TE):TE:=λσ H Q=>ta σ H λx H1=>∃ c,x=.bl c/\if c=true then Q (.bl true) H1 else tb σ H1 Q
def F6(ta:TE):TE:=λσ H Q=>ta σ H λx H1=>∃ c,x=.bl c/\Q (.bl (!c)) H1
theorem Q0{op}{t:TE}(h:PE X a t):PE X (.BoolOp op [a] pos) t:=λpins s σ H Q I hw=>BoolOp_one (h pins s σ H Q I hw)
theorem G0(ha:PE X a ta)(hb:PE X (.BoolOp .And (b::rest) pos) tb):PE X (.BoolOp .And (a::b::rest) pos) (V5 ta tb):=by
 intro pins s σ H Q I h
 refine BoolOp_and (thn (ha pins s σ H _ I h) λv s1 ⟨x,H1,I1,r1,q1⟩=>?_)
 obtain⟨c,rfl,q1⟩:=q1
 cases r1
 refine wpAny_truthy_bool ?_
 cases c with
 |true=>exact hb pins s1 σ H1 Q I1 q1
 |false=>exact⟨.bl false,H1,I1,rfl,q1⟩
theorem J5(ha:PE X a ta)(hb:PE X (.BoolOp .Or (b::rest) pos) tb):PE X (.BoolOp .Or (a::b::rest) pos) (Y9 ta tb):=by
 intro pins s σ H Q I h
 refine BoolOp_or (thn (ha pins s σ H _ I h) λv s1 ⟨x,H1,I1,r1,q1⟩=>?_)
 obtain⟨c,rfl,q1⟩:=q1
 cases r1
 refine wpAny_truthy_bool ?_
 cases c with
 |false=>exact hb pins s1 σ H1 Q I1 q1
 |true=>exact⟨.bl true,H1,I1,rfl,q1⟩
theorem P0(ha:PE X a ta):PE X (.UnaryOp .Not a pos) (F6 ta):=by
 intro pins s σ H Q I h
 refine UnaryOp_ (thn (ha pins s σ H _ I h) λv s1 ⟨x,H1,I1,r1,q1⟩=>?_)
 obtain⟨c,rfl,q1⟩:=q1
 cases r1
 exact not_of (wpAny_truthy_bool ⟨.bl (!c),H1,I1,rfl,q1⟩)
def tIf(t:TT)(ta tb:TE):TE:=λσ H Q=>t σ H λc H1=>if c=true then ta σ H1 Q else tb σ H1 Q
theorem PN(hc:PT X c tA)(ha:PE X a ta)(hb:PE X b tb):PE X (.IfExp c a b pos) (tIf tA ta tb):=by
 intro pins s σ H Q I h
 refine wpAny_IfExp (thn (hc pins s σ H _ I h) λd s1 ⟨H1,I1,q1⟩=>?_)
 cases d with
 |true=>exact ha pins s1 σ H1 Q I1 q1
 |false=>exact hb pins s1 σ H1 Q I1 q1
end
def SqL(K:Frag)(H:Hp)(a:Addr)(xs:List V):Prop:=
 Rd H a (.lst xs)\/
  ∃ (o:Obj) (its:Array Value) (n:Nat),K.lookup a=some o/\o.cls=.type "list"/\o.dict=none/\o.data=.seq its n/\its.size<=sizeLine/\Vals xs its.toList
def SqT(K:Frag)(H:Hp)(a:Addr)(xs:List V):Prop:=
 Rd H a (.tup xs)\/
  ∃ (o:Obj) (its:Array Value) (n:Nat),K.lookup a=some o/\o.cls=.type "tuple"/\o.data=.seq its n/\its.size<=sizeLine/\Vals xs its.toList
def W7:Value->Option V
 | .none=>some .non
 | .bool b=>some (.bl b)
 | .int i _=>some (.int i)
 | .str x _=>some (.str x)
 | .bytes b _=>some (.byt b)
 | .float b _=>some (.flt b)
 | .ref a=>some (.ref a)
 | .type n=>some (.ty n)
 |_=>none
theorem RelV.abs{x:V}(r:RelV x u):W7 u=some x:=by
 cases x with
 |non=>cases r;rfl
 |bl _=>cases r;rfl
 |int _=>obtain⟨t,rfl⟩:=r;rfl
 |str _=>obtain⟨t,rfl⟩:=r;rfl
 |byt _=>obtain⟨t,rfl⟩:=r;rfl
 |flt _=>obtain⟨t,rfl⟩:=r;rfl
 |ref _=>cases r;rfl
 |ty _=>cases r;rfl
variable{y:V}
theorem RelV.inj{x:V}(r:RelV x u)(q:RelV y u):x=y:=Option.some.inj (r.abs.symm.trans q.abs)
theorem Vals.inj:∀ {xs ys:List V} {us:List Value},Vals xs us->Vals ys us->xs=ys
 |_,_,_,.nil,.nil=>rfl
 |_,_,_,.cons r t,.cons r' t'=>by rw[r.inj r',Vals.inj t t']
variable{K:Frag}
section
variable {a:Addr}{ys:List V}
theorem SqL.of(h:H a=some (.lst xs)):SqL K H a xs:=.inl (.inl h)
theorem SqT.of(h:H a=some (.tup xs)):SqT K H a xs:=.inl (.inl h)
theorem Inv.list(I:Inv X pins σ H s)(h:SqL X.K H a xs):∃ its:List Value,Vals xs its/\PlainL s.heap a its.toArray/\xs.length<=sizeLine:=by
 rcases h with h|⟨o,its,n,hk,hc,hd,hs,hz,r⟩
 .obtain⟨z,its,n,r,e⟩:=h.ok I.hok
  exact⟨its,r,⟨_,n,e,rfl,rfl,rfl⟩,z⟩
 .refine⟨its.toList,r,⟨o,n,I.kIn a o hk,hc,hd,by simpa using hs⟩,?_⟩
  have e:=r.length
  simp only[length_toList]at e
  omega
theorem Inv.tuple(I:Inv X pins σ H s)(h:SqT X.K H a xs):∃ its:List Value,Vals xs its/\IsTup s.heap a its.toArray/\xs.length<=sizeLine:=by
 rcases h with h|⟨o,its,n,hk,hc,hs,hz,r⟩
 .obtain⟨z,its,r,p⟩:=h.ok I.hok
  exact⟨its,r,p,z⟩
 .refine⟨its.toList,r,⟨o,I.kIn a o hk,hc,n,by simpa using hs⟩,?_⟩
  have e:=r.length
  simp only[length_toList]at e
  omega
theorem Inv.list_inj(I:Inv X pins σ H s)(h:SqL X.K H a xs)(h':SqL X.K H a ys):xs=ys:=by
 obtain⟨its,r,⟨o,n,e,_,_,d⟩,_⟩:=I.list h
 obtain⟨its',r',⟨o',n',e',_,_,d'⟩,_⟩:=I.list h'
 rw[e]at e';cases e'
 rw[d]at d'
 injection d' with d1 _
 have:its=its':=by simpa using congrArg Array.toList d1
 subst this
 exact r.inj r'
theorem Inv.tuple_inj(I:Inv X pins σ H s)(h:SqT X.K H a xs)(h':SqT X.K H a ys):xs=ys:=by
 obtain⟨its,r,⟨o,e,_,n,d⟩,_⟩:=I.tuple h
 obtain⟨its',r',⟨o',e',_,n',d'⟩,_⟩:=I.tuple h'
 rw[e]at e';cases e'
 rw[d]at d'
 injection d' with d1 _
 have:its=its':=by simpa using congrArg Array.toList d1
 subst this
 exact r.inj r'
end
abbrev Cx.wish(X:Cx)(E:Value->Shared->Prop):Cx:= {X with xe:=E}
abbrev Cx.nox(X:Cx):Cx:=X.wish λ_ _=>False
theorem Cx.Ok.wish(ok:X.Ok)(E:Value->Shared->Prop):(X.wish E).Ok:=
 ⟨ok.mod,ok.kind,ok.glob,ok.blt,ok.above,ok.inj,ok.has,ok.cab,ok.hd,ok.frames,ok.stk,ok.exf,ok.bs,ok.bsz,ok.noex,ok.exfs,ok.funs,ok.frf⟩
theorem Cx.Ok.unwish(ok:(X.wish E).Ok):X.Ok:=
 ⟨ok.mod,ok.kind,ok.glob,ok.blt,ok.above,ok.inj,ok.has,ok.cab,ok.hd,ok.frames,ok.stk,ok.exf,ok.bs,ok.bsz,ok.noex,ok.exfs,ok.funs,ok.frf⟩
theorem Inv.wish(I:Inv X pins σ H s)(E:Value->Shared->Prop):Inv (X.wish E) pins σ H s:=⟨I.ok.wish E,I.os,I.bare,I.base,I.loc,I.cell,I.free,I.freeC,I.pin,I.hok,I.len⟩
theorem Inv.unwish(I:Inv (X.wish E) pins σ H s):Inv X pins σ H s:=⟨I.ok.unwish,I.os,I.bare,I.base,I.loc,I.cell,I.free,I.freeC,I.pin,I.hok,I.len⟩
theorem SP.unwish{D:Ends}{f:Flow}(h:SP (X.wish E) pins D f s'):SP X pins D f s':=by
 cases f with
 |next=>obtain⟨σ',H',I,q⟩:=h;exact⟨σ',H',I.unwish,q⟩
 |brk=>obtain⟨σ',H',I,q⟩:=h;exact⟨σ',H',I.unwish,q⟩
 |cont=>obtain⟨σ',H',I,q⟩:=h;exact⟨σ',H',I.unwish,q⟩
 |ret u=>obtain⟨v,σ',H',I,r,q⟩:=h;exact⟨v,σ',H',I.unwish,r,q⟩
theorem PT.nox{t:TT}(h:PT X.nox e t):PT X e t:=λpins s σ H Q I hw=>
 wpAny_mono (h pins s σ H Q (I.wish _) hw) (λ_ _ ⟨H',I',q⟩=>⟨H',I'.unwish,q⟩) λ_ _ z=>False.elim z
theorem PSs.nox{st:List Stmt}{t:TS}(h:PSs X.nox st t):PSs X st t:=λpins s σ H D I hw=>
 wpAny_mono (h pins s σ H D (I.wish _) hw) (λ_ _ q=>q.unwish) λ_ _ z=>False.elim z
variable{te:TE}
section
variable {st:Stmt}{rest:List Stmt}{t u:TS}
def E6:TS:=λD σ H=>D.nx σ H
def Aa0(t u:TS):TS:=λD σ H=>t {D with nx:=u D} σ H
theorem PF:PSs X [] E6:=λ_ _ σ H _ I h=>wpAny_execs_nil ⟨σ,H,I,h⟩
theorem Jt(h1:PS X st t)(h2:PSs X rest u):PSs X (st::rest) (Aa0 t u):=by
 intro pins s σ H D I h
 refine wpAny_execs_cons (thn (h1 pins s σ H {D with nx:=u D} I h) λf s1 q=>?_)
 cases f with
 |next=>
  obtain⟨σ',H',I',q⟩:=q
  exact h2 pins s1 σ' H' D I' q
 |ret v=>exact q
 |brk=>exact q
 |cont=>exact q
theorem Zx(h1:PS X st t):PSs X [st] t:=by
 intro pins s σ H D I h
 refine wpAny_execs_cons (thn (h1 pins s σ H D I h) λf s1 q=>?_)
 cases f with
 |next=>exact wpAny_execs_nil q
 |ret v=>exact q
 |brk=>exact q
 |cont=>exact q
theorem Inv.quiet(I:Inv X pins σ H s):interactive X.env=false:=by simp[interactive,I.ok.kind]
def A6(te:TE):TS:=λD σ H=>te σ H λ_ H1=>D.nx σ H1
theorem Wo(he:PE X e te)(hs:swapsWith e none pos.line X.env=pure false:=by rfl):PS X (.Expr e pos) (A6 te):=by
 intro pins s σ H D I h
 exact wpAny_Expr_any (thn (he pins s σ H _ I h) λv s1 ⟨x,H1,I1,r1,q1⟩=>⟨σ,H1,I1,q1⟩) I.quiet hs
def Z9(te:TE):TS:=λD σ H=>te σ H D.rt
theorem ZC(he:PE X e te):PS X (.Return (some e) pos) (Z9 te):=by
 intro pins s σ H D I h
 exact wpAny_Return_some (thn (he pins s σ H _ I h) λv s1 ⟨x,H1,I1,r1,q1⟩=>⟨x,σ,H1,I1,r1,q1⟩)
def V9(c:TT)(t u:TS):TS:=λD σ H=>c σ H λb H1=>if b=true then t D σ H1 else u D σ H1
theorem K5{a b:List Stmt}{tc:TT}(hc:PT X c tc)(ha:PSs X a t)(hb:PSs X b u):PS X (.If c a b pos) (V9 tc t u):=by
 intro pins s σ H D I h
 refine wpAny_If (thn (hc pins s σ H _ I h) λd s1 ⟨H1,I1,q1⟩=>?_)
 cases d with
 |true=>exact ha pins s1 σ H1 D I1 q1
 |false=>exact hb pins s1 σ H1 D I1 q1
end
abbrev TG:=V->St->Hp->(St->Hp->Prop)->Prop
abbrev JQ:=List V->St->Hp->(St->Hp->Prop)->Prop
def PG(X:Cx)(target:Expr)(t:TG):Prop:=
 ∀ (pins:List (Addr×Obj)) (s:Shared) (σ:St) (H:Hp) (v:V) (u:Value) (Q:St->Hp->Prop),Inv X pins σ H s->RelV v u->t v σ H Q->
  wpAny (model X.prog X.w) X.A (assign target X.env u) (λ_ s'=>∃ σ' H',Inv X pins σ' H' s'/\Q σ' H') X.xe s
def PGs(X:Cx)(ts:List Expr)(t:JQ):Prop:=
 ∀ (pins:List (Addr×Obj)) (s:Shared) (σ:St) (H:Hp) (vs:List V) (us:List Value) (Q:St->Hp->Prop),Inv X pins σ H s->Vals vs us->t vs σ H Q->
  wpAny (model X.prog X.w) X.A (assignInOrder ((assignEach ts X.env).map (·.2)) us) (λ_ s'=>∃ σ' H',Inv X pins σ' H' s'/\Q σ' H') X.xe s
variable{es:List Expr}{k n:Nat}{tg:Expr}{g:TG}{pos':Pos}
def OL(i:Nat):TG:=λv σ H Q=>Q (σ.set i (some v)) H
theorem GU(hN:X.N.Nodup)(hi:X.N[i]? =some x)(hx:UJ X.env.scope x)(hf:X.fn x=true\/X.env.scope.names.lookup x=some .local:=by first|exact .inl rfl|exact .inr rfl|assumption):PG X (.Name x pos) (OL i):=by
 intro pins s σ H v u Q I r h
 exact wpAny_assign_Name (Yt I hN hi hx r (λs' I'=>⟨_,H,I',h⟩) hf)
def J8:JQ:=λvs σ H Q=>vs= []/\Q σ H
def S4(t:TG)(u:JQ):JQ:=λvs σ H Q=>∃ v r,vs=v::r/\t v σ H λσ' H'=>u r σ' H' Q
theorem HU:PGs X [] J8:=by
 intro pins s σ H vs us Q I r h
 obtain⟨e,h⟩:=h
 subst e
 cases r
 exact assignInOrder_nil ⟨σ,H,I,h⟩
theorem VN{t:TG}{u:JQ}(h1:PG X e t)(h2:PGs X es u)(hs:(assignEach (e::es) X.env).map (·.2)=assign e X.env::(assignEach es X.env).map (·.2):=by rfl):PGs X (e::es) (S4 t u):=by
 intro pins s σ H vs us Q I r h
 obtain⟨v,vr,e1,h⟩:=h
 subst e1
 cases r with
 |cons r rr=>
  rw[hs]
  refine assignInOrder_cons (thn (h1 pins s σ H _ _ _ I r h) λ_ s1 ⟨σ1,H1,I1,q1⟩=>?_)
  exact h2 pins s1 σ1 H1 _ _ Q I1 rr q1
def K8(K:Frag)(n:Nat)(t:JQ):TG:=λv σ H Q=>∃ a xs,v=.ref a/\SqT K H a xs/\xs.length=n/\t xs σ H Q
theorem T0{t:JQ}(hc:X.calm=true)(h:PGs X es t)(hn:(assignEach es X.env).length=n:=by rfl)(hst:(assignEach es X.env).findIdx? (·.1)=none:=by rfl):PG X (.Tuple es k pos) (K8 X.K n t):=by
 intro pins s σ H v u Q I r hw
 obtain⟨a,xs,e1,hq,hl,hw⟩:=hw
 subst e1
 cases r
 obtain⟨its,rv,ht,hz⟩:=I.tuple hq
 refine assign_Tuple_tuple (I.ok.hd hc) ht (by simp[hn,<-hl,rv.length]) hst λh' hx=>?_
 have I1:Inv X pins σ H {s with heap:=h'}:=I.kept (t':=s.toks) λb o e=>hx b o (ne_of_lt (lt_size e)) e
 exact h pins _ σ H xs _ Q I1 (by simpa using rv) hw
def W5(te:TE)(g:TG):TS:=λD σ H=>te σ H λx H1=>g x σ H1 D.nx
theorem Y0(he:PE X e te)(hg:PG X tg g)(hs:swapsWithSole [tg] e pos.line X.env=pure false:=by rfl)(hw:swappedStores [tg] e X.env=pure none:=by rfl)(h1:(assignEach [tg] X.env).map (·.2)= [assign tg X.env]:=by rfl):PS X (.Assign [tg] e pos) (W5 te g):=by
 intro pins s σ H D I h
 refine wpAny_Assign_stores (thn (he pins s σ H _ I h) λv s1 ⟨x,H1,I1,r1,q1⟩=>?_) hs hw
 rw[h1]
 exact thn (hg pins s1 σ H1 x v _ I1 r1 q1) λ_ s2 q=>q
theorem AD(hN:X.N.Nodup)(hi:X.N[i]? =some x)(hx:UJ X.env.scope x)(he:PE X e te)(hs:swapsWith e (some (.Name x pos')) pos.line X.env=pure false:=by rfl)(hf:X.fn x=true\/X.env.scope.names.lookup x=some .local:=by first|exact .inl rfl|exact .inr rfl|assumption):
  PS X (.Assign [.Name x pos'] e pos) (W5 te (OL i)):=by
 intro pins s σ H D I h
 refine wpAny_Assign_Name (thn (he pins s σ H _ I h) λv s1 ⟨y,H1,I1,r1,q1⟩=>?_) hs
 exact Yt I1 hN hi hx r1 (λs2 I2=>⟨_,H1,I2,q1⟩) hf
structure It where
 go:Nat->Hp->Prop
 yld:Nat->Hp->V->Hp->Prop
 stop:Nat->Hp->Prop
def Mn(X:Cx)(pins:List (Addr×Obj))(H:Hp)(b:Addr):Prop:=
 H b=none/\b≠X.env.locals/\b∉X.fs/\(b∈X.ex\/X.s₀.heap.objs.size<=b)/\(∀ x c,X.env.cells.lookup x=some c->c≠b)/\∀ p∈X.pn++pins,p.1≠b
theorem Inv.fpOk(I:Inv X pins σ H s)(hb:s.heap.objs.size<=b)(hn:H' b=none):Mn X pins H' b:=by
 refine⟨hn,ne_of_gt (lt_of_lt_of_le I.lt hb),I.nofs hb,.inr (le_trans I.sz hb),λx c e z=>?_,λp hp z=>?_⟩
 .obtain⟨v,q⟩:=I.cell x c e
  exact absurd (lt_of_lt_of_le q.lt (by rw[z];exact hb)) (lt_irrefl _)
 .exact absurd (lt_of_lt_of_le (lt_size (I.pin p hp).1) (by rw[z];exact hb)) (lt_irrefl _)
structure Turn(P:Program)(w:World)(K:Frag)(tg:Expr)(J:It)(fp:List Addr)(it:Addr)(tn:Nat->Heap->Prop):Prop where
 mem:it∈fp
 obj:∀ i h,tn i h->∀ b∈fp,∃ o,h.get? b=some o/\∀ v,o.data≠ .cell v
 keep:∀ i h h',tn i h->(∀ b∈fp,∀ o,h.get? b=some o->h'.get? b=some o)->tn i h'
 item:∀ (X:Cx),X.prog=P->X.w=w->X.K=K->X.calm=true->∀ (i:Nat) (pins:List (Addr×Obj)) (s:Shared) (σ:St) (H:Hp) (E:Value->Shared->Prop),Inv X pins σ H s->(∀ b∈fp,Mn X pins H b)->tn i s.heap->J.go i H->
  wpAny (model P w) X.A (pyNext (.ref it)) (λr s1=>∃ u,r=some u/\
   wpAny (model P w) X.A (letOwnedTupleGo tg (.ref it) u) (λ_ s2=>∃ x H',Inv X pins σ H' s2/\RelV x u/\J.yld i H x H'/\tn (i+1) s2.heap/\∀ b∈fp,H' b=none) E s1) E s
 done:∀ (X:Cx),X.prog=P->X.w=w->X.K=K->X.calm=true->∀ (i:Nat) (pins:List (Addr×Obj)) (s:Shared) (σ:St) (H:Hp) (E:Value->Shared->Prop),Inv X pins σ H s->(∀ b∈fp,Mn X pins H b)->tn i s.heap->J.stop i H->
  wpAny (model P w) X.A (pyNext (.ref it)) (λr s1=>r=none/\Inv X pins σ H s1) E s
 self:∀ (A:Around) (i:Nat) (s:Shared) (Q:Value->Shared->Prop) (E:Value->Shared->Prop),tn i s.heap->Q (.ref it) s->wpAny (model P w) A (pyIter (.ref it)) Q E s
abbrev TI:=St->Hp->(It->Hp->Prop)->Prop
def R7(X:Cx)(pins:List (Addr×Obj))(σ:St)(tg:Expr)(R:It->Hp->Prop)(itv:Value)(s2:Shared):Prop:=
 ∃ (it:Addr) (fp:List Addr) (tn:Nat->Heap->Prop) (J:It) (H':Hp),itv=.ref it/\Inv X pins σ H' s2/\Turn X.prog X.w X.K tg J fp it tn/\tn 0 s2.heap/\(∀ b∈fp,Mn X pins H' b)/\R J H'
def PI(X:Cx)(tg iter:Expr)(wi:TI):Prop:=
 ∀ (pins:List (Addr×Obj)) (s:Shared) (σ:St) (H:Hp) (R:It->Hp->Prop),Inv X pins σ H s->wi σ H R->
  wpAny (model X.prog X.w) X.A (eval iter X.env) (λv s1=>wpAny (model X.prog X.w) X.A (pyIter v) (R7 X pins σ tg R) X.xe s1) X.xe s
theorem Nz{E : Value -> Shared -> Prop}{n : String}{vs : Array Value}{Q : Unit -> Shared -> Prop}(ho : s.heap.get? it = some o)(hc : o.cls = .type n)(hd : o.data = .fields vs)(hn : ["enumerate", "zip", "dict_itemiterator", "dict_reverseitemiterator", "odict_iterator", "itertools.zip_longest", "itertools.pairwise"].contains n = false)(hQ : Q () s) : wpAny M A (letOwnedTupleGo tg (.ref it) u) Q E s := by
  unfold letOwnedTupleGo
  cases tg <;> first
    | exact wpAny_pure hQ
    | (cases u <;> first
        | exact wpAny_pure hQ
        | (refine wpAny_bind (wpAny_load ho ?_)
           rw[hc, hd]
           show wpAny M A (if(["enumerate", "zip", "dict_itemiterator", "dict_reverseitemiterator", "odict_iterator", "itertools.zip_longest", "itertools.pairwise"].contains n && vs[0]? == some (rawInt _)) = true then _ else _) Q E s
           rw[if_neg (by intro h; rw[hn, Bool.false_and]at h; cases h)]
           exact wpAny_pure hQ))
def O7(K:Frag)(a:Addr):It:=
 ⟨λi H=>∃ xs x,SqL K H a xs/\xs[i]? =some x,λi H x H'=>H'=H/\∀ xs,SqL K H a xs->xs[i]? =some x,λi H=>∃ xs,SqL K H a xs/\xs.length<=i⟩
def P7(K:Frag)(a:Addr):It:=
 ⟨λi H=>∃ xs x,SqT K H a xs/\xs[i]? =some x,λi H x H'=>H'=H/\∀ xs,SqT K H a xs->xs[i]? =some x,λi H=>∃ xs,SqT K H a xs/\xs.length<=i⟩
def Itr(lo:Int)(n:Nat):It:=⟨λi _=>i<n,λi H x H'=>H'=H/\x=.int (lo+i),λi _=>n<=i⟩
theorem KJ(a it:Addr):Turn P w K tg (O7 K a) [it] it (λi h=>h.IsListIter it a i) where
 mem:=by simp
 obj:=λi h st b hb=>by
  have e:b=it:=by simpa using hb
  subst e
  obtain⟨o,e,c,d⟩:=st
  exact⟨o,e,λv z=>by rw[d]at z;cases z⟩
 keep:=λi h h' st k=>st.at λo e=>k it (by simp) o e
 item:=by
  intro X hP hw hK hc i pins s σ H E I hf st hg
  subst hP hw hK
  obtain⟨xs,x,hq,hx⟩:=hg
  obtain⟨its,rv,p,hz⟩:=I.list hq
  obtain⟨u,hu,ru⟩:=rv.get hx
  obtain⟨f0,f1,f2,f3,f4,f5⟩:=hf it (by simp)
  refine wpAny_pyNext_list_item st p.isList (x:=u) (by simpa using hu) λh' st' sb=>?_
  have I1:Inv X pins σ H {s with heap:=h'}:=I.turned (t':=s.toks) (λb o hb e=>(sb.2 b hb).trans e) f0 f1 f3 f4 f5
  obtain⟨o,e,c,d⟩:=id st'
  exact⟨u,rfl,Nz (s:= {s with heap:=h'}) e c d (by decide) ⟨x,H,I1,ru,⟨rfl,λys hy=>by rw[I.list_inj hy hq];exact hx⟩,st',λb hb=>(hf b hb).1⟩⟩
 done:=by
  intro X hP hw hK hc i pins s σ H E I hf st hg
  subst hP hw hK
  obtain⟨xs,hq,hx⟩:=hg
  obtain⟨its,rv,p,hz⟩:=I.list hq
  obtain⟨f0,f1,f2,f3,f4,f5⟩:=hf it (by simp)
  have hl:=rv.length
  exact wpAny_pyNext_list_end (I.ok.hd hc) st p.isList (by simp;omega) λh' eb=>⟨rfl,I.turned (t':=s.toks) (λb o hb e=>eb b o hb e) f0 f1 f3 f4 f5⟩
 self:=λ_ _ _ _ _ st h=>wpAny_pyIter_listiter st h
theorem UD(a it:Addr):Turn P w K tg (P7 K a) [it] it (λi h=>h.IsTupleIter it a i) where
 mem:=by simp
 obj:=λi h st b hb=>by
  have e:b=it:=by simpa using hb
  subst e
  obtain⟨o,e,c,d⟩:=st
  exact⟨o,e,λv z=>by rw[d]at z;cases z⟩
 keep:=λi h h' st k=>st.at λo e=>k it (by simp) o e
 item:=by
  intro X hP hw hK hc i pins s σ H E I hf st hg
  subst hP hw hK
  obtain⟨xs,x,hq,hx⟩:=hg
  obtain⟨its,rv,p,hz⟩:=I.tuple hq
  obtain⟨u,hu,ru⟩:=rv.get hx
  obtain⟨f0,f1,f2,f3,f4,f5⟩:=hf it (by simp)
  refine wpAny_pyNext_tuple_item st (show s.heap.IsTuple a its.toArray from p) (x:=u) (by simpa using hu) λh' st' sb=>?_
  have I1:Inv X pins σ H {s with heap:=h'}:=I.turned (t':=s.toks) (λb o hb e=>(sb.2 b hb).trans e) f0 f1 f3 f4 f5
  obtain⟨o,e,c,d⟩:=id st'
  exact⟨u,rfl,Nz (s:= {s with heap:=h'}) e c d (by decide) ⟨x,H,I1,ru,⟨rfl,λys hy=>by rw[I.tuple_inj hy hq];exact hx⟩,st',λb hb=>(hf b hb).1⟩⟩
 done:=by
  intro X hP hw hK hc i pins s σ H E I hf st hg
  subst hP hw hK
  obtain⟨xs,hq,hx⟩:=hg
  obtain⟨its,rv,p,hz⟩:=I.tuple hq
  obtain⟨f0,f1,f2,f3,f4,f5⟩:=hf it (by simp)
  have hl:=rv.length
  exact wpAny_pyNext_tuple_end (I.ok.hd hc) st (show s.heap.IsTuple a its.toArray from p) (by simp;omega) λh' eb=>⟨rfl,I.turned (t':=s.toks) (λb o hb e=>eb b o hb e) f0 f1 f3 f4 f5⟩
 self:=λ_ _ _ _ _ st h=>wpAny_pyIter_tupleiter st h
theorem TD(it:Addr)(lo:Int)(n:Nat):Turn P w K tg (Itr lo n) [it] it (λi h=>IsRangeIter h it (lo+(i:Nat)*1) ((n:Int)-(i:Nat)) 1) where
 mem:=by simp
 obj:=λi h st b hb=>by
  have e:b=it:=by simpa using hb
  subst e
  exact⟨_,st,λv z=>by
   have z':Data.fields _=Data.cell v:=z
   cases z'⟩
 keep:=λi h h' st k=>k it (by simp) _ st
 item:=by
  intro X hP hw hK hc i pins s σ H E I hf st hg
  subst hP hw hK
  obtain⟨f0,f1,f2,f3,f4,f5⟩:=hf it (by simp)
  have W:=Walks.range (prog:=X.prog) (w:=X.w) (I.ok.hd hc) it lo 1 n
  refine W.item i s _ _ hg st λv h' tk hv st' kk=>?_
  obtain⟨t,rfl⟩:=hv
  have I1:Inv X pins σ H {s with heap:=h',toks:=tk}:=I.turned (λb o hb e=>kk b o (by simpa using hb) e) f0 f1 f3 f4 f5
  refine⟨_,rfl,Nz (s:= {s with heap:=h',toks:=tk}) (n:="range_iterator") st' rfl rfl (by decide) ⟨.int (lo+i),H,I1,⟨t,?_⟩,⟨rfl,rfl⟩,st',λb hb=>(hf b hb).1⟩⟩
  rw[Int.mul_one]
 done:=by
  intro X hP hw hK hc i pins s σ H E I hf st hg
  subst hP hw hK
  obtain⟨f0,f1,f2,f3,f4,f5⟩:=hf it (by simp)
  exact wpAny_pyNext_range_end (I.ok.hd hc) st (by have:n<=i:=hg;omega) λh' eb=>⟨rfl,I.turned (t':=s.toks) (λb o hb e=>eb b o hb e) f0 f1 f3 f4 f5⟩
 self:=λ_ _ _ _ _ st h=>wpAny_pyIter_rangeiter st h
variable{fp:List Addr}{body:List Stmt}
theorem BO{R:It->Hp->Prop}{lo hi:Int}{t u v:Tok}{tk:Nat}(I:Inv X pins σ H s)(h1: -(2^62)<=lo)(h2:lo<2^62)(h3: -(2^62)<=hi)(h4:hi<2^62)(q:R (Itr lo (hi-lo).toNat) H):wpAny (model X.prog X.w) X.A (pyIter (.ref s.heap.objs.size)) (R7 X pins σ tg R) E {s with heap:=s.heap.push {cls:=.type "range",data:=.fields #[.int lo t,.int hi u,.int 1 v]},toks:=tk}:=by
 refine wpAny_pyIter_range (IsRange.new ..) (small_one h1 h2 h3 h4) ?_
 have I1:Inv X pins σ H {s with heap:=s.heap.push {cls:=.type "range",data:=.fields #[.int lo t,.int hi u,.int 1 v]},toks:=tk}:=I.kept λb o e=>get?_push_of_some _ e
 refine⟨(s.heap.push {cls:=.type "range",data:=.fields #[.int lo t,.int hi u,.int 1 v]}).objs.size,[(s.heap.push {cls:=.type "range",data:=.fields #[.int lo t,.int hi u,.int 1 v]}).objs.size],_,_,H,rfl,
  I1.kept (t':=tk) λb o e=>get?_push_of_some _ e,TD _ lo (hi-lo).toNat,?_,λb hb=>?_,q⟩
 .have e1:lo+((0:Nat):Int)*1=lo:=by simp
  have e2:(((hi-lo).toNat:Nat):Int)-((0:Nat):Int)=Builtin.Range.rangeSize lo hi 1:=by rw[rangeSize_one];split<;>omega
  show IsRangeIter _ _ (lo+((0:Nat):Int)*1) ((((hi-lo).toNat:Nat):Int)-((0:Nat):Int)) 1
  rw[e1,e2]
  exact get?_push_size _ rfl
 .have e:b=(s.heap.push {cls:=.type "range",data:=.fields #[.int lo t,.int hi u,.int 1 v]}).objs.size:=by simpa using hb
  subst e
  exact I1.fpOk (le_refl _) (I1.hok.fresh (le_refl _))
def U4(ta:TA):TI:=λσ H R=>ta σ H λvs H1=>∃ j:Int,vs= [.int j]/\ -(2^62)<=j/\j<2^62/\R (Itr 0 j.toNat) H1
theorem KI{ta:TA}{p:Pos}(hg:Gl X "range")(hm:X.mg "range"=none)(ha:PA X [a] ta)(hs:starEach [a] X.env= [(false,eval a X.env)]:=by rfl):PI X tg (.Call (.Name "range" p) [a] [] pos) (U4 ta):=by
 intro pins s σ H R I h
 refine Call_ (Sn I hg hm boot_range (PyProof.Rows.callWith_type1 (thn (ha pos pins s σ H _ I h) λus s1 ⟨vs,H1,I1,r1,q1⟩=>?_) hs rfl))
 obtain⟨j,e,q1,q2,q⟩:=q1
 subst e
 cases r1 with
 |cons r rr=>
  cases rr
  obtain⟨t,rfl⟩:=r
  exact call_range_1 (BO I1 (by omega) (by omega) q1 q2 (by simpa using q))
def T9(wi:TI)(g:TG)(tb:TS):TS:=λD σ H=>wi σ H λJ H1=>∃ W:Nat->Nat->St->Hp->Prop,(∃ m,W 0 m σ H1)/\∀ i m σ H,W i m σ H->
 (J.stop i H/\D.nx σ H)\/(J.go i H/\∃ N:St->Hp->Prop,(∀ σ' H',N σ' H'->∃ m',m'<m/\W (i+1) m' σ' H')/\∀ x H',J.yld i H x H'->g x σ H' λσ2 H2=>tb {D with nx:=N,ct:=N,bk:=D.nx} σ2 H2)
def Ht(fp:List Addr)(h:Heap):List (Addr×Obj):=fp.filterMap λb=>(h.get? b).map λo=>(b,o)
theorem Jk{h:Heap}(hb:b∈fp)(e:h.get? b=some o):(b,o)∈Ht fp h:=mem_filterMap.mpr ⟨b,hb,by rw[e];rfl⟩
theorem HI{h:Heap}{p:Addr×Obj}(hp:p∈Ht fp h):p.1∈fp/\h.get? p.1=some p.2:=by
 obtain⟨b,hb,e⟩:=mem_filterMap.mp hp
 cases q:h.get? b with
 |none=>rw[q]at e;cases e
 |some o=>
  rw[q]at e
  have e':(b,o)=p:=Option.some.inj e
  subst e'
  exact⟨hb,q⟩
theorem Inv.pinned(I:Inv X pins σ H s)(hf:∀ b∈fp,Mn X pins H b)(ho:∀ b∈fp,∃ o,s.heap.get? b=some o/\∀ v,o.data≠ .cell v):Inv X (pins++Ht fp s.heap) σ H s:=
 I.pins_of λp hp=>(mem_append.mp hp).elim (λz=>I.pin p (mem_append_right _ z)) λz=>by
  obtain⟨hb,e⟩:=HI z
  obtain⟨f0,f1,f2,_⟩:=hf p.1 hb
  obtain⟨o,e',d⟩:=ho p.1 hb
  rw[e]at e';cases e'
  exact⟨e,f0,f1,f2,d⟩
theorem Inv.unpinned{pl:List (Addr×Obj)}(I:Inv X (pins++pl) σ H s):Inv X pins σ H s:=I.pins_of λp hp=>I.pin p (mem_append_right _ (mem_append_left _ hp))
theorem A1{iter:Expr}{wi:TI}{tb:TS}(hp:PassesOwn (model X.prog X.w) X.A X.env X.xe)(hc:X.calm=true)(hi:PI X tg iter wi)(hg:PG X tg g)(hb:PSs X body tb)(hs:∀ x,foldedSetIterable iter X.env x=pure x:=by intro _;rfl):PS X (.For tg iter body [] pos) (T9 wi g tb):=by
 intro pins s σ H D I h
 refine wpAny_For (thn (hi pins s σ H _ I h) λv s1 h1=>thn h1 λitv s2 h2=>?_) hs
 obtain⟨it,fp,tn,J,H2,e,I2,T,st2,f2,W,⟨m0,w0⟩,turn⟩:=h2
 subst e
 have stat:∀ {H':Hp},(∀ b∈fp,H' b=none)->∀ b∈fp,Mn X pins H' b:=λhn b hb=>⟨hn b hb,(f2 b hb).2⟩
 refine codeAny_forLoop_any (λn s'=>∃ i σ' H',Inv X pins σ' H' s'/\tn i s'.heap/\(∀ b∈fp,H' b=none)/\W i n σ' H') ?_ m0 ⟨0,σ,H2,I2,st2,λb hb=>(f2 b hb).1,w0⟩
 rintro n s3 ⟨i,σ3,H3,I3,st3,fr3,w3⟩
 rcases turn i n σ3 H3 w3 with⟨stop,qn⟩|⟨go,N,hN,step⟩
 .refine wpAny_passesOwn hp (thn (T.done X rfl rfl rfl hc i pins s3 σ3 H3 X.xe I3 (stat fr3) st3 stop) λr s4 ⟨hr,I4⟩=>?_)
  subst hr
  exact wpAny_execs_nil ⟨σ3,H3,I4,qn⟩
 .refine wpAny_passesOwn hp (thn (T.item X rfl rfl rfl hc i pins s3 σ3 H3 X.xe I3 (stat fr3) st3 go) λr s4 ⟨u,hr,h4⟩=>?_)
  subst hr
  refine wpAny_passesOwn hp (thn h4 λ_ s5 ⟨x,H5,I5,r5,y5,st5,fr5⟩=>?_)
  have I5':=I5.pinned (stat fr5) (T.obj _ _ st5)
  refine wpAny_passesOwn hp (thn (hg _ s5 σ3 H5 x u _ I5' r5 (step x H5 y5)) λ_ s6 ⟨σ6,H6,I6,q6⟩=>?_)
  refine wpAny_passesOwn hp (thn (hb _ s6 σ6 H6 _ I6 q6) λf s7 q7=>?_)
  have again:∀ {σ7:St} {H7:Hp},Inv X (pins++Ht fp s5.heap) σ7 H7 s7->N σ7 H7->∃ m,m<n/\∃ i σ' H',Inv X pins σ' H' s7/\tn i s7.heap/\(∀ b∈fp,H' b=none)/\W i m σ' H':=λ{σ7 H7} I7 n7=>by
   obtain⟨m',hm,w7⟩:=hN σ7 H7 n7
   refine⟨m',hm,i+1,σ7,H7,I7.unpinned,T.keep _ _ _ st5 λb hb o e=>(I7.pin (b,o) (mem_append_right _ (mem_append_right _ (Jk hb e)))).1,λb hb=>?_,w7⟩
   obtain⟨o,e,d⟩:=T.obj _ _ st5 b hb
   exact(I7.pin (b,o) (mem_append_right _ (mem_append_right _ (Jk hb e)))).2.1
  cases f with
  |next=>obtain⟨σ7,H7,I7,n7⟩:=q7;exact again I7 n7
  |cont=>obtain⟨σ7,H7,I7,n7⟩:=q7;exact again I7 n7
  |brk=>obtain⟨σ7,H7,I7,q7⟩:=q7;exact⟨σ7,H7,I7.unpinned,q7⟩
  |ret v=>obtain⟨x7,σ7,H7,I7,r7,q7⟩:=q7;exact⟨x7,σ7,H7,I7.unpinned,r7,q7⟩
abbrev R2:=V->V->Hp->VK->Prop
def OpR(X:Cx)(f:Value->Value->Sem Value)(r:R2):Prop:=
 ∀ (pins:List (Addr×Obj)) (s:Shared) (σ:St) (H:Hp) (x y:V) (v u:Value) (Q:VK),Inv X pins σ H s->RelV x v->RelV y u->r x y H Q->
  wpAny (model X.prog X.w) X.A (f v u) (EP X pins σ Q) X.xe s
def CallR(X:Cx)(f:Value)(r:List V->Hp->VK->Prop):Prop:=
 ∀ (pins:List (Addr×Obj)) (s:Shared) (σ:St) (H:Hp) (xs:List V) (us:List Value) (Q:VK),Inv X pins σ H s->Vals xs us->r xs H Q->
  wpAny (model X.prog X.w) X.A (call f us) (EP X pins σ Q) X.xe s
def K3(r:R2)(ta tb:TE):TE:=λσ H Q=>ta σ H λx H1=>tb σ H1 λy H2=>r x y H2 Q
def rI(C:Int->Int->Prop)(g:Int->Int->V):R2:=λx y H Q=>∃ i j,x=.int i/\y=.int j/\C i j/\Q (g i j) H
def GW(g:Int->Int->V):R2:=λx y H Q=>∃ i j,x=.int i/\y=.int j/\Q (g i j) H
variable{b:Expr}{f:Value->Value->Sem Value}{tc:TE}{g:Int->Int->Int}{r:R2}
theorem AK(ha:PE X a ta)(hb:PE X b tb){R:V->V->Hp->Prop}(I:Inv X pins σ H s)(h:ta σ H λx H1=>tb σ H1 λy H2=>R x y H2)(hf:∀ v u s2 x y H2,Inv X pins σ H2 s2->RelV x v->RelV y u->R x y H2->wpAny (model X.prog X.w) X.A (f v u) Q X.xe s2):
  wpAny (model X.prog X.w) X.A (eval a X.env) (λv s₁=>wpAny (model X.prog X.w) X.A (eval b X.env) (λu s₂=>wpAny (model X.prog X.w) X.A (f v u) Q X.xe s₂) X.xe s₁) X.xe s:=by
 refine thn (ha pins s σ H _ I h) λv s1 ⟨x,H1,I1,r1,q1⟩=>?_
 refine thn (hb pins s1 σ H1 _ I1 q1) λu s2 ⟨y,H2,I2,r2,q2⟩=>?_
 exact hf v u s2 x y H2 I2 r1 r2 q2
theorem FW{op:Operator}(ho:OpR X (binaryOp op) r)(ha:PE X a ta)(hb:PE X b tb):PE X (.BinOp a op b pos) (K3 r ta tb):=by
 intro pins s σ H Q I h
 exact wpAny_BinOp (AK ha hb I h λv u s2 x y H2 I2 rx ry q=>ho pins s2 σ H2 x y v u Q I2 rx ry q)
theorem E7{C:Int->Int->Prop}(rule:∀ (i j:Int) (t u:Tok) (s:Shared) (Q:Value->Shared->Prop) (E:Value->Shared->Prop),C i j->Q (.int (g i j) s.toks) {s with toks:=s.toks+1}->wpAny (model X.prog X.w) X.A (f (.int i t) (.int j u)) Q E s):
  OpR X f (rI C λi j=>.int (g i j)):=by
 intro pins s σ H x y v u Q I rx ry h
 obtain⟨i,j,rfl,rfl,hc,q⟩:=h
 obtain⟨t,rfl⟩:=rx
 obtain⟨t',rfl⟩:=ry
 exact rule i j t t' s _ _ hc ⟨.int (g i j),H,I.tok _,⟨_,rfl⟩,q⟩
theorem A5(rule:∀ (i j:Int) (t u:Tok) (s:Shared) (Q:Value->Shared->Prop) (E:Value->Shared->Prop),Q (.int (g i j) s.toks) {s with toks:=s.toks+1}->wpAny (model X.prog X.w) X.A (f (.int i t) (.int j u)) Q E s):
  OpR X f (GW λi j=>.int (g i j)):=by
 intro pins s σ H x y v u Q I rx ry h
 obtain⟨i,j,rfl,rfl,q⟩:=h
 obtain⟨t,rfl⟩:=rx
 obtain⟨t',rfl⟩:=ry
 exact rule i j t t' s _ _ ⟨.int (g i j),H,I.tok _,⟨_,rfl⟩,q⟩
theorem KT{g:Int->Int->Bool}(rule:∀ (i j:Int) (t u:Tok) (s:Shared) (Q:Value->Shared->Prop) (E:Value->Shared->Prop),Q (.bool (g i j)) s->wpAny (model X.prog X.w) X.A (f (.int i t) (.int j u)) Q E s):
  OpR X f (GW λi j=>.bl (g i j)):=by
 intro pins s σ H x y v u Q I rx ry h
 obtain⟨i,j,rfl,rfl,q⟩:=h
 obtain⟨t,rfl⟩:=rx
 obtain⟨t',rfl⟩:=ry
 exact rule i j t t' s _ _ ⟨.bl (g i j),H,I,rfl,q⟩
def J7(i j:Int):Prop:=0<j/\j<1073741824
def K7(i j:Int):Prop:=0<=j/\j<=1000000/\i.natAbs<2^64
def CMul(i j:Int):Prop:=(-(2^64)<i/\i<2^64)\/(-(2^64)<j/\j<2^64)
theorem CMul.ok{i j:Int}(h:CMul i j):IntMulOk i j:=by
 rcases h with⟨h1,h2⟩|⟨h1,h2⟩
 .exact .of_left (intBits_le_64 h1 h2)
 .exact .of_right (intBits_le_64 h1 h2)
theorem VZ:OpR X (binaryOp .Add) (GW λi j=>.int (i+j)):=A5 λ_ _ _ _ _ _ _ q=>add_int q
theorem B0:OpR X (binaryOp .Sub) (GW λi j=>.int (i-j)):=A5 λ_ _ _ _ _ _ _ q=>sub_int q
theorem YZ:OpR X (binaryOp .Mult) (rI CMul λi j=>.int (i*j)):=E7 λ_ _ _ _ _ _ _ hc q=>mul_int q hc.ok
theorem QT:OpR X (binaryOp .FloorDiv) (rI J7 λi j=>.int (i / j)):=E7 λi j _ _ _ _ _ hc q=>by
 have h1:(0:Int)<j:=hc.1
 have h2:j<1073741824:=hc.2
 exact floordiv_int (by omega) (by rw[Int.fdiv_eq_ediv_of_nonneg i (by omega)];exact q) (.inl (PyProof.noPylong_small (by omega)))
theorem XZ:OpR X (binaryOp .Mod) (rI (λ_ j=>0<j) λi j=>.int (i%j)):=E7 λi j _ _ _ _ _ hc q=>by
 have h1:(0:Int)<j:=hc
 exact mod_int' (by omega) (by rw[Int.fmod_eq_emod_of_nonneg i (by omega)];exact q)
theorem A0:OpR X (binaryOp .Pow) (rI K7 λi j=>.int (i^j.toNat)):=E7 λ_ _ _ _ _ _ _ hc q=>pow_int_small hc.1 hc.2.1 hc.2.2 q
variable{r':R2}{op':CmpOp}
theorem GY{Q:VK}{k k':Bool}(I:Inv X pins σ H s)(q:Q (.bl k) H)(e:k=k'):EP X pins σ Q (.bool k') s:=by
 subst e
 exact⟨.bl k,H,I,rfl,q⟩
theorem E5:OpR X (compareOp .Lt) (GW λi j=>.bl (decide (i<j))):=KT λ_ _ _ _ _ _ _ q=>lt_int q
theorem D5:OpR X (compareOp .LtE) (GW λi j=>.bl (decide (i<=j))):=KT λ_ _ _ _ _ _ _ q=>le_int q
theorem C5:OpR X (compareOp .Gt) (GW λi j=>.bl (decide (j<i))):=KT λ_ _ _ _ _ _ _ q=>gt_int q
theorem B5:OpR X (compareOp .GtE) (GW λi j=>.bl (decide (j<=i))):=KT λ_ _ _ _ _ _ _ q=>ge_int q
theorem Vv:OpR X (compareOp .In) (λx y H Q=>∃ i j,x=.str i/\y=.str j/\Q (.bl (!(Builtin.Str.occurrences j i 0 j.length 1).isEmpty)) H):=by
 intro pins s σ H x y v u Q I rx ry h
 obtain⟨i,j,rfl,rfl,q⟩:=h
 obtain⟨t,rfl⟩:=rx
 obtain⟨t',rfl⟩:=ry
 exact in_str (GY I q rfl)
theorem OpR.or(h:OpR X f r)(h':OpR X f r'):OpR X f (λx y H Q=>r x y H Q\/r' x y H Q):=by
 intro pins s σ H x y v u Q I rx ry q
 rcases q with q|q
 .exact h pins s σ H x y v u Q I rx ry q
 .exact h' pins s σ H x y v u Q I rx ry q
theorem CN(b:Expr)(h:op≠ .In:=by decide)(h2:op≠ .NotIn:=by decide):behindInMarks op b=false:=by
 have e1:(op==CmpOp.In)=false:=by cases op<;>first|rfl|exact absurd rfl h
 have e2:(op==CmpOp.NotIn)=false:=by cases op<;>first|rfl|exact absurd rfl h2
 cases b<;>simp[behindInMarks,e1,e2]
theorem LF(ho:OpR X (compareOp op) r)(ha:PE X a ta)(hb:PE X b tb)(hm:behindInMarks op b=false):PE X (.Compare a [op] [b] pos) (K3 r ta tb):=by
 intro pins s σ H Q I h
 exact wpAny_Compare1 (AK ha hb I h λv u s2 x y H2 I2 rx ry q=>ho pins s2 σ H2 x y v u Q I2 rx ry q) hm
def JW(t:TE):TT:=λσ H Q=>t σ H λx H'=>∃ k,x=.bl k/\Q k H'
theorem Ay(ho:OpR X (compareOp op) r)(ha:PE X a ta)(hb:PE X b tb)(hm:behindInMarks op b=false):PT X (.Compare a [op] [b] pos) (JW (K3 r ta tb)):=by
 intro pins s σ H Q I h
 refine wpAny_isTrue_Compare1 (thn (ha pins s σ H _ I h) λv s1 ⟨x,H1,I1,r1,q1⟩=>thn (hb pins s1 σ H1 _ I1 q1) λu s2 ⟨y,H2,I2,r2,q2⟩=>
  thn (ho pins s2 σ H2 x y v u _ I2 r1 r2 q2) λc s3 ⟨z,H3,I3,r3,k,e,q3⟩=>?_) hm
 subst e
 cases r3
 exact wpAny_truthy_bool ⟨H3,I3,q3⟩
def OD(r r':R2)(ta tb tc:TE):TE:=λσ H Q=>ta σ H λx H1=>tb σ H1 λy H2=>r x y H2 λz H3=>∃ k,z=.bl k/\
 (if k=true then tc σ H3 λw' H4=>r' y w' H4 Q else Q (.bl false) H3)
theorem NN(ho:OpR X (compareOp op) r)(ho':OpR X (compareOp op') r')(ha:PE X a ta)(hb:PE X b tb)(hc:PE X c tc)(hm:lastMarks [op,op'] [b,c]=false:=by with_unfolding_all rfl):PE X (.Compare a [op,op'] [b,c] pos) (OD r r' ta tb tc):=by
 intro pins s σ H Q I h
 refine Compare_chain (thn (ha pins s σ H _ I h) λv s1 ⟨x,H1,I1,r1,q1⟩=>chain_link (thn (hb pins s1 σ H1 _ I1 q1) λu s2 ⟨y,H2,I2,r2,q2⟩=>
  thn (ho pins s2 σ H2 x y v u _ I2 r1 r2 q2) λd s3 ⟨z,H3,I3,r3,k,e,q3⟩=>?_)) hm
 subst e
 cases r3
 refine wpAny_truthy_bool ?_
 cases k with
 |false=>exact ite_ff ⟨.bl false,H3,I3,rfl,q3⟩
 |true=>exact ite_tt (chain_last (thn (hc pins s3 σ H3 _ I3 q3) λw' s4 ⟨z',H4,I4,r4,q4⟩=>ho' pins s4 σ H4 y z' u w' Q I4 r2 r4 q4))
theorem AO(ho:OpR X (compareOp op) r)(ho':OpR X (compareOp op') r')(ha:PE X a ta)(hb:PE X b tb)(hc:PE X c tc)(hm:lastMarks [op,op'] [b,c]=false:=by with_unfolding_all rfl):PT X (.Compare a [op,op'] [b,c] pos) (JW (OD r r' ta tb tc)):=by
 intro pins s σ H Q I h
 refine isTrue_chain (thn (ha pins s σ H _ I h) λv s1 ⟨x,H1,I1,r1,q1⟩=>test_link (thn (hb pins s1 σ H1 _ I1 q1) λu s2 ⟨y,H2,I2,r2,q2⟩=>
  thn (ho pins s2 σ H2 x y v u _ I2 r1 r2 q2) λd s3 ⟨z,H3,I3,r3,k,e,q3⟩=>?_)) hm
 subst e
 cases r3
 refine wpAny_truthy_bool ?_
 cases k with
 |false=>
  obtain⟨k',e',q'⟩:=q3
  cases e'
  exact ite_ff ⟨H3,I3,q'⟩
 |true=>
  refine ite_tt (test_last (thn (hc pins s3 σ H3 _ I3 q3) λw' s4 ⟨z',H4,I4,r4,q4⟩=>thn (ho' pins s4 σ H4 y z' u w' _ I4 r2 r4 q4) λd' s5 ⟨z2,H5,I5,r5,k2,e2,q5⟩=>?_))
  subst e2
  cases r5
  exact wpAny_truthy_bool ⟨H5,I5,q5⟩
theorem Lx:(sizeLine:Nat)<2^63:=by rw[sizeLine_eq];decide
theorem WC:OpR X (binaryOp .Add) (λx y H Q=>∃ i j,x=.str i/\y=.str j/\i.length+j.length<=sizeLine/\Q (.str (i++j)) H):=by
 intro pins s σ H x y v u Q I rx ry h
 obtain⟨i,j,rfl,rfl,hz,q⟩:=h
 obtain⟨t,rfl⟩:=rx
 obtain⟨t',rfl⟩:=ry
 exact add_str (λt' tk=>⟨.str (i++j),H,I.tok _,⟨_,rfl⟩,q⟩) hz
theorem Kn{x:V}(r:Vals [x] us):∃ u,us= [u]/\RelV x u:=by
 cases r with
 |cons r1 r2=>cases r2;exact⟨_,rfl,r1⟩
theorem UG:CallR X (.type "int") (λxs H Q=>(∃ i,xs= [.int i]/\Q (.int i) H)\/∃ k,xs= [.bl k]/\Q (.int (if k then 1 else 0)) H):=by
 intro pins s σ H xs us Q I r h
 rcases h with⟨i,rfl,q⟩|⟨k,rfl,q⟩
 .obtain⟨u,rfl,t,rfl⟩:=Kn r
  exact call_int_int ⟨.int i,H,I,⟨_,rfl⟩,q⟩
 .obtain⟨u,rfl,r1⟩:=Kn r
  cases r1
  exact call_int_bool ⟨.int (if k then 1 else 0),H,I.tok _,⟨_,rfl⟩,q⟩
theorem Qw:CallR X (.type "str") (λxs H Q=>∃ i,xs= [.int i]/\i.natAbs.log2<1920/\Q (.str (toString i)) H):=by
 intro pins s σ H xs us Q I r h
 obtain⟨i,rfl,hz,q⟩:=h
 obtain⟨u,rfl,t,rfl⟩:=Kn r
 exact PySem.P.str_of_int hz ⟨.str _,H,I.tok _,⟨_,rfl⟩,q⟩
def Q7(K:Frag)(x:V)(H:Hp)(n:Nat):Prop:=
 match x with
 | .str y=>y.length<=sizeLine/\n=y.length
 | .byt y=>y.size<=sizeLine/\n=y.size
 | .ref p=>(∃ xs,SqL K H p xs/\n=xs.length)\/∃ xs,SqT K H p xs/\n=xs.length
 |_=>False
theorem CK:CallR X (.builtin "len") (λxs H Q=>∃ x n,xs= [x]/\Q7 X.K x H n/\Q (.int n) H):=by
 intro pins s σ H xs us Q I r h
 obtain⟨x,n,rfl,e,q⟩:=h
 obtain⟨u,rfl,rx⟩:=Kn r
 have hl:=Lx
 have hs:sizeLine=16777216:=sizeLine_eq
 cases x with
 |str y=>
  obtain⟨t,rfl⟩:=rx
  obtain⟨hy,e'⟩:y.length<=sizeLine/\n=y.length:=e
  subst e'
  exact len_str (by omega) ⟨.int _,H,I.tok _,⟨_,rfl⟩,q⟩
 |byt y=>
  obtain⟨t,rfl⟩:=rx
  obtain⟨hy,e'⟩:y.size<=sizeLine/\n=y.size:=e
  subst e'
  exact PySem.W.len_bytes (by omega) ⟨.int _,H,I.tok _,⟨_,rfl⟩,q⟩
 |ref p=>
  cases rx
  have e':(∃ xs,SqL X.K H p xs/\n=xs.length)\/∃ xs,SqT X.K H p xs/\n=xs.length:=e
  rcases e' with⟨xs,hx,e'⟩|⟨xs,hx,e'⟩
  .subst e'
   obtain⟨its,r',pl,hz⟩:=I.list hx
   have hlen:=r'.length
   exact Calls.call_len_list pl.isList (by simp only[size_toArray];omega) ⟨.int xs.length,H,I.tok _,⟨_,by simp only[size_toArray];rw[hlen]⟩,q⟩
  .subst e'
   obtain⟨its,r',pl,hz⟩:=I.tuple hx
   have hlen:=r'.length
   exact len_tuple pl (by simp only[size_toArray];omega) ⟨.int xs.length,H,I.tok _,⟨_,by simp only[size_toArray];rw[hlen]⟩,q⟩
 |_=>exact(show False from e).elim
structure ObjM(h:Heap)(x dx C:Addr)(mA:Str->Option Value):Prop where
 obj:h.get? x=some (instObj C dx)
 ns:h.Ns1 dx mA
 ne:dx≠x
variable{dx:Addr}{mA:Str->Option Value}
theorem Rv{h:Heap}(n:h.Ns1 dx mA):∃ od,h.get? dx=some od/\∀ name,lookIn name od=some (mA name):=by
 obtain⟨o,es,ep,ho,hd,hk,_,hm⟩:=n
 refine⟨o,ho,λname=>?_⟩
 have e:=hm name
 unfold nsFind findBy at e
 rw[<-Array.find?_toList]at e
 unfold lookIn
 rw[hd]
 dsimp only
 split
 .rename_i y q
  rw[q]at e
  exact congrArg some e
 .rename_i q
  rw[q]at e
  have a:es.toList.any (·.refKey)=false:=by
   rw[List.any_eq_false]
   intro y hy
   obtain⟨z,t,hkey⟩:=hk y (Array.mem_toList_iff.mp hy)
   simp[DictEntry.refKey,hkey]
  have a':¬ es.toList.any (·.refKey)=true:=by rw[a];exact Bool.false_ne_true
  rw[if_neg a']
  exact congrArg some e
variable{C:Addr}
theorem ObjM.look{h:Heap}{x:Addr}(I:ObjM h x dx C mA):∃ od,PySem.W.InstAt h x (instObj C dx) C (some od)/\∀ name,lookIn name od=some (mA name):=
 let ⟨od,ho,hl⟩:=Rv I.ns
 ⟨od,⟨I.obj,rfl,rfl,ho⟩,hl⟩
variable{prog:Program}{name:Str}{kw:List (Str×Value)}
section
variable {x f:Addr}{v:Value}
theorem CS{expr:Bool}(X:K.In s.heap)(I:ObjM s.heap x dx C mA)(hg:plainGet K C name=true)(hh:hasDictIn K C=true)(ha:findIn K (.ref C) name=some none)(hv:mA name=some v)(hv':PySem.W.handedIn v=true)(h:Q v {s with toks:=s.toks+1}):
  wpAny (model prog w) A (getAttr (.ref x) name expr) Q E s:=by
 obtain⟨od,J,hl⟩:=I.look
 exact PySem.W.get_value X J (PySem.W.plainGet_of hg).1 (PySem.W.findObj_own hh ha rfl (by rw[hl,hv])) hv' h
theorem XU{ns:List Str}{Q:Unit->Shared->Prop}(X:K.In s.heap)(I:ObjM s.heap x dx C mA)(hs:findIn K (.ref C) "__setattr__"=some (some (.builtin "object.__setattr__")))(hp:plainOver K C=true)(ht:takerIn K C name=some none)(hh:hasDictIn K C=true)(hw:PySem.Within mA ns)(hsz:ns.length<=sizeLine)(h:∀ h',ObjM h' x dx C (λy=>if y=name then some v else mA y)->SameBut dx s.heap h'->Q () {s with heap:=h',toks:=s.toks+2}):
  wpAny (model prog w) A (setAttr (.ref x) name v) Q E s:=by
 obtain⟨od,J,hl⟩:=I.look
 refine PySem.W.set_plain X J hs (PySem.W.osa_open (s:= {s with toks:=s.toks+1}) (r:=none) X J hp ht λb=>?_)
 obtain⟨cd,hc,hd'⟩:=PySem.W.any_some hh
 have hx:s.heap.get? x=some ⟨.ref C,some dx,.plain,#[]⟩:=I.obj
 refine wpAny_bind (wpAny_pure (wpAny_bind (wpAny_bind (wpAny_loadPart hx (wpAny_bind (PySem.W.Looks.here (s:= {s with toks:=s.toks+1}) (PySem.W.looks_clsIn X hc) ?_))))))
 rw[hd']
 refine wpAny_pure (a:=some dx) (wpAny_bind (wpAny_pure (wpAny_bind ?_)))
 refine wpAny_nsSet1 (s:= {s with toks:=s.toks+1}) I.ns λh' hn2 hs2=>?_
 obtain⟨oD,esD,epD,hoD,hdD,hcD⟩:=hn2.count (PySem.Within.cons name v hw)
 refine wpAny_bind (wpAny_lookBehind hoD (by rw[hdD];exact pastItsLine_dict (le_trans hcD (by rw[List.length_cons];omega))) ?_)
 exact wpAny_pure (h _ ⟨(hs2.2 _ (Ne.symm I.ne)).trans I.obj,hn2,I.ne⟩ hs2)
theorem TM{R:Result->Shared->Prop}{vs:List Value}(X:K.In s.heap)(hm:makesIn K C=true)(hi:findIn K (.ref C) "__init__"=some (some (.ref f)))(hf:typeIn K (.ref f)=some (.type "function"))(h:codeAny (model prog w) (A.under (.builtin "type.__call__" ⟨.ref C::vs,kw⟩)) (.call (.ref f) ⟨.ref (s.heap.objs.size+1)::vs,kw⟩) (PySem.W.InitBack (s.heap.objs.size+1) R)
   {s with heap:=(s.heap.push emptyDict).push (instObj C s.heap.objs.size)}):
  codeAny (model prog w) A (.call (.ref C) ⟨vs,kw⟩) R s:=by
 obtain⟨hh,g,d,t,os⟩:=s
 exact PySem.W.make_core (PySem.W.makes_of X hm) (PySem.W.looks_findIn X hi) (λself=>PySem.W.bind_fn X self hf) (.inl rfl) h
end
def Xk(f:Str)(v:V):List (Str×V)->List (Str×V)
 | []=> [(f,v)]
 |(g,x)::r=>if g=f then(g,v)::r else(g,x)::Xk f v r
theorem Tq(f g:Str)(v:V):∀ fs:List (Str×V),(Xk f v fs).lookup g=if g=f then some v else fs.lookup g
 | []=>by
  show List.lookup g [(f,v)]=_
  by_cases h:g=f
  .have hb:(g==f)=true:=beq_iff_eq.mpr h
   simp only[List.lookup,hb,if_pos h]
  .have hb:(g==f)=false:=beq_eq_false_iff_ne.mpr h
   simp only[List.lookup,hb,if_neg h]
 |(k,x)::r=>by
  have ih:=Tq f g v r
  rw[show Xk f v ((k,x)::r)=(if k=f then(k,v)::r else(k,x)::Xk f v r) from rfl]
  by_cases hk:k=f
  .rw[if_pos hk]
   by_cases h:g=k
   .have hb:(g==k)=true:=beq_iff_eq.mpr h
    simp only[List.lookup,hb,if_pos (h.trans hk)]
   .have hb:(g==k)=false:=beq_eq_false_iff_ne.mpr h
    simp only[List.lookup,hb,if_neg (λe:g=f=>h (e.trans hk.symm))]
  .rw[if_neg hk]
   by_cases h:g=k
   .have hb:(g==k)=true:=beq_iff_eq.mpr h
    simp only[List.lookup,hb,if_neg (λe:g=f=>hk (h.symm.trans e))]
   .have hb:(g==k)=false:=beq_eq_false_iff_ne.mpr h
    simp only[List.lookup,hb]
    exact ih
theorem Rp(f:Str)(v:V):∀ fs:List (Str×V),f∈(Xk f v fs).map (·.1)/\∀ g,g∈fs.map (·.1)->g∈(Xk f v fs).map (·.1)
 | []=>⟨by simp[Xk],λg h=>by simp at h⟩
 |(k,x)::r=>by
  obtain⟨i1,i2⟩:=Rp f v r
  rw[show Xk f v ((k,x)::r)=(if k=f then(k,v)::r else(k,x)::Xk f v r) from rfl]
  by_cases hk:k=f
  .rw[if_pos hk]
   subst hk
   exact⟨by simp,λg h=>by simpa using h⟩
  .rw[if_neg hk]
   refine⟨?_,λg h=>?_⟩
   .rw[map_cons]
    exact mem_cons_of_mem _ i1
   .rw[map_cons]at h ⊢
    rcases mem_cons.mp h with e|e
    .exact mem_cons.mpr (.inl e)
    .exact mem_cons_of_mem _ (i2 g e)
theorem Sq(f:Str)(v:V):∀ fs:List (Str×V),(Xk f v fs).length<=fs.length+1
 | []=>by simp[Xk]
 |(k,x)::r=>by
  have ih:=Sq f v r
  rw[show Xk f v ((k,x)::r)=(if k=f then(k,v)::r else(k,x)::Xk f v r) from rfl]
  by_cases hk:k=f
  .rw[if_pos hk,List.length_cons,List.length_cons];omega
  .rw[if_neg hk,List.length_cons,List.length_cons];omega
theorem RelO.some_of{o:Option Value}(r:RelO (some v) o):∃ u,o=some u/\RelV v u:=by
 cases o with
 |none=>exact(show False from r).elim
 |some u=>exact⟨u,rfl,r⟩
theorem Lv(r:RelV v u):PySem.W.handedIn u=true:=by
 cases v with
 |non=>cases (show u=Value.none from r);rfl
 |bl b=>cases (show u=Value.bool b from r);rfl
 |int i=>obtain⟨t,e⟩:=(show ∃ t,u=Value.int i t from r);cases e;rfl
 |str x=>obtain⟨t,e⟩:=(show ∃ t,u=Value.str x t from r);cases e;rfl
 |byt b=>obtain⟨t,e⟩:=(show ∃ t,u=Value.bytes b t from r);cases e;rfl
 |flt b=>obtain⟨t,e⟩:=(show ∃ t,u=Value.float b t from r);cases e;rfl
 |ref a=>cases (show u=Value.ref a from r);rfl
 |ty n=>cases (show u=Value.type n from r);rfl
variable{a:Addr}
section
variable {h:Heap}{fs fs':List (Str×V)}
theorem ZE(hok:HOk P w H h)(e:H a=some (.ins C dx fs)):∃ mA,ObjM h a dx C mA/\(∀ f,RelO (fs.lookup f) (mA f))/\PySem.Within mA (fs.map (·.1))/\fs.length<=1000/\H dx=some (.own a):=by
 obtain⟨d,z,ne,ob,mA,n,r,q⟩:=(show ObjOk P w H h a (.ins C dx fs) from hok a _ e)
 exact⟨mA,⟨ob,n,ne⟩,r,q,z,d⟩
end
structure Cls(K:Frag)(C:Addr):Prop where
 pg:plainGet K C Str.empty=true
 hd:hasDictIn K C=true
 po:plainOver K C=true
 sa:findIn K (.ref C) "__setattr__"=some (some (.builtin "object.__setattr__"))
theorem Cls.get(c:Cls K C)(f:Str):plainGet K C f=true:=c.pg
def NoAttr(K:Frag)(C:Addr)(f:Str):Prop:=findIn K (.ref C) f=some none
variable{f:Str}
theorem NoAttr.taker(n:NoAttr K C f):takerIn K C f=some none:=by
 unfold takerIn
 rw[show findIn K (.ref C) f=some none from n]
 rfl
structure Con(K:Frag)(C:Addr)(f:Str)(v:V)(u:Value):Prop where
 at_:findIn K (.ref C) f=some (some u)
 rel:RelV v u
 get:specialIn K u "__get__"=some none
 cp:PySem.W.copiedNames.contains f=false
structure Meth(K:Frag)(C:Addr)(m:Str)(f:Addr):Prop where
 at_:findIn K (.ref C) m=some (some (.ref f))
 fn:isFn K (.ref f)=true
 kp:keepIn K (.ref f)=true
variable{b:Bool}
section
variable {fs:List (Str×V)}
theorem FC(I:Inv X pins σ H s)(e:H a=some (.ins C dx fs))(c:Cls X.K C)(n:NoAttr X.K C f)(l:fs.lookup f=some v)(h:∀ u s',Inv X pins σ H s'->RelV v u->Q u s'):wpAny (model X.prog X.w) A (getAttr (.ref a) f b) Q E s:=by
 obtain⟨mA,O,r,_,_,_⟩:=ZE I.hok e
 obtain⟨u,hu,ru⟩:=RelO.some_of (v:=v) (o:=mA f) (by rw[<-l];exact r f)
 exact CS I.kIn O (c.get f) c.hd n hu (Lv ru) (h u _ (I.tok _) ru)
theorem JD{Q:Unit->Shared->Prop}(I:Inv X pins σ H s)(e:H a=some (.ins C dx fs))(c:Cls X.K C)(n:NoAttr X.K C f)(hl:fs.length<1000)(ry:RelV y u)(h:∀ s',Inv X pins σ (Ib H a (.ins C dx (Xk f y fs))) s'->Q () s'):wpAny (model X.prog X.w) A (setAttr (.ref a) f u) Q E s:=by
 obtain⟨mA,O,r,wi,_,ho⟩:=ZE I.hok e
 have hz:(fs.map (·.1)).length<=sizeLine:=by rw[length_map,sizeLine_eq];omega
 refine XU I.kIn O c.sa c.po n.taker c.hd wi hz λh' O' sb=>h _ ?_
 have hd:∃ o,h'.get? dx=some o:=let ⟨o,_,_,e',_⟩:=O'.ns;⟨o,e'⟩
 refine I.write (x:=a) (e:=dx) (by rw[e];exact True.intro) (.inr ho) (λb q hb z=>(sb.2 b hb).trans z) hd ?_
 refine⟨by rw[Ea O.ne];exact ho,?_,O.ne,O'.obj,_,O'.ns,λg=>?_,λg hg=>?_⟩
 .have:=Sq f y fs;omega
 .show RelO ((Xk f y fs).lookup g) (if g=f then some u else mA g)
  rw[Tq]
  by_cases q:g=f
  .rw[if_pos q,if_pos q];exact ry
  .rw[if_neg q,if_neg q];exact r g
 .by_cases q:g=f
  .rw[q];exact(Rp f y fs).1
  .refine(Rp f y fs).2 g (wi g λz=>hg ?_)
   show(if g=f then some u else mA g)=none
   rw[if_neg q];exact z
theorem Inv.made(I:Inv X pins σ H s):Inv X pins σ (Ib (Ib H s.heap.objs.size (.own (s.heap.objs.size+1))) (s.heap.objs.size+1) (.ins C s.heap.objs.size []))
  {s with heap:=(s.heap.push emptyDict).push (instObj C s.heap.objs.size)}:=by
 have e1:(s.heap.push emptyDict).get? s.heap.objs.size=some emptyDict:=get?_push_size s.heap rfl
 have e2:((s.heap.push emptyDict).push (instObj C s.heap.objs.size)).get? (s.heap.objs.size+1)=some (instObj C s.heap.objs.size):=by
  have:=get?_push_size (s.heap.push emptyDict) (o:=instObj C s.heap.objs.size) rfl
  rwa [size_push]at this
 have e3:(s.heap.push emptyDict).Ns s.heap.objs.size (λ_=>none):=⟨emptyDict,#[],_,e1,rfl,(λe he=>absurd he (by simp)),λ_=>rfl⟩
 have I1:=I.laid (a:=s.heap.objs.size) (o:=.own (s.heap.objs.size+1)) (h':=s.heap.push emptyDict) (t':=s.toks) (λb u q=>get?_push_of_some _ q) (le_refl _) ⟨_,e1⟩
 refine I1.laid (a:=s.heap.objs.size+1) (o:=.ins C s.heap.objs.size []) (t':=s.toks) (λb u q=>get?_push_of_some _ q) (Nat.le_of_eq (size_push _ _)) ?_
 have ne:s.heap.objs.size≠s.heap.objs.size+1:=ne_of_lt (Nat.lt_succ_self _)
 refine⟨by rw[Ea ne,Ra],zero_le _,ne,e2,λ_=>none,(Heap.Ns1.of_empty e3).at λo q=>get?_push_of_some _ q,λ_=>True.intro,λy hy=>absurd rfl hy⟩
theorem FE{env:Env}{f:Str}{s:Shared}(hb:attributeBase e f env (eval e env)=eval e env)(h:wpAny (model prog w) A (eval e env) (λo s₁=>wpAny (model prog w) A (getAttr o f true) Q E s₁) E s):wpAny (model prog w) A (eval (.Attribute e f pos) env) Q E s:=
 Attribute_any_ h (by rw[arm_eval_Attribute,hb])
end
def R9(K:Frag)(ta:TE)(f:Str):TE:=λσ H Q=>ta σ H λx H1=>∃ a C dx fs v,x=.ref a/\H1 a=some (.ins C dx fs)/\Cls K C/\NoAttr K C f/\fs.lookup f=some v/\Q v H1
def E9(K:Frag)(ta tv:TE)(f:Str):TS:=λD σ H=>tv σ H λy H1=>ta σ H1 λx H2=>∃ a C dx fs,x=.ref a/\H2 a=some (.ins C dx fs)/\Cls K C/\NoAttr K C f/\fs.length<1000/\
 D.nx σ (Ib H2 a (.ins C dx (Xk f y fs)))
variable{o:Expr}
section
variable {value:Expr}{tpos:Pos}{tv:TE}
theorem N0(he:PE X e ta)(hb:attributeBase e f X.env (eval e X.env)=eval e X.env):PE X (.Attribute e f pos) (R9 X.K ta f):=by
 intro pins s σ H Q I h
 refine FE hb (thn (he pins s σ H _ I h) λu s1 ⟨x,H1,I1,rx,a,C,dx,fs,v,ex,ea,c,n,l,q⟩=>?_)
 subst ex
 obtain rfl:u=Value.ref a:=rx
 exact FC I1 ea c n l λu' s2 I2 ru=>⟨v,H1,I2,ru,q⟩
theorem Z0(ha:PE X o ta)(hv:PE X value tv)(hs:swapsWith value (some (.Attribute o f pos')) pos.line X.env=pure false):PS X (.Assign [.Attribute o f pos'] value pos) (E9 X.K ta tv f):=by
 intro pins s σ H D I h
 refine plainObj_wpAny_Assign_Attribute (thn (hv pins s σ H _ I h) λu s1 ⟨y,H1,I1,ry,q⟩=>thn (ha pins s1 σ H1 _ I1 q) λov s2 ⟨x,H2,I2,rx,a,C,dx,fs,ex,ea,c,n,l,q2⟩=>?_) hs
 subst ex
 obtain rfl:ov=Value.ref a:=rx
 exact JD I2 ea c n l ry λs3 I3=>⟨σ,_,I3,q2⟩
end
section
variable {c:Value}
inductive TyOf(K:Frag)(H:Hp):V->Value->Prop where
 |non:TyOf K H .non (.type "NoneType")
 |bl (x:Bool):TyOf K H (.bl x) (.type "bool")
 |int (i:Int):TyOf K H (.int i) (.type "int")
 |str (x:Str):TyOf K H (.str x) (.type "str")
 |flt (x:UInt64):TyOf K H (.flt x) (.type "float")
 |lst {a:Addr} {xs:List V} (e:H a=some (.lst xs)):TyOf K H (.ref a) (.type "list")
 |frz {a:Addr} {o:Obj} {xs:List V} (e:H a=some (.frz o (.lst xs))):TyOf K H (.ref a) (.type "list")
 |tup {a:Addr} {xs:List V} (e:H a=some (.tup xs)):TyOf K H (.ref a) (.type "tuple")
 |dK {a:Addr} {kvs:List (Jd×V)} (e:H a=some (.dK kvs)):TyOf K H (.ref a) (.type "dict")
 |dT {a:Addr} {kvs:List (List Jd×V)} (e:H a=some (.dT kvs)):TyOf K H (.ref a) (.type "dict")
 |ins {a C dx:Addr} {fs:List (Str×V)} (e:H a=some (.ins C dx fs)) (cl:Cls K C) (ha:findIn K (.ref C) "__class__"=some (some (.builtin "object.__class__")))
   (hn:specialIn K (.builtin "object.__class__") "__get__"=some (some (.builtin "getset_descriptor.__get__"))) (htk:PySem.W.takesIn K (.builtin "object.__class__")=some true)
   (hm:mroIn K C (.type "object")=some true):TyOf K H (.ref a) (.ref C)
end
structure Room(k:Nat)(A:Around):Prop where
 hd:A.handled=none
 dp:A.depth+3*k+5<recursionLimit
 un:A.units+16*k+200<cLine
 gd:A.guards=some []
theorem Room.mono(r:Room k A)(h:j<=k):Room j A:=⟨r.hd,by have:=r.dp;omega,by have:=r.un;omega,r.gd⟩
theorem Room.deeper(r:Room (k+1) A)(env:Env):Room k (A.deeper env):=
 ⟨r.hd,by have:=r.dp;show A.depth+1+3*k+5<_;omega,by have:=r.un;show A.units+3+16*k+200<_;omega,r.gd⟩
theorem Ss:(A.under (.builtin "type.__call__" ⟨.ref C::us,kw⟩)).depth=A.depth+1:=by
 first|rfl|simp[Around.under,Code.weight,Code.isCreation,Code.isGuard,Code.isCaller,Code.frames,Code.isFrame,guardIds]
theorem Ts:(A.under (.builtin "type.__call__" ⟨.ref C::us,kw⟩)).units=A.units+1:=by
 first|rfl|simp[Around.under,Code.cUnits,Code.frames,Code.isFrame]
theorem Room.make(r:Room (k+1) A)(C:Addr)(us:List Value)(kw:List (Str×Value)):Room k (A.under (.builtin "type.__call__" ⟨.ref C::us,kw⟩)):=
 ⟨r.hd,by have:=r.dp;rw[Ss];omega,by have:=r.un;rw[Ts];omega,by first|exact r.gd|(simpa [Around.under,Code.guards,pushGuards] using r.gd)⟩
theorem Room.depth(r:Room k A):A.depth<recursionLimit:=by have:=r.dp;omega
theorem Room.units(r:Room k A):A.units+64<cLine:=by have:=r.un;omega
def tNil:TA:=λ_ H Q=>Q [] H
def Y5(ta:TE)(tr:TA):TA:=λσ H Q=>ta σ H λx H1=>tr σ H1 λxs H2=>Q (x::xs) H2
section
variable {t:TA}
theorem Eh:PA X [] tNil:=λ_ _ _ _ H Q I h=>Calls.spliced_nil ⟨[],H,I,.nil,h⟩
theorem Sd(ha:PE X e te)(hr:PA X es t)(hs:starEach (e::es) X.env=(false,eval e X.env)::starEach es X.env:=by rfl):PA X (e::es) (Y5 te t):=by
 intro pos pins s σ H Q I h
 rw[hs]
 show wpAny _ _ (spliced ((false,eval e X.env)::backTo pos (starEach es X.env))) _ _ s
 refine Calls.spliced_cons (thn (ha pins s σ H _ I h) λu s1 ⟨x,H1,I1,r1,q1⟩=>?_)
 exact thn (hr pos pins s1 σ H1 _ I1 q1) λus s2 ⟨xs,H2,I2,r2,q2⟩=>⟨x::xs,H2,I2,.cons r1 r2,q2⟩
def Ba0(t:TA):TE:=λσ H Q=>t σ H λxs H1=>xs.length<=sizeLine/\∀ p,H1 p=none->Q (.ref p) (Ib H1 p (.tup xs))
def C6(t:TA):TE:=λσ H Q=>t σ H λxs H1=>xs.length<=sizeLine/\∀ p,H1 p=none->Q (.ref p) (Ib H1 p (.lst xs))
theorem UN{x1}(h:PA X es t):PE X (.Tuple es x1 pos) (Ba0 t):=by
 intro pins s σ H Q I hq
 refine wpAny_Tuple_spliced (thn (h pos pins s σ H _ I hq) λus s1 ⟨xs,H1,I1,r,z,q⟩=>⟨by rw[<-r.length];exact z,?_⟩)
 have hf:H1 s1.heap.objs.size=none:=I1.hok.fresh (le_refl _)
 refine⟨.ref s1.heap.objs.size,Ib H1 s1.heap.objs.size (.tup xs),I1.laid (t':=s1.toks) (λb u e=>get?_push_of_some _ e) (le_refl _) ?_,rfl,q _ hf⟩
 exact⟨z,us,r,⟨_,get?_push_size _ rfl,rfl,_,rfl⟩⟩
theorem SN(h:PA X es t):PE X (.List es pos) (C6 t):=by
 intro pins s σ H Q I hq
 refine wpAny_List_spliced (thn (h pos pins s σ H _ I hq) λus s1 ⟨xs,H1,I1,r,z,q⟩=>⟨by rw[<-r.length];exact z,?_⟩)
 have hf:H1 s1.heap.objs.size=none:=I1.hok.fresh (le_refl _)
 refine⟨.ref s1.heap.objs.size,Ib H1 s1.heap.objs.size (.lst xs),I1.laid (t':=s1.toks) (λb u e=>get?_push_of_some _ e) (le_refl _) ?_,rfl,q _ hf⟩
 exact⟨z,us,0,r,get?_push_size _ rfl⟩
end
abbrev Sp:=List V->Hp->VK->XK->Prop
abbrev Fw:=List Env->Hp->Shared->XK->Value->Shared->Prop
structure Env0(P:Program)(w:World)(K:Frag)(mg:Str->Option Value)(base:Heap)(A:Around)(outer:List Env)(s:Shared)(H:Hp):Prop where
 frames:A.frames=some outer
 mod:Mod K mg base
 bs:∀ b o,base.get? b=some o->s.heap.get? b=some o/\H b=none
 bsz:base.objs.size<=s.heap.objs.size
 funs:s.heap.FunFrames base outer
 frf:∀ b∈Re outer,H b=none
 hok:HOk P w H s.heap
 bare:AllBare s.gens
def CE(outer:List Env)(P:Program)(w:World)(H:Hp)(s:Shared)(Q:VK)(u:Value)(s':Shared):Prop:=
 ∃ v H',s'.os=s.os/\AllBare s'.gens/\Un (Re outer) [] H H' s.heap s'.heap/\HOk P w H' s'.heap/\RelV v u/\Q v H'
def CR(CX:Fw)(outer:List Env)(P:Program)(w:World)(H:Hp)(s:Shared)(Q:VK)(E:XK)(r:Result)(s':Shared):Prop:=
 match r with
 | .ok (.ret u)=>CE outer P w H s Q u s'
 | .ok _=>False
 | .error e=>CX outer H s E e s'
structure FnOk(P:Program)(w:World)(K:Frag)(mg:Str->Option Value)(base:Heap)(CX:Fw)(k:Nat)(f:Addr)(fd:FuncData)(ps:List Str)(sp:Sp):Prop where
 len:∀ vs H Q E,sp vs H Q E->vs.length=ps.length
 run:∀ (A:Around) (outer:List Env) (s:Shared) (H:Hp) (args:Args) (us:List Value) (vs:List V) (Q:VK) (E:XK),Room k A->Env0 P w K mg base A outer s H->BindsTo s fd args (ps.zip us)->Vals vs us->sp vs H Q E->
  codeAny (model P w) A (.call (.ref f) args) (CR CX outer P w H s Q E) s
variable{f:Addr}{mg:Str->Option Value}{base:Heap}{CX:Fw}{fd:FuncData}{ps:List Str}{sp:Sp}
theorem FnOk.mono(F:FnOk P w K mg base CX j f fd ps sp)(h:j<=k):
  FnOk P w K mg base CX k f fd ps sp:=⟨F.len,λA outer s H args us vs Q E hr=>F.run A outer s H args us vs Q E (hr.mono h)⟩
theorem FnOk.imp{sp':Sp}(F:FnOk P w K mg base CX k f fd ps sp)(h:∀ vs H Q E,sp' vs H Q E->sp vs H Q E):FnOk P w K mg base CX k f fd ps sp':=
 ⟨λvs H Q E q=>F.len vs H Q E (h _ _ _ _ q),λA outer s H args us vs Q E hr he hb hv hs=>F.run A outer s H args us vs Q E hr he hb hv (h _ _ _ _ hs)⟩
variable{outer:List Env}
theorem Env0.make(e:Env0 P w K mg base A outer s H)(C:Addr)(us:List Value)(kw:List (Str×Value)):
  Env0 P w K mg base (A.under (.builtin "type.__call__" ⟨.ref C::us,kw⟩)) outer s H:=⟨by first|exact e.frames|(simpa [Around.under,Code.envs,Code.isFrame,pushEnvs] using e.frames),e.mod,e.bs,e.bsz,e.funs,e.frf,e.hok,e.bare⟩
variable{Q:VK}
theorem Inv.env0(I:Inv X pins σ H s):Env0 X.prog X.w X.K X.mg X.base X.A X.stack s H:=
 ⟨I.ok.frames,I.ok.mod,I.bs,le_trans I.ok.bsz I.sz,I.stack,I.stkFree,I.hok,I.bare⟩
theorem Inv.after(I:Inv X pins σ H s)(h:CE X.stack X.prog X.w H s Q u s'):EP X pins σ Q u s':=by
 obtain⟨v,H',os,bare,un,hok,r,q⟩:=h
 obtain⟨hh,g,d,t,os'⟩:=s'
 obtain rfl:os'=s.os:=os
 exact⟨v,H',I.call (h':=hh) (g':=g) (d':=d) (t':=t) (ch:= []) un hok bare (λb z=>absurd z (by simp)),r,q⟩
def X5(sp:Sp)(dvs:List V)(E:XK)(t:TA):TE:=λσ H Q=>t σ H λvs H1=>sp (vs++dvs) H1 Q E
def D6(C:Addr)(sp:Sp)(dvs:List V)(E:XK)(t:TA):TE:=λσ H Q=>t σ H λvs H1=>∀ x dx,H1 x=none->H1 dx=none->dx≠x->
 sp (.ref x::(vs++dvs)) (Ib (Ib H1 dx (.own x)) x (.ins C dx [])) (λv H2=>v=.non/\Q (.ref x) H2) E
def Binds(K:Frag)(fd:FuncData)(ps:List Str)(ds:List Value):Prop:=
 ∀ (s:Shared) (us:List Value),K.In s.heap->(us++ds).length=ps.length->BindsTo s fd ⟨us,[]⟩ (ps.zip (us++ds))
theorem Binds.all(h:∀ us:List Value,us.length=ps.length->bindArgs fd ⟨us,[]⟩=pure (ps.zip us)):Binds K fd ps []:=λs us _ hl=>by
 rw[append_nil]at hl ⊢
 exact .of_eq (h us hl)
def Nn(CX:Fw)(X:Cx)(E:XK):Prop:=∀ (pins:List (Addr×Obj)) (σ:St) (H:Hp) (s:Shared) (e:Value) (s':Shared),Inv X pins σ H s->CX X.stack H s E e s'->X.xe e s'
variable{E:XK}{vs:List V}{m:Str}{apos:Pos}
section
variable {dvs:List V}{ds:List Value}{p:Pos}{t:TA}
theorem Q1(F:FnOk X.prog X.w X.K X.mg X.base CX k f fd ps sp)(hr:Room k X.A)(hb:Binds X.K fd ps ds)(hd:Vals dvs ds)(hx:Nn CX X E)(I:Inv X pins σ H s)(r:Vals vs us)(h:sp (vs++dvs) H Q E):wpAny (model X.prog X.w) X.A (call (.ref f) us) (EP X pins σ Q) X.xe s:=by
 have r2:Vals (vs++dvs) (us++ds):=r.append hd
 have hl:(us++ds).length=ps.length:=by rw[<-r2.length];exact F.len _ _ _ _ h
 refine wpAny_call (codeAny_mono (F.run X.A X.stack s H ⟨us,[]⟩ (us++ds) (vs++dvs) Q E hr I.env0 (hb s us I.kIn hl) r2 h) λr s' hq=>?_)
 cases r with
 |error e=>exact hx pins σ H s e s' I hq
 |ok fl=>
  cases fl with
  |ret u=>exact I.after hq
  |next=>exact False.elim hq
  |brk=>exact False.elim hq
  |cont=>exact False.elim hq
theorem Yx(F:FnOk X.prog X.w X.K X.mg X.base CX k f fd ps sp)(hr:Room k X.A)(hg:Gl X x)(hm:X.mg x=some (.ref f))(hk:keepIn X.K (.ref f)=true)(hb:Binds X.K fd ps ds)(hd:Vals dvs ds)(hx:Nn CX X E)(ha:PA X (e::es) t)(hdb:(x==("__debug__":Str))=false:=by decide)(he:starEach (e::es) X.env=(false,eval e X.env)::starEach es X.env:=by rfl)(hpl:(backTo pos (starEach es X.env)).any (·.1)=false:=by rfl):
  PE X (.Call (.Name x p) (e::es) [] pos) (X5 sp dvs E t):=by
 intro pins s σ H Q I h
 refine wpAny_Call_Name_kw (Cj I hg hm ?_ hdb)
 refine callWith_K (h₀:=X.base) I.ok.mod.kin hk (thn (ha pos pins s σ H _ I h) λus s1 ⟨vs,H1,I1,r,q⟩=>⟨I1.kIn,?_⟩) he hpl
 exact Q1 F hr hb hd hx I1 r q
structure Mk(K:Frag)(C f:Addr):Prop where
 makes:makesIn K C=true
 init:findIn K (.ref C) "__init__"=some (some (.ref f))
 fn:isFn K (.ref f)=true
 kp:keepIn K (.ref C)=true
theorem FO(M:Mk X.K C f)(F:FnOk X.prog X.w X.K X.mg X.base CX k f fd ps sp)(hr:Room (k+1) X.A)(hb:Binds X.K fd ps ds)(hd:Vals dvs ds)(hx:Nn CX X E)(I:Inv X pins σ H s)(r:Vals vs us)(h:∀ x dx,H x=none->H dx=none->dx≠x->sp (.ref x::(vs++dvs)) (Ib (Ib H dx (.own x)) x (.ins C dx [])) (λv H2=>v=.non/\Q (.ref x) H2) E):
  wpAny (model X.prog X.w) X.A (call (.ref C) us) (EP X pins σ Q) X.xe s:=by
 have hq:=h (s.heap.objs.size+1) s.heap.objs.size (I.hok.fresh (le_succ _)) (I.hok.fresh (le_refl _)) (ne_of_lt (Nat.lt_succ_self _))
 have I2:=Inv.made (C:=C) I
 have r2:Vals (V.ref (s.heap.objs.size+1)::(vs++dvs)) (Value.ref (s.heap.objs.size+1)::(us++ds)):=.cons rfl (r.append hd)
 have hl:(Value.ref (s.heap.objs.size+1)::us++ds).length=ps.length:=by
  have e:=r2.length
  rw[F.len _ _ _ _ hq]at e
  exact e.symm
 refine wpAny_call (TM (f:=f) I.kIn M.makes M.init (beq_iff_eq.mp M.fn) (codeAny_mono (F.run _ X.stack _ _ ⟨Value.ref (s.heap.objs.size+1)::us,[]⟩ (Value.ref (s.heap.objs.size+1)::(us++ds)) _ _ E (hr.make C us [])
  (I2.env0.make C us []) (hb _ (Value.ref (s.heap.objs.size+1)::us) I2.kIn hl) r2 hq) λr s' hq'=>?_))
 cases r with
 |error e=>exact hx pins σ _ _ e s' I2 hq'
 |ok fl=>
  cases fl with
  |ret u=>
   obtain⟨v,H',I3,rv,ev,q3⟩:=I2.after hq'
   subst ev
   exact⟨rv,⟨V.ref (s.heap.objs.size+1),H',I3,rfl,q3⟩⟩
  |next=>exact False.elim hq'
  |brk=>exact False.elim hq'
  |cont=>exact False.elim hq'
theorem FU(M:Mk X.K C f)(F:FnOk X.prog X.w X.K X.mg X.base CX k f fd ps sp)(hr:Room (k+1) X.A)(hg:Gl X x)(hm:X.mg x=some (.ref C))(hb:Binds X.K fd ps ds)(hd:Vals dvs ds)(hx:Nn CX X E)(ha:PA X (e::es) t)(hdb:(x==("__debug__":Str))=false:=by decide)(he:starEach (e::es) X.env=(false,eval e X.env)::starEach es X.env:=by rfl)(hpl:(backTo pos (starEach es X.env)).any (·.1)=false:=by rfl):
  PE X (.Call (.Name x p) (e::es) [] pos) (D6 C sp dvs E t):=by
 intro pins s σ H Q I h
 refine wpAny_Call_Name_kw (Cj I hg hm ?_ hdb)
 refine callWith_K (h₀:=X.base) I.ok.mod.kin M.kp (thn (ha pos pins s σ H _ I h) λus s1 ⟨vs,H1,I1,r,q⟩=>⟨I1.kIn,?_⟩) he hpl
 exact FO M F hr hb hd hx I1 r q
end
section
variable {ks:List Str}{p kpos:Pos}{kws:List Keyword}{t tk:TA}{nm:Option Str}
structure KBinds(K:Frag)(fd:FuncData)(ps ks:List Str)(g:List Value->List Value->List Value)(gV:List V->List V->List V):Prop where
 to:∀ (s:Shared) (us ws:List Value),K.In s.heap->(g us ws).length=ps.length->BindsTo s fd ⟨us,ks.zip ws⟩ (ps.zip (g us ws))
 rel:∀ {vs:List V} {us:List Value} {zs:List V} {ws:List Value},Vals vs us->Vals zs ws->Vals (gV vs zs) (g us ws)
variable {g:List Value->List Value->List Value}{gV:List V->List V->List V}
end
structure FnScope(N P:List Str)(sc:Scope):Prop where
 kind:sc.kind=.function
 co:sc.isCoroutine=false
 gen:sc.isGenerator=false
 nd:N.Nodup
 pre:N.take P.length=P
 par:∀ x∈P,sc.names.lookup x=some .local\/sc.names.lookup x=some .cell
 nofree:∀ y∈sc.names,y.2≠ .free
theorem Cv{kindOf:Str->Option NameKind}{x:Str}:∀ {binds:List (Str×Value)} {m:Str->Option Value},(∀ v,(x,v)∉binds)->bindL kindOf binds m x=m x
 | [],_,_=>rfl
 |(n,v)::r,m,h=>by
  unfold bindL
  rw[Cv λw hw=>h w (mem_cons_of_mem _ hw)]
  split
  .have:x≠n:=by rintro rfl;exact h v mem_cons_self
   simp[this]
  .rfl
theorem Av{kindOf:Str->Option NameKind}{x:Str}:∀ {binds:List (Str×Value)} {m:Str->Option Value},(∀ v,(x,v)∉binds)->bindC kindOf binds m x=m x
 | [],_,_=>rfl
 |(n,v)::r,m,h=>by
  unfold bindC
  rw[Av λw hw=>h w (mem_cons_of_mem _ hw)]
  split
  .rfl
  .have:x≠n:=by rintro rfl;exact h v mem_cons_self
   simp[this]
theorem Bv{kindOf:Str->Option NameKind}{x:Str}{v:Value}:∀ {P:List Str} {vs:List Value} {i:Nat} {m:Str->Option Value},P.Nodup->P[i]? =some x->vs[i]? =some v->kindOf x=some .local->
  bindL kindOf (P.zip vs) m x=some v
 | [],_,_,_,_,h,_,_=>by simp at h
 |_::_,[],_,_,_,_,h,_=>by simp at h
 |p::P,w::vs,0,m,nd,h1,h2,hk=>by
  simp at h1 h2;subst h1;subst h2
  show bindL kindOf ((p,w)::P.zip vs) m p=_
  unfold bindL
  rw[Cv λv hv=>(List.nodup_cons.mp nd).1 (List.of_mem_zip hv).1,if_pos hk]
  simp
 |p::P,w::vs,i+1,m,nd,h1,h2,hk=>by
  show bindL kindOf ((p,w)::P.zip vs) m x=_
  unfold bindL
  exact Bv (i:=i) (List.nodup_cons.mp nd).2 (by simpa using h1) (by simpa using h2) hk
theorem Zu{kindOf:Str->Option NameKind}{x:Str}{v:Value}:∀ {P:List Str} {vs:List Value} {i:Nat} {m:Str->Option Value},P.Nodup->P[i]? =some x->vs[i]? =some v->kindOf x≠some .local->
  bindC kindOf (P.zip vs) m x=some v
 | [],_,_,_,_,h,_,_=>by simp at h
 |_::_,[],_,_,_,_,h,_=>by simp at h
 |p::P,w::vs,0,m,nd,h1,h2,hk=>by
  simp at h1 h2;subst h1;subst h2
  show bindC kindOf ((p,w)::P.zip vs) m p=_
  unfold bindC
  rw[Av λv hv=>(List.nodup_cons.mp nd).1 (List.of_mem_zip hv).1,if_neg hk]
  simp
 |p::P,w::vs,i+1,m,nd,h1,h2,hk=>by
  show bindC kindOf ((p,w)::P.zip vs) m x=_
  unfold bindC
  exact Zu (i:=i) (List.nodup_cons.mp nd).2 (by simpa using h1) (by simpa using h2) hk
def start(N:List Str)(vs:List V):St:=vs.map some++replicate (N.length-vs.length) none
def Vk(CX:Fw)(P:Program)(w:World)(K:Frag)(mg:Str->Option Value)(base:Heap)(N:List Str)(qual:Str)(scope:Scope)(f:Addr)(cd:Value)(A:Around)(outer:List Env)(s:Shared)(H:Hp)(E:XK):Cx where
 prog:=P
 w:=w
 K:=K
 mg:=mg
 base:=base
 A:=A.deeper (envOfC qual scope s.heap.objs.size f cd)
 N:=N
 s₀:=s
 H₀:=H
 env:=envOfC qual scope s.heap.objs.size f cd
 outer:=outer
 stack:=envOfC qual scope s.heap.objs.size f cd::outer
 ex:= []
 calm:=true
 fn:=λ_=>true
 pn:= []
 xe:=λe s'=>wpAny (model P w) (A.deeper (envOfC qual scope s.heap.objs.size f cd)) (leaving (envOfC qual scope s.heap.objs.size f cd) e) (λ_ s''=>CX outer H s E e s'') (λe' s''=>CX outer H s E e' s'') s'
theorem Az{sc:Scope}(h:sc.names.lookup x=some .cell):∃ c,(cellsFrom n sc.names []).lookup x=some c:=by
 have q:=cellsFrom_some sc.names n [] (.inl h)
 exact isSome_iff_exists.mp q
variable{qual:Str}{scope:Scope}
theorem Nv{cd:Value}{s1:Shared}(S:FnScope N ps scope)(hd:A.handled=none)(e0:Env0 P w K mg base A outer s H)(hl:vs.length=ps.length)(r:Vals vs us)(x:InCallC s s.heap.objs.size (bindL (envOfC qual scope s.heap.objs.size f cd).kindOf (ps.zip us) λ_=>none) (cellsFrom (s.heap.objs.size+1) scope.names []) (bindC (envOfC qual scope s.heap.objs.size f cd).kindOf (ps.zip us) λ_=>none) s1):
  Inv (Vk CX P w K mg base N qual scope f cd A outer s H E) [] (start N vs) H s1:=by
 have hpl:ps.length<=N.length:=by have:=congrArg List.length S.pre;rw[length_take]at this;omega
 obtain⟨h1,tk,rfl,hk⟩:=x.done
 have noA:∀ b:Addr,b∉(Vk CX P w K mg base N qual scope f cd A outer s H E).ex:=λb z=>absurd (show b∈([]:List Addr) from z) (by simp)
 refine⟨⟨e0.mod,S.kind,rfl,rfl,le_refl _,λy z c h1 h2=>?_,λy hy=>?_,λy c _ h=>?_,λ_=>hd,Around.frames_deeper e0.frames,.inr ⟨rfl,rfl⟩,λb z=>absurd z (noA b),e0.bs,e0.bsz,λb _ _=>noA b,λb z=>absurd z (noA b),e0.funs,e0.frf⟩,
  rfl,e0.bare,Un.kept hk,⟨_,x.toInCall.ns,λi y v h1 h2 h3=>?_⟩,λy c h=>⟨_,x.cell y c h⟩,e0.hok.fresh (le_refl _),λy c h=>?_,λp hp=>absurd (show p∈([]:List (Addr×Obj)) from hp) (by simp),e0.hok.kept hk,?_⟩
 .exact name_of_addr x.apart (PySem.mem_of_lookup h1) (PySem.mem_of_lookup h2)
 .have hy:scope.names.lookup y=some .cell\/scope.names.lookup y=some .free:=hy
  rcases hy with hy|hy
  .exact Az hy
  .exact absurd rfl (S.nofree _ (PySem.mem_of_lookup hy))
 .exact Nat.le_of_lt (x.above y c (PySem.mem_of_lookup h))
 .have hi:i<vs.length:=by
   unfold start at h2
   by_cases hi:i<vs.length
   .exact hi
   .rw[List.getElem?_append_right (by simpa using hi)]at h2
    rw[List.getElem?_replicate]at h2
    split at h2<;>cases h2
  have ha:vs[i]? =some v:=by
   unfold start at h2
   rw[List.getElem?_append_left (by simpa using hi),getElem?_map]at h2
   cases e:vs[i]? with
   |none=>rw[e]at h2;cases h2
   |some a=>rw[e]at h2;cases h2;rfl
  obtain⟨u,hu,rv⟩:=r.get ha
  have hp:ps[i]? =some y:=by
   rw[<-S.pre,List.getElem?_take_of_lt (by omega)];exact h1
  have ndP:ps.Nodup:=by rw[<-S.pre];exact S.nd.sublist (List.take_sublist _ _)
  refine⟨u,rv,?_⟩
  rcases S.par y (mem_of_getElem? hp) with k|k
  .exact .inl ⟨k,Bv ndP hp hu k⟩
  .obtain⟨c,e⟩:=Az (n:=s.heap.objs.size+1) k
   refine .inr ⟨.inl k,c,e,?_⟩
   have q:=x.cell y c e
   rw[Zu ndP hp hu (by show scope.names.lookup y≠_;rw[k];decide)]at q
   exact q
 .exact e0.hok.fresh (Nat.le_of_lt (x.above y c (PySem.mem_of_lookup h)))
 .unfold start
  show _=N.length
  rw[length_append,length_map,length_replicate]
  omega
theorem YV{params:Arguments}{dV kV doc pm cdv ct oc:Value}{an od:Option Addr}{osl:Array (Option Value)}(lk:K.lookup f=some ⟨oc,od,.func (fnOf name qual params body scope dV kV doc pm an cdv ct),osl⟩)(hcd:codeIn K cdv qual=true)(S:FnScope N ps scope)(len:∀ vs H Q E,sp vs H Q E->vs.length=ps.length)(hbody:∀ (A:Around) (outer:List Env) (s:Shared) (H:Hp) (vs:List V) (Q:VK) (E:XK),Room k (A.deeper (envOfC qual scope s.heap.objs.size f cdv))->sp vs H Q E->
   ∃ t,PSs (Vk CX P w K mg base N qual scope f cdv A outer s H E) body t/\t {nx:=λ_ H'=>Q .non H',rt:=Q} (start N vs) H):
  FnOk P w K mg base CX (k+1) f (fnOf name qual params body scope dV kV doc pm an cdv ct) ps sp:=by
 refine⟨len,λA outer s H args us vs Q E hr e0 hb r hsp=>?_⟩
 have hl:=len _ _ _ _ hsp
 have KX:K.In s.heap:=e0.mod.kin.keeps λb o e=>(e0.bs b o e).1
 have lim:s.heap.NoLimit:=e0.mod.nolimit.keeps λb o e=>(e0.bs b o e).1
 have hkind:∀ y∈ps.zip us,scope.names.lookup y.1=some .local\/(scope.names.lookup y.1=some .cell/\((cellsFrom (s.heap.objs.size+1) scope.names []).lookup y.1).isSome=true):=λ⟨n,v⟩ hy=>by
  rcases S.par n (List.of_mem_zip hy).1 with q|q
  .exact .inl q
  .exact .inr ⟨q,cellsFrom_some _ _ _ (.inl q)⟩
 refine codeAny_call_function hr.depth (KX _ _ lk) rfl S.co S.gen rfl (PySem.W.codeRec_of KX hcd) (hb _ _ _ _ ?_)
 refine wpAny_newFunctionEnv_cells S.kind hkind λenv he s1 x=>?_
 subst he
 refine⟨lim.keeps x.toInCall.keep,codeAny_func ?_⟩
 obtain⟨t,ht,hq⟩:=hbody A outer s H vs Q E (hr.deeper _) hsp
 have I:Inv (Vk CX P w K mg base N qual scope f cdv A outer s H E) [] (start N vs) H s1:=Nv S hr.hd e0 hl r x
 refine wpAny_mono (ht [] s1 (start N vs) H _ I hq) (λfl s' hs=>?_) λe s' hs=>hs
 have fin:∀ {σ':St} {H':Hp} {v:V} {u:Value},Inv (Vk CX P w K mg base N qual scope f cdv A outer s H E) [] σ' H' s'->RelV v u->Q v H'->CE outer P w H s Q u s':=
  λ{σ' H' v u} J rv q=>⟨v,H',J.os,J.bare,J.base,J.hok,rv,q⟩
 cases fl with
 |ret u=>
  obtain⟨v,σ',H',J,rv,q⟩:=hs
  exact fin J rv q
 |next=>
  obtain⟨σ',H',J,q⟩:=hs
  exact fin (v:=V.non) (u:=Value.none) J rfl q
 |brk=>
  obtain⟨_,_,_,q⟩:=hs
  exact False.elim q
 |cont=>
  obtain⟨_,_,_,q⟩:=hs
  exact False.elim q
section
variable {p:Pos}{t:TA}{id T:String}{r:List V->Hp->VK->Prop}
def tCB(r:List V->Hp->VK->Prop)(t:TA):TE:=λσ H Q=>t σ H λvs H1=>r vs H1 Q
theorem Vo(hc:CallR X (.builtin id) r)(hg:Gl X x)(hm:X.mg x=none)(hv:bootBuiltins x=some (.builtin id))(ha:PA X (e::es) t)(hn:x≠"__name__":=by decide)(hdb:(x==("__debug__":Str))=false:=by decide)(he:starEach (e::es) X.env=(false,eval e X.env)::starEach es X.env:=by rfl)(hpl:(backTo pos (starEach es X.env)).any (·.1)=false:=by rfl):PE X (.Call (.Name x p) (e::es) [] pos) (tCB r t):=by
 intro pins s σ H Q I h
 refine wpAny_Call_Name_kw (Sn I hg hm hv ?_ hn hdb)
 exact PyProof.Rows.callWith_builtin1 (thn (ha pos pins s σ H _ I h) λus s1 ⟨vs,H1,I1,r1,q1⟩=>hc pins s1 σ H1 vs us Q I1 r1 q1) he hpl
theorem Xv(hc:CallR X (.type T) r)(hg:Gl X x)(hm:X.mg x=none)(hv:bootBuiltins x=some (.type T))(ha:PA X (e::es) t)(hn:x≠"__name__":=by decide)(hdb:(x==("__debug__":Str))=false:=by decide)(he:starEach (e::es) X.env=(false,eval e X.env)::starEach es X.env:=by rfl)(hpl:(backTo pos (starEach es X.env)).any (·.1)=false:=by rfl):PE X (.Call (.Name x p) (e::es) [] pos) (tCB r t):=by
 intro pins s σ H Q I h
 refine wpAny_Call_Name_kw (Sn I hg hm hv ?_ hn hdb)
 exact PyProof.Rows.callWith_type1 (thn (ha pos pins s σ H _ I h) λus s1 ⟨vs,H1,I1,r1,q1⟩=>hc pins s1 σ H1 vs us Q I1 r1 q1) he hpl
end
end L2
namespace HT
open PySem PyProof.Rows
section
open PySem.SeqAt
open PySem.AutoSeq1 (wpAny_loadPart')
open PySem.MeetsSeq PySem.MeetsSeq2 PySem.MeetsSeq3
end
section
variable {prog:Program}{w:World}{A:Around}{E:Value->Shared->Prop}{s:Shared}
theorem cat_tup{t b:Addr}{vs ws:List Value}{Q:Value->Shared->Prop}(ht:IsTup s.heap t vs.toArray)(hb:IsTup s.heap b ws.toArray)(hv:vs≠ [])(h1:ws= []->Q (.ref t) s)(h2:ws≠ []->Q (.ref s.heap.objs.size) {s with heap:=s.heap.push {cls:=.type "tuple",data:=.seq (vs++ws).toArray}})(hsz:vs.length+ws.length<=sizeLine):wpAny (model prog w) A (binaryOp .Add (.ref t) (.ref b)) Q E s:=by
 obtain⟨⟨cls,dd,data,sl⟩,ho,hc,n,hd⟩:=id ht
 obtain⟨⟨cls2,dd2,data2,sl2⟩,ho2,hc2,n2,hd2⟩:=id hb
 simp only at hc hd hc2 hd2
 subst hc hd hc2 hd2
 have e:vs.toArray++ws.toArray=(vs++ws).toArray:=by simp
 by_cases hw:ws= []
 .exact concat_meets ⟨_,ho,rfl⟩ ⟨_,ho2,rfl⟩ noFill_tuple_add seq_tuple_add PySem.F.slot_tuple_add PySem.F.entry_tuple_add (PySem.F.args_tuple_add_2 _ _)
   (tuple_addW1 t b vs.toArray ws.toArray n n2 dd dd2 sl sl2 (by simpa using hv) (by simp[hw])) ⟨ho,ho2,h1 hw⟩
 .refine concat_meets ⟨_,ho,rfl⟩ ⟨_,ho2,rfl⟩ noFill_tuple_add seq_tuple_add PySem.F.slot_tuple_add PySem.F.entry_tuple_add (PySem.F.args_tuple_add_2 _ _)
   (tuple_addW2 t b vs.toArray ws.toArray n n2 dd dd2 sl sl2 (by simpa using hv) (by simpa using hw) (by rw[size_toArray,size_toArray];exact hsz)) ⟨ho,ho2,?_⟩
  rw[e]
  exact h2 hw
def sIx(n d:Nat):Option Int->Nat
 |none=>d
 |some v=>if v<0 then(v+(n:Int)).toNat else min v.toNat n
theorem sIx_nat(n d k:Nat):sIx n d (some (k:Int))=min k n:=by
 show(if(k:Int)<0 then((k:Int)+(n:Int)).toNat else min (k:Int).toNat n)=min k n
 rw[if_neg (by omega),Int.toNat_natCast]
end
end HT
namespace L2
open PySem PySem.Spec PyProof.Rows
abbrev TO:=St->Hp->(Option Int->Hp->Prop)->Prop
def PO(X:Cx)(e:Option Expr)(t:TO):Prop:=
 ∀ (pins:List (Addr×Obj)) (s:Shared) (σ:St) (H:Hp) (Q:Option Int->Hp->Prop),Inv X pins σ H s->t σ H Q->
  wpAny (model X.prog X.w) X.A (evalPart e X.env) (λu s'=>∃ o H',Inv X pins σ H' s'/\IsPart u o/\Q o H') X.xe s
def DV:TO:=λ_ H Q=>Q none H
def G6(t:TE):TO:=λσ H Q=>t σ H λx H1=>∃ i,x=.int i/\Q (some i) H1
theorem IC{ns:List Int}:∀ {us:List Value},Vals (ns.map V.int) us->IntsAre us ns:=by
 induction ns with
 |nil=>intro us r;rw[map_nil]at r;cases r;exact .nil
 |cons n ns ih=>
  intro us r
  rw[map_cons]at r
  cases r with
  |cons r1 r2=>
   obtain⟨t,e⟩:=r1
   subst e
   exact .cons n t (ih r2)
variable{X:Cx}{e:Expr}{pos:Pos}{xs:List V}{us:List Value}
section
variable {te:TE}{lo hi:Option Expr}{tl th:TO}{p2:Pos}
theorem IU:PO X none DV:=by
 intro pins s σ H Q I h
 rw[evalPart_none]
 exact wpAny_pure ⟨none,H,I,.none,h⟩
theorem JU(h:PE X e te):PO X (some e) (G6 te):=by
 intro pins s σ H Q I hw
 rw[evalPart_some]
 refine thn (h pins s σ H _ I hw) λu s1 ⟨x,H1,I1,r1,q1⟩=>?_
 obtain⟨i,rfl,q⟩:=q1
 obtain⟨t,rfl⟩:=r1
 exact⟨some i,H1,I1,.int i t,q⟩
def U7(X:Cx)(r:V->Option Int->Option Int->Hp->VK->Prop):Prop:=
 ∀ (pins:List (Addr×Obj)) (s:Shared) (σ:St) (H:Hp) (x:V) (v vl vu:Value) (lo hi:Option Int) (sl:Addr) (Q:VK),Inv X pins σ H s->RelV x v->s.heap.IsSliceOf sl vl vu .none->IsPart vl lo->IsPart vu hi->r x lo hi H Q->
  ∃ T id,typeLookup (.type T) "__getitem__"=pure (some (.builtin id))/\s.TypeIs v T/\wpAny (model X.prog X.w) X.A (getItem v (.ref sl)) (EP X pins σ Q) X.xe s
def tSl(r:V->Option Int->Option Int->Hp->VK->Prop)(te:TE)(tl th:TO):TE:=λσ H Q=>te σ H λx H1=>tl σ H1 λl H2=>th σ H2 λu H3=>r x l u H3 Q
theorem IA{r:V->Option Int->Option Int->Hp->VK->Prop}(hr:U7 X r)(he:PE X e te)(hl:PO X lo tl)(hu:PO X hi th):PE X (.Subscript e (.Slice lo hi none p2) pos) (tSl r te tl th):=by
 intro pins s σ H Q I h
 refine Subscript_ (thn (he pins s σ H _ I h) λv s1 ⟨x,H1,I1,r1,q1⟩=>?_)
 refine wpAny_Slice (thn (hl pins s1 σ H1 _ I1 q1) λvl s2 ⟨l,H2,I2,pl,q2⟩=>thn (hu pins s2 σ H2 _ I2 q2) λvu s3 ⟨u,H3,I3,pu,q3⟩=>?_)
 rw[evalPart_none]
 refine wpAny_pure ?_
 have I4:Inv X pins σ H3 {s3 with heap:=s3.heap.push {cls:=.type "slice",data:=.fields #[vl,vu,.none]}}:=I3.kept (t':=s3.toks) λb ob q=>get?_push_of_some _ q
 obtain⟨T,id,hT,ht,hg⟩:=hr pins {s3 with heap:=s3.heap.push {cls:=.type "slice",data:=.fields #[vl,vu,.none]}} σ H3 x v vl vu l u s3.heap.objs.size Q I4 r1 (Heap.IsSliceOf.new ..) pl pu q3
 show wpAny (model X.prog X.w) X.A (subscriptTail e (.Slice lo hi none p2) v (.ref s3.heap.objs.size)) (EP X pins σ Q) X.xe {s3 with heap:=s3.heap.push {cls:=.type "slice",data:=.fields #[vl,vu,.none]}}
 exact tail_any (ops:= [.ref s3.heap.objs.size,v]) ht hT hg (by with_unfolding_all rfl)
def EH(xs:List V)(lo hi:Option Int):List V:=(xs.drop (HT.sIx xs.length 0 lo)).take (HT.sIx xs.length xs.length hi-HT.sIx xs.length 0 lo)
theorem Dz(xs:List V)(lo hi:Option Int):(EH xs lo hi).length<=xs.length:=by
 unfold EH
 rw[length_take,length_drop]
 omega
def M5(K:Frag):R2:=λx y H Q=>∃ a b xs ys,x=.ref a/\y=.ref b/\SqT K H a xs/\SqT K H b ys/\xs≠ []/\xs.length+ys.length<=sizeLine/\
 (ys= []->Q (.ref a) H)/\(ys≠ []->∀ p,H p=none->Q (.ref p) (Ib H p (.tup (xs++ys))))
theorem Vals.nil_iff(r:Vals xs us):us= []↔xs= []:=by
 cases r with
 |nil=>simp
 |cons _ _=>simp
theorem OT:OpR X (binaryOp .Add) (M5 X.K):=by
 intro pins s σ H x y v u Q I rx ry h
 obtain⟨a,b,xs,ys,rfl,rfl,ha,hb,hx,hz,q1,q2⟩:=h
 cases rx
 cases ry
 obtain⟨its,r1,p1,_⟩:=I.tuple ha
 obtain⟨its2,r2,p2,_⟩:=I.tuple hb
 refine HT.cat_tup p1 p2 (λz=>hx (r1.nil_iff.mp z)) (λz=>⟨.ref a,H,I,rfl,q1 (r2.nil_iff.mp z)⟩) (λz=>?_) (by rw[<-r1.length,<-r2.length];exact hz)
 refine⟨.ref s.heap.objs.size,_,I.laid (t':=s.toks) (o:=.tup (xs++ys)) (λb ob q=>get?_push_of_some _ q) (le_refl _) ?_,rfl,q2 (λw=>z (r2.nil_iff.mpr w)) _ (I.hok.fresh (le_refl _))⟩
 exact⟨by rw[length_append];exact hz,_,r1.append r2,IsTup.new _ _⟩
end
def ZY(n:Nat)(i:Int):Option Nat:=if 0<=i then(if i<n then some i.toNat else none) else if -(n:Int)<=i then some (i+n).toNat else none
variable{α:Type}
def Lw(xs:List α)(i:Int):Option α:=(ZY xs.length i).bind λj=>xs[j]?
variable{n:Nat}{i:Int}
theorem LS{j:Nat}(h:ZY n i=some j):seqIndex? i n=some j/\j<n/\ -(n:Int)<=i/\i<n:=by
 unfold ZY at h
 by_cases h0:0<=i
 .rw[if_pos h0]at h
  by_cases h1:i<n
  .rw[if_pos h1]at h
   have e:i.toNat=j:=Option.some.inj h
   exact⟨by rw[seqIndex_of h0 h1,e],by omega,by omega,h1⟩
  .rw[if_neg h1]at h;cases h
 .rw[if_neg h0]at h
  by_cases h1: -(n:Int)<=i
  .rw[if_pos h1]at h
   have e:(i+n).toNat=j:=Option.some.inj h
   exact⟨by rw[seqIndex_neg (by omega) h1,e],by omega,h1,by omega⟩
  .rw[if_neg h1]at h;cases h
theorem Mw{xs:List α}{v:α}(h:Lw xs i=some v):∃ j,seqIndex? i xs.length=some j/\xs[j]? =some v/\j<xs.length/\ -(xs.length:Int)<=i/\i<xs.length:=by
 unfold Lw at h
 cases e:ZY xs.length i with
 |none=>rw[e]at h;cases h
 |some j=>
  rw[e]at h
  obtain⟨h1,h2,h3,h4⟩:=LS e
  exact⟨j,h1,h,h2,h3,h4⟩
def Oh(b:Expr):Prop:=∀ o i,subscripted b false o i=operate [o,i] (getItem o i)
def IxR(X:Cx)(r:R2):Prop:=
 ∀ (value slice:Expr) (pins:List (Addr×Obj)) (s:Shared) (σ:St) (H:Hp) (x y:V) (v u:Value) (Q:VK),Inv X pins σ H s->RelV x v->RelV y u->r x y H Q->
  subscripted slice false v u=operate [v,u] (getItem v u)->wpAny (model X.prog X.w) X.A (subscriptTail value slice v u) (EP X pins σ Q) X.xe s
def UV(X:Cx)(id:String)(r:V->List V->Hp->VK->Prop):Prop:=
 ∀ (pins:List (Addr×Obj)) (s:Shared) (σ:St) (H:Hp) (x:V) (xs:List V) (v:Value) (us:List Value) (Q:VK),Inv X pins σ H s->RelV x v->Vals xs us->r x xs H Q->
  wpAny (model X.prog X.w) X.A (call (.builtin id) (v::us)) (EP X pins σ Q) X.xe s
variable{A:Around}{s:Shared}{y x:V}{u v:Value}{pins:List (Addr×Obj)}{σ:St}{H:Hp}
section
variable {a b:Expr}{ta tb:TE}
theorem IxR.or{r r':R2}(h:IxR X r)(h':IxR X r'):IxR X (λx y H Q=>r x y H Q\/r' x y H Q):=by
 intro value slice pins s σ H x y v u Q I rx ry q hs
 rcases q with q|q
 .exact h value slice pins s σ H x y v u Q I rx ry q hs
 .exact h' value slice pins s σ H x y v u Q I rx ry q hs
theorem G5{r:R2}(hr:IxR X r)(ha:PE X a ta)(hb:PE X b tb)(hs:Oh b):PE X (.Subscript a b pos) (K3 r ta tb):=by
 intro pins s σ H Q I h
 exact Subscript_ (AK ha hb I h λv u s2 x y H2 I2 rx ry q=>hr a b pins s2 σ H2 x y v u Q I2 rx ry q (hs _ _))
def O5(K:Frag):R2:=λx y H Q=>∃ p xs i v,x=.ref p/\y=.int i/\SqL K H p xs/\Lw xs i=some v/\Q v H
def Q5(K:Frag):R2:=λx y H Q=>∃ p xs i v,x=.ref p/\y=.int i/\SqT K H p xs/\Lw xs i=some v/\Q v H
def P5:R2:=λx y H Q=>∃ z i c,x=.str z/\y=.int i/\z.length<=sizeLine/\Lw z.cps.toList i=some c/\Q (.str ⟨#[c]⟩) H
theorem MS:IxR X (O5 X.K):=by
 intro value slice pins s σ H x y v u Q I rx ry h hs
 obtain⟨p,xs,i,z,rfl,rfl,hq,he,q⟩:=h
 cases rx
 obtain⟨t,rfl⟩:=ry
 obtain⟨its,r,pl,hz⟩:=I.list hq
 obtain⟨j,h1,h2,h3,h4,h5⟩:=Mw he
 obtain⟨w,ew,rw'⟩:=r.get h2
 have hl:=r.length
 have hn:=Lx
 have fin:EP X pins σ Q w s:=⟨z,H,I,rw',q⟩
 by_cases h0:0<=i
 .have hj:i.toNat=j:=by
   rw[seqIndex_of h0 h5]at h1
   exact Option.some.inj h1
  exact item_listR pl.isList h0 (by omega) (by rw[hj];simpa using ew) fin hs
 .have hj:(i+(its.toArray.size:Int)).toNat=j:=by
   rw[seqIndex_neg (by omega) h4]at h1
   rw[size_toArray,<-hl]
   exact Option.some.inj h1
  exact subscriptTail_builtinR (x:=w) pl.isList.typeIs slot_list_getitem.lookup
   (wpAny_getItem_list_neg (Q:=λr s'=>r=w/\EP X pins σ Q r s') pl.isList (by omega) (by rw[size_toArray]<;>omega) (by omega) (by rw[hj];simpa using ew) ⟨rfl,fin⟩) hs
theorem CZ:IxR X (Q5 X.K):=by
 intro value slice pins s σ H x y v u Q I rx ry h hs
 obtain⟨p,xs,i,z,rfl,rfl,hq,he,q⟩:=h
 cases rx
 obtain⟨t,rfl⟩:=ry
 obtain⟨its,r,pl,hz⟩:=I.tuple hq
 obtain⟨j,h1,h2,h3,h4,h5⟩:=Mw he
 obtain⟨w,ew,rw'⟩:=r.get h2
 have hl:=r.length
 have hn:=Lx
 have fin:EP X pins σ Q w s:=⟨z,H,I,rw',q⟩
 exact subscriptTail_builtinR (x:=w) pl.typeIs slot_tuple_getitem.lookup
  (getItem_tuple (j:=j) (Q:=λr s'=>r=w/\EP X pins σ Q r s') pl (by omega) (by omega) (by rw[size_toArray,<-hl];exact h1) (by simpa using ew) ⟨rfl,fin⟩) hs
theorem BZ:IxR X P5:=by
 intro value slice pins s σ H x y v u Q I rx ry h hs
 obtain⟨z,i,c,rfl,rfl,hz,he,q⟩:=h
 obtain⟨t,rfl⟩:=rx
 obtain⟨t',rfl⟩:=ry
 obtain⟨j,h1,h2,h3,h4,h5⟩:=Mw he
 have hl:z.cps.toList.length=z.length:=by simp[Str.length]
 rw[hl]at h1 h4 h5
 have hn:=Lx
 exact tail_any (typeIs_str s z t) slot_str_getitem.lookup (getItem_str (c:=c) (by
  have e1:decide (i< -(2^63:Int))=false:=decide_eq_false (by omega)
  have e2:decide (i>=2^63)=false:=decide_eq_false (by omega)
  rw[e1,e2,Bool.or_false]) (by rw[h1];simpa using h2) ⟨.str ⟨#[c]⟩,H,I.tok _,⟨_,rfl⟩,q⟩) hs
def rIx(K:Frag):R2:=λx y H Q=>O5 K x y H Q\/Q5 K x y H Q\/P5 x y H Q
theorem AZ:IxR X (rIx X.K):=MS.or (CZ.or BZ)
theorem Ny(lo hi:Option Int)(n:Nat):(sliceBounds lo hi none n).1=((HT.sIx n 0 lo:Nat):Int)/\(sliceBounds lo hi none n).2.1=((HT.sIx n n hi:Nat):Int)/\(sliceBounds lo hi none n).2.2=1:=by
 refine⟨?_,?_,rfl⟩
 .cases lo with
  |none=>simp[sliceBounds,HT.sIx]
  |some i=>
   simp only[sliceBounds,HT.sIx,Option.getD_none,show(1:Int)>0 by decide,if_true]
   by_cases h:i<0
   .simp only[h,if_true]<;>omega
   .simp only[h,if_false]<;>omega
 .cases hi with
  |none=>simp[sliceBounds,HT.sIx]
  |some i=>
   simp only[sliceBounds,HT.sIx,Option.getD_none,show(1:Int)>0 by decide,if_true]
   by_cases h:i<0
   .simp only[h,if_true]<;>omega
   .simp only[h,if_false]<;>omega
theorem Vu(its:List Value)(lo hi:Option Int):slicePick its.toArray lo hi none=((its.drop (HT.sIx its.length 0 lo)).take (HT.sIx its.length its.length hi-HT.sIx its.length 0 lo)).toArray:=by
 obtain⟨h1,h2,h3⟩:=Ny lo hi its.toArray.size
 unfold slicePick
 rw[h1,h2,h3]
 simp only[sliceRange_one,pick_run,size_toArray]<;>rfl
def A9(K:Frag):V->Option Int->Option Int->Hp->VK->Prop:=λx lo hi H Q=>∃ a xs,x=.ref a/\SqL K H a xs/\∀ p,H p=none->Q (.ref p) (Ib H p (.lst (EH xs lo hi)))
theorem ZU:U7 X (A9 X.K):=by
 intro pins s σ H x v vl vu lo hi sl Q I rx hs pl pu h
 obtain⟨a,xs,rfl,hx,q⟩:=h
 cases rx
 obtain⟨its,r,ht,hz⟩:=I.list hx
 have hlen:=r.length
 refine⟨"list",_,slot_list_getitem.lookup,ht.isList.typeIs,?_⟩
 refine wpAny_getItem_list_slice ht.isList hs pl pu .none (by simp) ?_ (by rw[size_toArray]<;>omega)
 rw[Vu,<-hlen]
 refine⟨.ref s.heap.objs.size,_,I.laid (t':=s.toks) (o:=.lst (EH xs lo hi)) (λb ob q=>get?_push_of_some _ q) (le_refl _) ?_,rfl,q _ (I.hok.fresh (le_refl _))⟩
 exact⟨le_trans (Dz xs lo hi) hz,_,0,(r.drop (HT.sIx xs.length 0 lo)).take (HT.sIx xs.length xs.length hi-HT.sIx xs.length 0 lo),get?_push_size _ rfl⟩
def Vm:V->Bool
 | .non=>true
 | .bl _=>true
 | .int _=>true
 | .str _=>true
 |_=>false
def ME:V->V->Bool
 | .non,.non=>true
 | .bl a,.bl b=>a==b
 | .bl a,.int b=>(if a then 1 else 0)==b
 | .int a,.bl b=>a==(if b then 1 else 0)
 | .int a,.int b=>a==b
 | .str a,.str b=>a==b
 |_,_=>false
theorem DY(ry:RelV y u)(rx:RelV x v)(fy:Vm y=true)(fx:Vm x=true):SeqAt.EqAt A s u v (ME y x):=by
 cases y with
 |non=>
  cases ry
  cases x with
  |non=>cases rx;exact SeqAt.EqAt.same _
  |bl b=>cases rx;exact SeqAt.EqAt.none_bool b
  |int b=>obtain⟨t,rfl⟩:=rx;exact SeqAt.EqAt.none_int b t
  |str b=>obtain⟨t,rfl⟩:=rx;exact SeqAt.EqAt.none_str b t
  |_=>exact absurd (show false=true from fx) Bool.false_ne_true
 |bl a=>
  cases ry
  cases x with
  |non=>cases rx;exact SeqAt.EqAt.bool_none a
  |bl b=>cases rx;exact SeqAt.EqAt.bool_bool a b
  |int b=>obtain⟨t,rfl⟩:=rx;exact SeqAt.EqAt.bool_int a b t
  |str b=>obtain⟨t,rfl⟩:=rx;exact SeqAt.EqAt.bool_str a b t
  |_=>exact absurd (show false=true from fx) Bool.false_ne_true
 |int a=>
  obtain⟨t',rfl⟩:=ry
  cases x with
  |non=>cases rx;exact SeqAt.EqAt.int_none a t'
  |bl b=>cases rx;exact SeqAt.EqAt.int_bool a t' b
  |int b=>obtain⟨t,rfl⟩:=rx;exact SeqAt.EqAt.int_int a t' b t
  |str b=>obtain⟨t,rfl⟩:=rx;exact SeqAt.EqAt.int_str a t' b t
  |_=>exact absurd (show false=true from fx) Bool.false_ne_true
 |str a=>
  obtain⟨t',rfl⟩:=ry
  cases x with
  |non=>cases rx;exact SeqAt.EqAt.str_none a t'
  |bl b=>cases rx;exact SeqAt.EqAt.str_bool a t' b
  |int b=>obtain⟨t,rfl⟩:=rx;exact SeqAt.EqAt.str_int a t' b t
  |str b=>obtain⟨t,rfl⟩:=rx;exact SeqAt.EqAt.str_str a t' b t
  |_=>exact absurd (show false=true from fx) Bool.false_ne_true
 |_=>exact absurd (show false=true from fy) Bool.false_ne_true
def OR(x:V)(u:Value):Bool:=match u with
 | .none=>ME .non x
 | .bool b=>ME (.bl b) x
 | .int i _=>ME (.int i) x
 | .str z _=>ME (.str z) x
 |_=>false
theorem CL(r:RelV y u)(f:Vm y=true):OR x u=ME y x:=by
 cases y with
 |non=>cases r;rfl
 |bl b=>cases r;rfl
 |int i=>obtain⟨t,rfl⟩:=r;rfl
 |str z=>obtain⟨t,rfl⟩:=r;rfl
 |_=>exact absurd (show false=true from f) Bool.false_ne_true
theorem Kw{x:V}:∀ {xs:List V} {us:List Value},Vals xs us->xs.all Vm=true->us.any (OR x)=xs.any λy=>ME y x
 |_,_,.nil,_=>rfl
 |y::xs,u::us,.cons r t,f=>by
  rw[all_cons,and_eq_true]at f
  rw[List.any_cons,List.any_cons,CL r f.1,Kw t f.2]
theorem Us{A:Around}{s:Shared}{x:V}{v:Value}(rx:RelV x v)(fx:Vm x=true):∀ {xs:List V} {us:List Value},Vals xs us->xs.all Vm=true->∀ u∈us,SeqAt.EqAt A s u v (OR x u)
 |_,_,.nil,_=>λu hu=>by cases hu
 |y::xs,u::us,.cons r t,f=>λu' hu=>by
  rw[all_cons,and_eq_true]at f
  rcases mem_cons.mp hu with rfl|hu
  .rw[CL r f.1];exact DY r rx f.1 fx
  .exact Us rx fx t f.2 u' hu
def B7(x:V)(xs:List V):Bool:=xs.any λy=>ME y x
def rIn(K:Frag)(neg:Bool):R2:=λx y H Q=>∃ p xs,y=.ref p/\(SqL K H p xs\/SqT K H p xs)/\Vm x=true/\xs.all Vm=true/\Q (.bl (if neg then !B7 x xs else B7 x xs)) H
theorem Uv:OpR X (compareOp .In) (rIn X.K false):=by
 intro pins s σ H x y v u Q I rx ry h
 obtain⟨p,xs,rfl,hq,fx,fs,q⟩:=h
 cases ry
 rcases hq with hq|hq
 .obtain⟨its,r,pl,hz⟩:=I.list hq
  refine SeqAt.in_listAt (OR x) pl.isList (λw hw=>Us rx fx r fs w (by simpa using hw)) ⟨.bl _,H,I,rfl,?_⟩
  rw[show its.toArray.any (OR x)=its.any (OR x) by simp,Kw r fs]
  exact q
 .obtain⟨its,r,pl,hz⟩:=I.tuple hq
  refine SeqAt.in_tupleAt (OR x) pl (λw hw=>Us rx fx r fs w (by simpa using hw)) ⟨.bl _,H,I,rfl,?_⟩
  rw[show its.toArray.any (OR x)=its.any (OR x) by simp,Kw r fs]
  exact q
theorem CallR.or{f:Value}{r r':List V->Hp->VK->Prop}(h:CallR X f r)(h':CallR X f r'):CallR X f (λxs H Q=>r xs H Q\/r' xs H Q):=by
 intro pins s σ H xs us Q I rs q
 rcases q with q|q
 .exact h pins s σ H xs us Q I rs q
 .exact h' pins s σ H xs us Q I rs q
theorem Pw:CallR X (.type "list") (λxs H Q=>∃ p ys,xs= [.ref p]/\(SqL X.K H p ys\/SqT X.K H p ys)/\∀ l,H l=none->Q (.ref l) (Ib H l (.lst ys))):=by
 intro pins s σ H xs us Q I r h
 obtain⟨p,ys,rfl,hq,q⟩:=h
 obtain⟨u,rfl,rx⟩:=Kn r
 cases rx
 have fin:∀ (its:List Value),Vals ys its->ys.length<=sizeLine->∀ (h':Heap) (c':Nat),(∀ b o',s.heap.get? b=some o'->h'.get? b=some o')->
   h'.get? s.heap.objs.size=some {cls:=.type "list",dict:=none,data:=.seq its.toArray c',slots:= #[]}->EP X pins σ Q (.ref s.heap.objs.size) {s with heap:=h'}:=λits r' hz h' c' kp e=>
  ⟨.ref s.heap.objs.size,_,I.laid (t':=s.toks) kp (le_refl _) (show ObjOk X.prog X.w _ h' _ (.lst ys) from⟨hz,its,c',r',e⟩),rfl,q _ (I.hok.fresh (le_refl _))⟩
 rcases hq with hq|hq
 .obtain⟨its,r',pl,hz⟩:=I.list hq
  have hlen:=r'.length
  obtain⟨o,ho,hc,n,hd⟩:=pl.isList
  exact call_list_seq p (.inl rfl) ho hc hd (λh' c' kp e=>fin its r' hz h' c' kp e) (by simp only[size_toArray]<;>omega)
 .obtain⟨its,r',pl,hz⟩:=I.tuple hq
  have hlen:=r'.length
  obtain⟨o,ho,hc,n,hd⟩:=pl
  exact call_list_seq p (.inr rfl) ho hc hd (λh' c' kp e=>fin its r' hz h' c' kp e) (by simp only[size_toArray]<;>omega)
theorem Hu:CallR X (.type "tuple") (λxs H Q=>∃ p ys,xs= [.ref p]/\((SqL X.K H p ys/\∀ l,H l=none->Q (.ref l) (Ib H l (.tup ys)))\/(SqT X.K H p ys/\Q (.ref p) H))):=by
 intro pins s σ H xs us Q I r h
 obtain⟨p,ys,rfl,h⟩:=h
 obtain⟨u,rfl,rx⟩:=Kn r
 cases rx
 rcases h with⟨hq,q⟩|⟨hq,q⟩
 .obtain⟨its,r',pl,hz⟩:=I.list hq
  have hlen:=r'.length
  refine call_tuple_list pl.isList (λh' kp=>?_) (by simp only[size_toArray]<;>omega)
  have I1:Inv X pins σ H {s with heap:=h'}:=I.kept (t':=s.toks) kp
  have I2:Inv X pins σ (Ib H h'.objs.size (.tup ys)) {s with heap:=h'.push {cls:=.type "tuple",data:=.seq its.toArray}}:=
   I1.laid (t':=s.toks) (λb o e=>get?_push_of_some _ e) (le_refl _) (show ObjOk X.prog X.w _ _ _ (.tup ys) from⟨hz,its,r',IsTup.new _ _⟩)
  exact⟨.ref h'.objs.size,_,I2,rfl,q _ (I1.hok.fresh (le_refl _))⟩
 .obtain⟨its,r',pl,hz⟩:=I.tuple hq
  exact call_tuple_same pl ⟨.ref p,H,I,rfl,q⟩
def tyV(K:Frag)(T:String)(x:V)(H:Hp):Prop:=match x with
 | .str _=>T="str"
 | .int _=>T="int"
 | .ref p=>(T="list"/\∃ xs,SqL K H p xs)\/(T="tuple"/\∃ o,K.lookup p=some o/\o.cls=.type "tuple"/\o.dict=none)\/
   (T="dict"/\((∃ kvs,H p=some (.dK kvs))\/∃ kvs,H p=some (.dT kvs)))\/(T="set"/\∃ S n,H p=some (.set S n))
 |_=>False
theorem CP{T:String}(I:Inv X pins σ H s)(r:RelV x v)(ty:tyV X.K T x H):
  s.TypeIs v T/\∀ a,v=.ref a->∃ ob,s.heap.get? a=some ob/\ob.dict=none:=by
 cases x with
 |str z=>
  obtain⟨t,rfl⟩:=r
  cases (show T="str" from ty)
  exact⟨typeIs_str s z t,λ_ e=>nomatch e⟩
 |int i=>
  obtain⟨t,rfl⟩:=r
  cases (show T="int" from ty)
  exact⟨typeIs_int s i t,λ_ e=>nomatch e⟩
 |ref p=>
  cases r
  rcases ty with⟨rfl,xs,hq⟩|⟨rfl,o,hk,hc,hd⟩|⟨rfl,hk⟩|⟨rfl,S,n,hk⟩
  .obtain⟨its,_,pl,_⟩:=I.list hq
   refine⟨pl.isList.typeIs,λa e=>?_⟩
   cases e
   obtain⟨o,n,e,c,hd,_⟩:=pl
   exact⟨o,e,hd⟩
  .refine⟨⟨o,I.kIn p o hk,hc⟩,λa e=>?_⟩
   cases e
   exact⟨o,I.kIn _ o hk,hd⟩
  .have z:∃ o,s.heap.get? p=some o/\o.ExactDict:=by
    rcases hk with⟨kvs,hk⟩|⟨kvs,hk⟩
    .obtain⟨_,_,_,_,o,_,_,e,ex,_⟩:=I.hok p _ hk
     exact⟨o,e,ex⟩
    .obtain⟨_,_,_,_,o,_,_,e,ex,_⟩:=I.hok p _ hk
     exact⟨o,e,ex⟩
   obtain⟨o,e,ex⟩:=z
   refine⟨⟨o,e,ex.1⟩,λa e2=>?_⟩
   cases e2
   exact⟨o,e,ex.2.1⟩
  .obtain⟨o,_,_,_,e,ex,_⟩:=I.hok p _ hk
   refine⟨⟨o,e,ex.1⟩,λa e2=>?_⟩
   cases e2
   exact⟨o,e,ex.2.1⟩
 |_=>exact False.elim ty
def L9(K:Frag)(T:String)(r:V->List V->Hp->VK->Prop)(to:TE):TE:=λσ H Q=>to σ H λx H1=>tyV K T x H1/\r x [] H1 Q
def tBM(K:Frag)(T:String)(r:V->List V->Hp->VK->Prop)(to:TE)(t:TA):TE:=λσ H Q=>to σ H λx H1=>tyV K T x H1/\t σ H1 λxs H2=>r x xs H2 Q
variable {o:Expr}{es:List Expr}{to:TE}{t:TA}{name:Str}{apos cpos:Pos}{T id:String}{r:V->List V->Hp->VK->Prop}
theorem J0(pa:PlainAttrs T)(slot:Slot T name id)(hty:typeOf (.builtin id)=pure (.type "method_descriptor"))(hm:UV X id r)(ho:PE X o to)(hbase:attributeBase o name X.env (eval o X.env)=eval o X.env:=by rfl)(hline:(apos.endLine==cpos.line)=true:=by rfl):PE X (.Call (.Attribute o name apos) [] [] cpos) (L9 X.K T r to):=by
 intro pins s σ H Q I h
 refine wpAny_Call_method0_late hbase hline (thn (ho pins s σ H _ I h) λv s1 ⟨x,H1,I1,r1,ty,q1⟩=>?_)
 obtain⟨h1,h2⟩:=CP I1 r1 ty
 exact⟨T,id,pa,slot,hty,h1,h2,Calls.callWith_builtin rfl (PySem.evalArgs_none (hm pins s1 σ H1 x [] v [] Q I1 r1 .nil q1))⟩
theorem Ft(pa:PlainAttrs T)(slot:Slot T name id)(hty:typeOf (.builtin id)=pure (.type "method_descriptor"))(hm:UV X id r)(ho:PE X o to)(ha:PA X (e::es) t)(hbase:attributeBase o name X.env (eval o X.env)=eval o X.env:=by rfl)(hfew:((backTo cpos (starEach (e::es) X.env)).all (λx=> !x.1)&&(backToKw cpos (keywordEach [] X.env)).all (λx=>x.1.isSome)
   &&decide ((e::es).length+([]:List Keyword).length+(if([]:List Keyword).isEmpty then 0 else 1)<30))=true:=by rfl)(hline:(apos.endLine==cpos.line)=true:=by rfl)(hs:starEach (e::es) X.env=(false,eval e X.env)::starEach es X.env:=by rfl)(hplain:(backTo cpos (starEach es X.env)).any (·.1)=false:=by rfl):
  PE X (.Call (.Attribute o name apos) (e::es) [] cpos) (tBM X.K T r to t):=by
 intro pins s σ H Q I h
 refine wpAny_Call_method_late hbase hfew hline rfl (thn (ho pins s σ H _ I h) λv s1 ⟨x,H1,I1,r1,ty,q1⟩=>?_)
 obtain⟨h1,h2⟩:=CP I1 r1 ty
 refine⟨T,id,pa,slot,hty,h1,h2,?_⟩
 have hA:=ha cpos pins s1 σ H1 _ I1 q1
 rw[hs]at hA ⊢
 refine Calls.callWith_builtin (by show(false||(backTo cpos (starEach es X.env)).any (·.1))=false;rw[hplain]<;>rfl) (Calls.evalArgs_plain ?_)
 exact thn hA λus s2 ⟨vs,H2,I2,r2,q2⟩=>hm pins s2 σ H2 x vs v us Q I2 r1 r2 q2
/- xs.append(e),list.index on a module's tuple .. are UV facts of 06m -/
end
def MtM(X:Cx)(id:String)(r:V->List V->Hp->VK->Prop):Prop:=
 ∀ (pins:List (Addr×Obj)) (s:Shared) (σ:St) (H:Hp) (x:V) (xs:List V) (v:Value) (us:List Value) (Q:VK),Inv X pins σ H s->RelV x v->Vals xs us->r x xs H Q->
  wpAny (model X.prog X.w) X.A (call (.builtin id) (v::us)) (EP X pins σ Q) X.xe s
theorem Vals.one:∀ {x:V} {us:List Value},Vals [x] us->∃ u,us= [u]/\RelV x u
 |_,_,.cons r .nil=>⟨_,rfl,r⟩
theorem Vals.two:∀ {x y:V} {us:List Value},Vals [x,y] us->∃ u v,us= [u,v]/\RelV x u/\RelV y v
 |_,_,_,.cons r (.cons q .nil)=>⟨_,_,rfl,r,q⟩
theorem Vals.rep(h:Vals xs us):∀ k:Nat,Vals (replicate k xs).flatten (replicate k us).flatten
 |0=>.nil
 |k+1=>by
  rw[replicate_succ,replicate_succ,flatten_cons,flatten_cons]
  exact Vals.append h (Vals.rep h k)
theorem Kv(its:List Value):∀ (k:Nat) (acc:List Value),
  List.foldl (λx1 x2=>x1++x2) acc.toArray (replicate k its.toArray)=(acc++(replicate k its).flatten).toArray
 |0,acc=>by simp
 |k+1,acc=>by
  have e:acc.toArray++its.toArray=(acc++its).toArray:=by simp
  have e2:(acc++its)++(replicate k its).flatten=acc++(replicate (k+1) its).flatten:=by
   rw[replicate_succ,flatten_cons,append_assoc]
  rw[<-e2,<-Kv its k (acc++its),<-e,replicate_succ,foldl_cons]
variable{its:List Value}{t':Nat}
section
variable {l b:Addr}{ys zs:List V}
theorem Inv.lset{its':List Value}{f:Array Value->Array Value}(I:Inv X pins σ H s)(hH:H l=some (.lst xs))(e:s.heap.get? l=some {cls:=.type "list",data:=.seq its.toArray n})(hf:f its.toArray=its'.toArray)(hv:Vals ys its')(hz:ys.length<=sizeLine):
  Inv X pins σ (Ib H l (.lst ys)) {s with heap:=s.heap.update l (Obj.mapSeq f),toks:=t'}:=by
 have q:=PySem.IsL.update e f
 rw[hf]at q
 refine I.write (x:=l) (e:=l) (by rw[hH];exact trivial) (.inl rfl) (λb' u hb hu=>(Heap.get?_update_other s.heap (Obj.mapSeq f) (Ne.symm hb)).trans hu) ⟨_,q⟩ ?_
 exact⟨hz,its',_,hv,q⟩
theorem Inv.lnew(I:Inv X pins σ H s)(hv:Vals ys its)(hz:ys.length<=sizeLine):
  Inv X pins σ (Ib H s.heap.objs.size (.lst ys)) {s with heap:=s.heap.push {cls:=.type "list",data:=.seq its.toArray},toks:=t'}:=
 I.laid (λ_ _ q=>get?_push_of_some _ q) (le_refl _) ⟨hz,its,0,hv,get?_push_size _ rfl⟩
theorem Inv.fresh(I:Inv X pins σ H s):H s.heap.objs.size=none:=I.hok.fresh (le_refl _)
theorem Inv.lstM(I:Inv X pins σ H s)(hH:H l=some (.lst xs)):xs.length<=sizeLine/\∃ (its:List Value) (n:Nat),Vals xs its/\xs.length=its.length/\s.heap.get? l=some {cls:=.type "list",data:=.seq its.toArray n}:=by
 obtain⟨z,its,n,r,e⟩:=I.hok l _ hH
 exact⟨z,its,n,r,r.length,e⟩
theorem EN(h:n<=sizeLine):Builtin.List.listTooLong n=false:=by
 unfold Builtin.List.listTooLong
 exact decide_eq_false (by omega)
end
def MU:V->List V->Hp->VK->Prop:=λx vs H Q=>∃ l xs y,x=.ref l/\vs= [y]/\H l=some (.lst xs)/\xs.length<sizeLine/\Q .non (Ib H l (.lst (xs++ [y])))
theorem Vp:MtM X "list.append" MU:=by
 intro pins s σ H x vs v us Q I rx rv h
 obtain⟨l,xs,y,rfl,rfl,hH,hz,q⟩:=h
 cases rx
 obtain⟨u,rfl,ru⟩:=rv.one
 obtain⟨z,its,n,r,hl,e⟩:=I.lstM hH
 refine call_meets F.slot_list_append ⟨_,e,rfl⟩ F.entry_list_append (F.args_list_append_2 _ _) (PySem.list_append l its.toArray n u (by rw[size_toArray];omega)) ⟨e,?_⟩
 refine⟨.non,_,I.lset (its':=its++ [u]) hH e (by simp) (r.append (.cons ru .nil)) ?_,rfl,q⟩
 rw[length_append,length_singleton]
 omega
def NU:V->List V->Hp->VK->Prop:=λx vs H Q=>∃ l b xs zs,x=.ref l/\vs= [.ref b]/\H l=some (.lst xs)/\H b=some (.lst zs)/\xs.length+zs.length<=sizeLine/\Q .non (Ib H l (.lst (xs++zs)))
theorem AI:MtM X "list.extend" NU:=by
 intro pins s σ H x vs v us Q I rx rv h
 obtain⟨l,b,xs,zs,rfl,rfl,hH,hB,hz,q⟩:=h
 cases rx
 obtain⟨u,rfl,ru⟩:=rv.one
 cases ru
 obtain⟨z,its,n,r,hl,e⟩:=I.lstM hH
 obtain⟨z2,its2,n2,r2,hl2,e2⟩:=I.lstM hB
 have hsz:its.toArray.size+its2.toArray.size<=sizeLine:=by rw[size_toArray,size_toArray];omega
 have hlong:¬ (!its.toArray.isEmpty&&Builtin.List.listTooLong (its.toArray.size+its2.toArray.size))=true:=by
  rw[EN hsz,Bool.and_false]
  exact Bool.false_ne_true
 refine call_meets F.slot_list_extend ⟨_,e,rfl⟩ F.entry_list_extend (F.args_list_extend_2 _ _)
  (AutoSeq1.list_extend_list_list_0 l its.toArray n b its2.toArray n2 hlong (by rw[size_toArray];omega) (by omega)) ⟨e,e2,?_⟩
 refine⟨.non,_,I.lset (its':=its++its2) hH e (by simp) (r.append r2) ?_,rfl,q⟩
 rw[length_append]
 omega
theorem EF(xs:List α)(k:Nat):(replicate k xs).flatten.length=k*xs.length:=by
 induction k with
 |zero=>simp
 |succ k ih=>rw[replicate_succ,flatten_cons,length_append,ih,Nat.succ_mul,Nat.add_comm]
section
variable {prog:Program}{w:World}{E:Value->Shared->Prop}
end
end L2
namespace Att
open PySem PySem.W PySem.Calls PyProof.Rows
variable{P:Params}
theorem Dr{h:Heap}:∀ (ns:List Int) (vs:List Value),WellAll P h vs (ns.map WData.int)->IntsAre vs ns:=by
 intro ns
 induction ns with
 |nil=>
  intro vs w
  rw[map_nil]at w
  cases w
  exact .nil
 |cons n ns ih=>
  intro vs w
  rw[map_cons]at w
  cases w with
  |cons a b=>
   cases a
   exact .cons _ _ (ih _ b)
variable{l:OpenLaw}{n:Nat}
theorem BJ(hn:l.most=some n){h:Heap}{args:List WData}{vals:List Value}(hpre:l.row.toRowW.claim.pre args=true)(hwl:WellAll P h vals args):
  ∃ a vs ns,vals= [Value.ref a]/\args= [WData.list (ns.map WData.int)]/\h.get? a=some {cls:=.type "list",data:=.seq vs.toArray}/\IntsAre vs ns/\ns.length<=n:=by
 have hsh:WShape.hasAll [] args [.list .int]=true:=(pre_splitW hpre).1
 have hc:l.pre.holds [] {args:=args}=true:=(pre_splitW hpre).2
 obtain⟨d,r,rfl,h1,h2⟩:=hasAllW_cons hsh
 obtain rfl:=hasAllW_nil h2
 obtain⟨xs,rfl,h3⟩:=hasW_list h1
 obtain⟨ns,rfl⟩:=items_int h3
 have hlen:ns.length<=n:=by
  unfold OpenLaw.pre at hc
  have h4:(WTm.not (.lt (.lit (.int (n:Int))) (.len (.arg 0)))).holds [] {args:= [.list (ns.map .int)]}=true:=by
   have h4:=(holds_andW hc).1
   rw[hn]at h4
   exact h4
  have h5:=condW_of h4 (w_not (w_lt w_lit (w_len_list (w_arg rfl))))
  rw[length_map]at h5
  refine Nat.le_of_not_lt λq=>?_
  have q':(n:Int)<((ns.length:Nat):Int):=by omega
  first
   |(rw[decide_eq_true q']at h5;exact absurd h5 (by decide))
   |(simp at h5;omega)
 cases hwl with
 |cons w1 w2=>
  cases w2
  cases w1 with
  |list ho hall=>exact⟨_,_,ns,rfl,rfl,ho,Dr ns _ hall,hlen⟩
theorem LI(l:OpenLaw)(args:List WData):l.row.toRowW.claim.post args (.bool true) args=true:=
 postW_of (r:=l.row.toRowW) (X:=(true==true))
  (show WShape.has [] (.bool true) .bool=true by first|rfl|decide|simp[WShape.has,WShape.arms,WShape.armsAll])
  (show(WTm.eq .res (.lit (.bool true))).value [] {args:=args,res:=some (.bool true),after:=args}=some (.bool (true==true)) from w_eq_bool (w_res rfl) w_lit) rfl
theorem attach_call{q:Program}{loose:List Str}{XP:(Str->Option Value)->Heap->Prop}{YP:World->Heap->Prop}{d:DefRec}(hn:l.most=some n)(hdf:d.params.defaults= [])(call:∀ (w:World) (s₀ s₁:Shared) (mg mb:Str->Option Value) (fa:Addr) (o:Obj) (pm cd doc:Value) (a:Addr) (vs:List Value) (ns:List Int),
   Ground q loose [] XP w s₀ mg mb s₁.heap->YP w s₁.heap->
   s₁.heap.get? fa=some o->o.data=.func (docDef d.name d.params d.body d.scope pm cd doc)->s₁.heap.CodeRec cd d.name->mg d.name=some (.ref fa)->
   s₁.heap.get? a=some {cls:=.type "list",data:=.seq vs.toArray}->IntsAre vs ns->ns.length<=n->s₁.gens= #[]->
   codeAny (model l.prog w) callerA (.call (.ref fa) ⟨[.ref a],[]⟩) (λr s'=>r=.ok (.ret (.bool true))/\OldK s₁.heap s'.heap/\s'.os=s₁.os/\AllBare s'.gens) s₁):
  WalkO q loose XP YP l.row.toRowW d [] (λf vs=>PySem.call f vs):=by
 intro w s₀ s₁ mg mb G Y fa o pm cd doc dV kV ho hd hcd hD hmg hg args vals as hpre hlay hrd hwl hlo
 obtain rfl:dV=.none:=Dflts.none hD hdf
 obtain rfl:kV=.none:=Dflts.noKw hD
 obtain⟨a,vs,ns,rfl,rfl,hobj,hints,hlen⟩:=BJ hn hpre hwl
 refine enter_call (codeAny_mono (call w s₀ s₁ mg mb fa o pm cd doc a vs ns G Y ho (fd_plain hd) hcd hmg hobj hints hlen hg) λr s' hq=>?_)
 obtain⟨rfl,h2,h3,h4⟩:=hq
 exact⟨.inl ⟨.bool true,.bool true,[],rfl,λ_=>rfl,.bool true,LI l _,λ_=>⟨List.Pairwise.nil,λ_ hm=>(nomatch hm)⟩⟩,h2,h3,h4⟩
section
variable {prog:Program}{w:World}{A:Around}{E:Value->Shared->Prop}{s:Shared}{K:Frag}
end
end Att
namespace L2
open PySem PySem.Spec PyProof.Rows
theorem vals_ints:∀ {vs:List Value} {ns:List Int},IntsAre vs ns->Vals (ns.map V.int) vs
 |_,_,.nil=>.nil
 |_,_,.cons n t h=>.cons ⟨t,rfl⟩ (vals_ints h)
def LW(H:Hp):Prop:=∀ b,H b=none\/∃ o xs,H b=some (.frz o (.lst xs))
variable{k:Nat}{x:Str}
theorem PM{P:Program}{w:World}{K:Frag}{mg mb:Str->Option Value}{CX:Fw}{fa a:Addr}{fd:FuncData}{sp:Sp}{s₁:Shared}{vs:List Value}{ns:List Int}(KX:K.In s₁.heap)(hns:s₁.heap.Ns mainGlobals mg)(hb:s₁.heap.Ns builtinsNs mb)(hbb:∀ x:Str,x≠"__name__"->mb x=bootBuiltins x)(hlim:s₁.heap.NoLimit)(hg:s₁.gens= #[])(ha:s₁.heap.get? a=some {cls:=.type "list",data:=.seq vs.toArray})(hi:IntsAre vs ns)(hl:ns.length<=sizeLine)(hr:Room k callerA)(F:∀ base:Heap,K.In base->base.Ns mainGlobals mg->FnOk P w K mg base CX k fa fd [x] sp)(hbind:∀ (s:Shared) (u:Value),BindsTo s fd ⟨[u],[]⟩ [(x,u)])(hsp:∀ H:Hp,LW H->SqL K H a (ns.map V.int)->sp [.ref a] H (λv _=>v=.bl true) λ_ _ _=>False)(hCX:∀ H e s',CX [] H s₁ (λ_ _ _=>False) e s'->False):
  codeAny (model P w) callerA (.call (.ref fa) ⟨[.ref a],[]⟩) (λr s'=>r=.ok (.ret (.bool true))/\OldK s₁.heap s'.heap/\s'.os=s₁.os/\AllBare s'.gens) s₁:=by
 have rv:=vals_ints hi
 have lenV:=hi.length
 have core:∀ H:Hp,LW H->SqL K H a (ns.map V.int)->HOk P w H s₁.heap->(∀ b,H b≠none->b=a)->(H a≠none->K.lookup a=none)->
   codeAny (model P w) callerA (.call (.ref fa) ⟨[.ref a],[]⟩) (λr s'=>r=.ok (.ret (.bool true))/\OldK s₁.heap s'.heap/\s'.os=s₁.os/\AllBare s'.gens) s₁:=by
  intro H hO hS hok hA hK
  have base_of:∀ {b:Addr} {o:Obj},s₁.heap.get? b=some o->H b=none->(Fx s₁.heap H).get? b=some o:=λe n=>QL e n
  have noA:∀ {b:Addr} {o:Obj} {es:Array DictEntry} {ep:Nat},s₁.heap.get? b=some o->o.data=.dict es ep->H b=none:=λ{b o es ep} e d=>by
   cases q:H b with
   |none=>rfl
   |some u=>
    have e':b=a:=hA b (by rw[q];simp)
    subst e'
    rw[ha]at e;cases e
    have d':Data.seq vs.toArray _=Data.dict es ep:=d
    cases d'
  have nsK:∀ {b:Addr} {m:Str->Option Value},s₁.heap.Ns b m->(Fx s₁.heap H).Ns b m:=λ{b m} ⟨o,es,ep,e,d,r⟩=>⟨o,es,ep,base_of e (noA e d),d,r⟩
  have hKb:K.In (Fx s₁.heap H):=λb o e=>base_of (KX b o e) (by
   cases q:H b with
   |none=>rfl
   |some u=>
    have e':b=a:=hA b (by rw[q];simp)
    subst e'
    rw[hK (by rw[q];simp)]at e;cases e)
  have hM:Mod K mg (Fx s₁.heap H):=⟨hKb,nsK hns,⟨mb,nsK hb,hbb⟩,let ⟨mc,h1,h2⟩:=hlim;⟨mc,nsK h1,h2⟩⟩
  have e0:Env0 P w K mg (Fx s₁.heap H) callerA [] s₁ H:=⟨rfl,hM,λb o e=>GT e,Nat.le_of_eq (QH _ _),trivial,λb hb=>absurd (show b∈([]:List Addr) from hb) (by simp),hok,.of_eq hg⟩
  refine codeAny_mono ((F _ hKb (nsK hns)).run callerA [] s₁ H ⟨[.ref a],[]⟩ [.ref a] [.ref a] _ _ hr e0 (hbind s₁ (.ref a)) (.cons rfl .nil) (hsp H hO hS)) λr s' h=>?_
  cases r with
  |error e=>exact(hCX H e s' h).elim
  |ok fl=>
   cases fl with
   |next=>exact False.elim h
   |brk=>exact False.elim h
   |cont=>exact False.elim h
   |ret u=>
    obtain⟨v,H',os,bare,un,hok',r',q⟩:=h
    have q':v=.bl true:=q
    subst q'
    obtain rfl:u=Value.bool true:=r'
    refine⟨rfl,OldK.of_keep λb o e=>?_,os,bare⟩
    cases q:H b with
    |none=>exact un.keep b o e q (by intro z;exact absurd (show b∈([]:List Addr) from z) (by simp)) (by simp)
    |some u=>
     rcases hO b with z|⟨ob,xs,z⟩
     .rw[q]at z;cases z
     .have z2:=un.frzs b ob _ z
      obtain⟨e1,_⟩:=hok b _ z
      obtain⟨e2,_⟩:=hok' b _ z2
      rw[e]at e1;cases e1
      exact e2
 cases hk:K.lookup a with
 |some o=>
  have e:=KX a o hk
  rw[ha]at e
  cases e
  refine core (λ_=>none) (λ_=>.inl rfl) (.inr ⟨_,vs.toArray,_,hk,rfl,rfl,rfl,by rw[size_toArray,lenV];exact hl,by simpa using rv⟩) (λb u z=>by have z':(none:Option HO)=some u:=z;cases z') (λb z=>absurd rfl z) λz=>absurd rfl z
 |none=>
  refine core (λb=>if b=a then some (.frz {cls:=.type "list",data:=.seq vs.toArray} (.lst (ns.map V.int))) else none) (λb=>?_) (.inl (.inr ⟨{cls:=.type "list",data:=.seq vs.toArray},if_pos rfl⟩)) (λb u z=>?_) (λb z=>?_) λ_=>hk
  .by_cases hb:b=a
   .exact .inr ⟨_,_,if_pos hb⟩
   .exact .inl (if_neg hb)
  .by_cases hb:b=a
   .have z':=(if_pos hb).symm.trans z
    cases z'
    subst hb
    exact⟨ha,by rw[length_map];exact hl,vs,_,rv,ha⟩
   .have z':=(if_neg hb).symm.trans z
    cases z'
  .by_cases hb:b=a
   .exact hb
   .exact absurd (if_neg hb) z
theorem walk_of{l:PySem.W.OpenLaw}{n:Nat}{q:Program}{loose:List Str}{XP:(Str->Option Value)->Heap->Prop}{YP:World->Heap->Prop}{d:DefRec}{K:Params->Frag}{CX:World->Fw}{sp:World->Sp}(hn:l.most=some n)(hn2:n<=sizeLine)(hdf:d.params.defaults= [])(hr:Room k callerA)(hY:∀ (w:World) (h:Heap),YP w h->(K w.params).In h)(F:∀ (w:World) (mg:Str->Option Value) (fa:Addr) (h:Heap),(K w.params).In h->h.Ns mainGlobals mg->mg d.name=some (.ref fa)->
   ∃ fd:FuncData,(∀ (s:Shared) (u:Value),BindsTo s fd ⟨[u],[]⟩ [(x,u)])/\
    ∀ base:Heap,(K w.params).In base->base.Ns mainGlobals mg->FnOk l.prog w (K w.params) mg base (CX w) k fa fd [x] (sp w))(hsp:∀ (w:World) (H:Hp) (a:Addr) (ns:List Int),ns.length<=n->LW H->SqL (K w.params) H a (ns.map V.int)->sp w [.ref a] H (λv _=>v=.bl true) λ_ _ _=>False)(hCX:∀ (w:World) (H:Hp) (s:Shared) (e:Value) (s':Shared),CX w [] H s (λ_ _ _=>False) e s'->False):
  PySem.W.WalkO q loose XP YP l.row.toRowW d [] (λf vs=>PySem.call f vs):=by
 refine Att.attach_call hn hdf λw s₀ s₁ mg mb fa o pm cd doc a vs ns G Y ho hd hcd hmg hobj hints hlen hg=>?_
 have KX:=hY w _ Y
 obtain⟨fd,hb,hF⟩:=F w mg fa _ KX G.T.g hmg
 exact PM KX G.T.g G.T.b G.T.builtins G.T.nolimit hg hobj hints (le_trans hlen hn2) hr hF hb (λH hO hS=>hsp w H a ns hlen hO hS) λH e s'=>hCX w H s₁ e s'
end L2
/- THE LAST THEOREM (shape; LID, My.* are yours):
   My.Adr: a structure of the addresses that your layer names (classes, functions); My.Txt K t: a structure (Prop) of the equations over K;
   My.txt_mk : {K} {implicit addresses ..} (e1 : nsIn K mainGlobals "law" = some (some (.ref f))) (e2 : K.lookup f = some ⟨oc, od,.func (fnOf "law" "law" params body scope dV kV doc pm an cdv ct), sl⟩) (e3 : codeIn K cdv "law" = true) .. : ∃ t, My.Txt K t
(the tactic k_is has no namespace: write k_is) -/
namespace L2
open PySem PySem.Spec PyProof.Rows
def YE(s:Stmt)(j:Nat):Stmt:=match s with
 | .ClassDef _ _ _ body _ _ _ _ _ _ _=>body.getD j (.Pass ⟨0,0,0,0⟩)
 |_=>.Pass ⟨0,0,0,0⟩
def Jb(s:Stmt):Arguments:=match s with
 | .FunctionDef _ a _ _ _ _ _ _ _ _=>a
 |_=> {posonlyargs:= [],args:= [],vararg:=none,kwonlyargs:= [],kw_defaults:= [],kwarg:=none,defaults:= []}
def Xa(s:Stmt):List Stmt:=match s with
 | .FunctionDef _ _ b _ _ _ _ _ _ _=>b
 |_=> []
def Da(s:Stmt):Scope:=match s with
 | .FunctionDef _ _ _ _ _ _ sc _ _ _=>sc
 |_=> {kind:=.function,names:= [],isGenerator:=false,isCoroutine:=false}
abbrev Co:Fw:=λ_ _ _ _ _ _=>False
abbrev E0:XK:=λ_ _ _=>False
variable{X:Cx}
theorem EW:Nn Co X E0:=λ_ _ _ _ _ _ _ h=>h.elim
structure Fun(K:Frag)(x qual:Str)(st:Stmt)(f:Addr)(fd:FuncData):Prop where
 ex:∃ (oc:Value) (od:Option Addr) (kV doc pm:Value) (an:Option Addr) (cdv ct:Value) (osl:Array (Option Value)),
  fd=fnOf x qual (Jb st) (Xa st) (Da st) .none kV doc pm an cdv ct/\K.lookup f=some ⟨oc,od,.func fd,osl⟩/\codeIn K cdv qual=true
 kp:keepIn K (.ref f)=true
variable{x qual:Str}{st:Stmt}{f:Addr}{fd:FuncData}{ps:List Str}
section
variable {P:Program}{w:World}{K:Frag}{mg:Str->Option Value}{base:Heap}
theorem Fun.ok{N:List Str}{k:Nat}{sp:Sp}(F:Fun K x qual st f fd)(S:FnScope N ps (Da st))(len:∀ vs H Q E,sp vs H Q E->vs.length=ps.length)(hbody:∀ (cdv:Value) (A:Around) (outer:List Env) (s:Shared) (H:Hp) (vs:List V) (Q:VK) (E:XK),Room k (A.deeper (envOfC qual (Da st) s.heap.objs.size f cdv))->sp vs H Q E->
   ∃ t,PSs (Vk Co P w K mg base N qual (Da st) f cdv A outer s H E).nox (Xa st) t/\t {nx:=λ_ H'=>Q .non H',rt:=Q} (start N vs) H):FnOk P w K mg base Co (k+1) f fd ps sp:=by
 obtain⟨oc,od,kV,doc,pm,an,cdv,ct,osl,rfl,lk,hcd⟩:=F.ex
 refine YV lk hcd S len λA outer s H vs Q E hr hsp=>?_
 obtain⟨t,h,q⟩:=hbody cdv A outer s H vs Q E hr hsp
 exact⟨t,h.nox,q⟩
theorem Fun.binds(F:Fun K x qual st f fd)(h:∀ (kV doc pm:Value) (an:Option Addr) (cdv ct:Value) (us:List Value),us.length=ps.length->bindArgs (fnOf x qual (Jb st) (Xa st) (Da st) .none kV doc pm an cdv ct) ⟨us,[]⟩=pure (ps.zip us)):Binds K fd ps []:=by
 obtain⟨oc,od,kV,doc,pm,an,cdv,ct,osl,rfl,lk,hcd⟩:=F.ex
 exact .all (h kV doc pm an cdv ct)
theorem Bc{oc:Value}{od an:Option Addr}{osl:Array (Option Value)}{kV doc pm cdv ct:Value}(l:K.lookup f=some ⟨oc,od,.func (fnOf x qual (Jb st) (Xa st) (Da st) .none kV doc pm an cdv ct),osl⟩)(c:codeIn K cdv qual=true)(k:keepIn K (.ref f)=true):Fun K x qual st f (fnOf x qual (Jb st) (Xa st) (Da st) .none kV doc pm an cdv ct):=⟨⟨oc,od,kV,doc,pm,an,cdv,ct,osl,rfl,l,c⟩,k⟩
end
theorem pv(i:Nat){pos:Pos}(hN:X.N[i]? =some x:=by rfl)(hv:Jw X.env.scope x:=by first|exact Or.inl rfl|exact Or.inr (Or.inl rfl)|exact Or.inr (Or.inr rfl))(hd:(x==("__debug__":Str))=false:=by decide)(hcd:(x==("__classdict__":Str))=false:=by decide):PE X (.Name x pos) (K6 i):=Fh hN hv hd hcd
def Same(H H':Hp):Prop:=∀ b o,H b=some o->H' b=some o
theorem Same.refl(H:Hp):Same H H:=λ_ _ h=>h
variable{H:Hp}
theorem Same.trans{H1 H2:Hp}(a:Same H H1)(b:Same H1 H2):Same H H2:=λc o h=>b c o (a c o h)
theorem Same.free{H':Hp}(e:Same H H'){l:Addr}(h:H' l=Option.none):H l=Option.none:=by
 cases q:H l with
 |none=>rfl
 |some o=>
  rw[e l o q]at h
  cases h
end L2
set_option maxHeartbeats 4000000
namespace L3
open PySem PySem.Spec PyProof.Rows L2
inductive D where
 |non|bl (b:Bool)|int (i:Int)|str (x:Str)|tup (ds:List D)|lst (ds:List D)|dct (ks:List Jd) (ds:List D)|exc (c:Str) (ds:List D)|obj (c:Str) (ks:List Str) (ds:List D)
inductive Res(α:Type) where
 |ok (a:α)|ex (c:Str) (fs:List D)|stuck
variable{α β:Type}
def Res.bind(r:Res α)(k:α->Res β):Res β:=match r with
 | .ok a=>k a
 | .ex c fs=>.ex c fs
 | .stuck=>.stuck
theorem Res.bind_ok(a:α)(k:α->Res β):(Res.ok a).bind k=k a:=rfl
theorem Res.bind_ex(c:Str)(fs:List D)(k:α->Res β):(Res.ex c fs).bind k=.ex c fs:=rfl
theorem Res.bind_stuck(k:α->Res β):(Res.stuck:Res α).bind k=.stuck:=rfl
inductive Ch where
 |d (x:D)|l (ds:List D)|q (ks:List Jd) (ds:List D)
inductive Tp where
 |lst|dct (ks:List Jd)|ins (c:Str) (ks:List Str)|tup
inductive S where
 |d (x:D)|o (ds:List D)|q (ks:List Jd) (ds:List D)|w (dss:List (List D))|k (t:Tp) (cs:List Ch)
def KQ:Tp->Prop
 | .tup=>False
 |_=>True
def MG:Ch->Prop
 | .d _=>False
 |_=>True
def RH:HO->List V
 | .lst xs=>xs
 | .tup xs=>xs
 | .dK kvs=>kvs.map (·.2)
 | .ins _ _ fs=>fs.map (·.2)
 |_=> []
def TpOk(K:Frag):Tp->HO->Prop
 | .lst,.lst _=>True
 | .tup,.tup _=>True
 | .dct ks,.dK kvs=>kvs.map (·.1)=ks
 | .ins c ks,.ins C _ fs=>nsIn K mainGlobals c=some (some (.ref C))/\fs.map (·.1)=ks
 |_,_=>False
def Ow:S->Prop
 | .d _=>False
 | .k t _=>KQ t
 |_=>True
def Do:HO->Prop
 | .lst _=>True
 | .dK _=>True
 | .ins _ _ _=>True
 |_=>False
abbrev Ga:=List (Option S)
abbrev Dx:=Option Addr×Bool
def Fi(a:Addr)(C:Value)(dx:Dx):Heap->Prop:=λh=>∃ o vs,h.get? a=some o/\o.cls=C/\o.dict=dx.1/\o.data=.fields vs/\(dx.2=true->vs[2]? =some .none)
def OO:D->Option V
 | .non=>some .non
 | .bl b=>some (.bl b)
 | .int i=>some (.int i)
 | .str x=>some (.str x)
 |_=>none
def ExV(H:Hp)(x:D)(v:V):Prop:=OO x=some v\/∃ ds a o xs,x=.lst ds/\v=.ref a/\H a=some (.frz o (.lst xs))/\ds.map OO=xs.map some
def ExVs(H:Hp):List D->List V->Prop
 | [],[]=>True
 |x::ds,v::vs=>ExV H x v/\ExVs H ds vs
 |_,_=>False
def ExD(H:Hp)(dx:Option Addr)(ns vs:List D):Prop:=∃ d kvs,dx=some d/\H d=some (.xd kvs)/\ns=kvs.map (λp=>D.str p.1)/\ExVs H vs (kvs.map (·.2))
def ExF0(H:Hp)(dx:Dx):List D->Prop
 | []=>True
 | .tup ns::vs=>ExD H dx.1 ns vs
 |_=>False
def ExF(H:Hp)(dx:Dx):List D->Prop
 | .non::fs=>ExF0 H dx fs
 |fs=>dx.2=true/\ExF0 H dx fs
variable{H H':Hp}
theorem ExVs.to(k:∀ b o u,H b=some (.frz o u)->H' b=some (.frz o u)):∀ {ds:List D} {vs:List V},ExVs H ds vs->ExVs H' ds vs
 | [],[],h=>h
 |_::_,_::_,⟨h,t⟩=>⟨by
   rcases h with h|⟨ds,a,o,xs,e1,e2,e3,e4⟩
   .exact .inl h
   .exact .inr ⟨ds,a,o,xs,e1,e2,k _ _ _ e3,e4⟩,t.to k⟩
 | [],_::_,h=>h.elim
 |_::_,[],h=>h.elim
theorem ExD.to{dx:Option Addr}{ns vs:List D}(k:∀ b o u,H b=some (.frz o u)->H' b=some (.frz o u))(k2:∀ b kvs,H b=some (.xd kvs)->H' b=some (.xd kvs))(h:ExD H dx ns vs):ExD H' dx ns vs:=
 let ⟨d,kvs,e1,e2,e3,e4⟩:=h
 ⟨d,kvs,e1,k2 _ _ e2,e3,e4.to k⟩
variable{dx:Dx}
theorem ExF0.to(k:∀ b o u,H b=some (.frz o u)->H' b=some (.frz o u))(k2:∀ b kvs,H b=some (.xd kvs)->H' b=some (.xd kvs)){fs:List D}(h:ExF0 H dx fs):ExF0 H' dx fs:=by
 cases fs with
 |nil=>trivial
 |cons y vs=>
  cases y with
  |tup ns=>exact ExD.to k k2 h
  |_=>exact h.elim
theorem ExF.to(k:∀ b o u,H b=some (.frz o u)->H' b=some (.frz o u))(k2:∀ b kvs,H b=some (.xd kvs)->H' b=some (.xd kvs)){fs:List D}(h:ExF H dx fs):ExF H' dx fs:=by
 cases fs with
 |nil=>exact h
 |cons y vs=>
  cases y with
  |non=>exact ExF0.to (fs:=vs) k k2 h
  |tup ns=>exact⟨h.1,ExF0.to (fs:=.tup ns::vs) k k2 h.2⟩
  |_=>exact h.2.elim
abbrev WS:=Addr->Prop
section
variable (K:Frag)(W:WS)(H:Hp)
def LR(a:Addr)(xs:List V):Prop:=(H a=some (.lst xs)/\¬ W a)\/((∃ o,H a=some (.frz o (.lst xs)))\/∃ (o:Obj) (its:Array Value) (n:Nat),K.lookup a=some o/\o.cls=.type "list"/\o.dict=none/\o.data=.seq its n/\its.size<=sizeLine/\Vals xs its.toList)
mutual
def Has:D->V->Prop
 | .non,v=>v=.non
 | .bl b,v=>v=.bl b
 | .int i,v=>v=.int i
 | .str x,v=>v=.str x
 | .tup ds,v=>∃ a xs,v=.ref a/\SqT K H a xs/\HasL ds xs
 | .lst ds,v=>∃ a xs,v=.ref a/\LR K W H a xs/\HasL ds xs
 | .dct ks ds,v=>∃ a kvs,v=.ref a/\(∃ o,H a=some (.frz o (.dK kvs)))/\kvs.map (·.1)=ks/\HasL ds (kvs.map (·.2))
 | .exc c fs,v=>∃ a C dx,v=.ref a/\nsIn K mainGlobals c=some (some C)/\H a=some (.ext (Fi a C dx))/\ExF H dx fs
 | .obj c ks ds,v=>∃ a C dx fs,v=.ref a/\nsIn K mainGlobals c=some (some (.ref C))/\H a=some (.ins C dx fs)/\¬ W a/\fs.map (·.1)=ks/\HasL ds (fs.map (·.2))
def HasL:List D->List V->Prop
 | [],xs=>xs= []
 |d::ds,xs=>∃ x r,xs=x::r/\Has d x/\HasL ds r
end
end
variable{K:Frag}{W:WS}{a:Addr}{xs:List V}
theorem LR.sq(h:LR K W H a xs):SqL K H a xs:=by
 rcases h with⟨h,_⟩|⟨o,h⟩|h
 .exact .inl (.inl h)
 .exact .inl (.inr ⟨o,h⟩)
 .exact .inr h
def Zi(W:WS)(H H':Hp):Prop:=∀ b o,H b=some o->¬ W b->H' b=some o
def WL(W:WS)(H:Hp):Prop:=∀ b,W b->∃ o,H b=some o/\Do o
theorem Same.keep(h:Same H H'):Zi W H H':=λb o e _=>h b o e
theorem Wt(k:Zi W H H')(w:WL W H)(h:SqT K H a xs):SqT K H' a xs:=by
 have nw:∀ o,H a=some o->¬ Do o->¬ W a:=λo e n z=>by
  obtain⟨o',e',m⟩:=w a z
  rw[e]at e'
  cases e'
  exact n m
 rcases h with(h|⟨o,h⟩)|h
 .exact .inl (.inl (k _ _ h (nw _ h λz=>z)))
 .exact .inl (.inr ⟨o,k _ _ h (nw _ h λz=>z)⟩)
 .exact .inr h
variable{W':WS}
theorem LR.keep(k:Zi W H H')(w:WL W H)(hw:∀ b,W' b->W b\/H b=none)(h:LR K W H a xs):LR K W' H' a xs:=by
 rcases h with⟨h,n⟩|⟨o,h⟩|h
 .refine .inl ⟨k _ _ h n,λz=>?_⟩
  rcases hw a z with z|z
  .exact n z
  .rw[h]at z;cases z
 .refine .inr (.inl ⟨o,k _ _ h λz=>?_⟩)
  obtain⟨o',e',m⟩:=w a z
  rw[h]at e';cases e';exact m
 .exact .inr (.inr h)
section
variable {K:Frag}{W W':WS}{H H':Hp}
mutual
theorem Has.keep(k:Zi W H H')(w:WL W H)(hw:∀ b,W' b->W b\/H b=none):∀ {d:D} {v:V},Has K W H d v->Has K W' H' d v
 | .non,_,h=>by rw[Has]at h ⊢;exact h
 | .bl _,_,h=>by rw[Has]at h ⊢;exact h
 | .int _,_,h=>by rw[Has]at h ⊢;exact h
 | .str _,_,h=>by rw[Has]at h ⊢;exact h
 | .tup ds,_,h=>by
  rw[Has]at h ⊢
  obtain⟨a,xs,e,q,r⟩:=h
  exact⟨a,xs,e,Wt k w q,HasL.keep k w hw r⟩
 | .lst ds,_,h=>by
  rw[Has]at h ⊢
  obtain⟨a,xs,e,q,r⟩:=h
  exact⟨a,xs,e,q.keep k w hw,HasL.keep k w hw r⟩
 | .dct ks ds,_,h=>by
  rw[Has]at h ⊢
  obtain⟨a,kvs,e,⟨o,q⟩,m,r⟩:=h
  refine⟨a,kvs,e,⟨o,k _ _ q λz=>?_⟩,m,HasL.keep k w hw r⟩
  obtain⟨o',e',m'⟩:=w a z
  rw[q]at e';cases e';exact m'
 | .exc _ _,_,h=>by
  rw[Has]at h ⊢
  obtain⟨a,C,dx,e,n,q,f⟩:=h
  have nw:∀ b o,H b=some o->¬ Do o->¬ W b:=λb o q n z=>by
   obtain⟨o',e',m'⟩:=w b z
   rw[q]at e';cases e';exact n m'
  exact⟨a,C,dx,e,n,k _ _ q (nw _ _ q λz=>z),f.to (λb o u q=>k _ _ q (nw _ _ q λz=>z)) λb kvs q=>k _ _ q (nw _ _ q λz=>z)⟩
 | .obj _ _ ds,_,h=>by
  rw[Has]at h ⊢
  obtain⟨a,C,dx,fs,e,n,q,nw,m,r⟩:=h
  refine⟨a,C,dx,fs,e,n,k _ _ q nw,λz=>?_,m,HasL.keep k w hw r⟩
  rcases hw a z with z|z
  .exact nw z
  .rw[q]at z;cases z
theorem HasL.keep(k:Zi W H H')(w:WL W H)(hw:∀ b,W' b->W b\/H b=none):∀ {ds:List D} {xs:List V},HasL K W H ds xs->HasL K W' H' ds xs
 | [],_,h=>by rw[HasL]at h ⊢;exact h
 |d::ds,_,h=>by
  rw[HasL]at h ⊢
  obtain⟨x,r,e,q,t⟩:=h
  exact⟨x,r,e,Has.keep k w hw q,HasL.keep k w hw t⟩
end
theorem Has.same{d:D}{v:V}(h:Has K W H d v)(k:Same H H')(w:WL W H):Has K W H' d v:=Has.keep (Same.keep k) w (λ_ z=>.inl z) h
theorem HasL.same{d:List D}{v:List V}(h:HasL K W H d v)(k:Same H H')(w:WL W H):HasL K W H' d v:=HasL.keep (Same.keep k) w (λ_ z=>.inl z) h
theorem HasL.length:∀ {ds:List D} {xs:List V},HasL K W H ds xs->ds.length=xs.length
 | [],_,h=>by rw[HasL]at h;rw[h];rfl
 |d::ds,_,h=>by
  rw[HasL]at h
  obtain⟨x,r,e,q,t⟩:=h
  rw[e,List.length_cons,List.length_cons,HasL.length t]
theorem HasL.get:∀ {ds:List D} {xs:List V} {i:Nat} {d:D},HasL K W H ds xs->ds[i]? =some d->∃ x,xs[i]? =some x/\Has K W H d x
 | [],_,_,_,_,e=>by simp at e
 |d::ds,_,0,_,h,e=>by
  rw[HasL]at h
  obtain⟨x,r,rfl,q,t⟩:=h
  simp at e;subst e
  exact⟨x,rfl,q⟩
 |d::ds,_,i+1,_,h,e=>by
  rw[HasL]at h
  obtain⟨x,r,rfl,q,t⟩:=h
  obtain⟨y,h1,h2⟩:=HasL.get (i:=i) t (by simpa using e)
  exact⟨y,by simpa using h1,h2⟩
theorem HasL.at'{ds:List D}{xs:List V}{i:Nat}{x:V}(h:HasL K W H ds xs)(e:xs[i]? =some x):∃ d,ds[i]? =some d/\Has K W H d x:=by
 have hl:=h.length
 have hi:i<ds.length:=by rw[hl];exact(List.getElem?_eq_some_iff.mp e).1
 obtain⟨y,h1,h2⟩:=h.get (getElem?_eq_getElem hi)
 rw[e]at h1;cases h1
 exact⟨_,getElem?_eq_getElem hi,h2⟩
theorem HasL.nil:HasL K W H [] []:=by rw[HasL]
theorem HasL.cons{d:D}{ds:List D}{x:V}{xs:List V}(h:Has K W H d x)(t:HasL K W H ds xs):HasL K W H (d::ds) (x::xs):=by rw[HasL];exact⟨x,xs,rfl,h,t⟩
theorem HasL.append:∀ {ds es:List D} {xs ys:List V},HasL K W H ds xs->HasL K W H es ys->HasL K W H (ds++es) (xs++ys)
 | [],_,_,_,h,t=>by rw[HasL]at h;subst h;exact t
 |d::ds,_,_,_,h,t=>by
  rw[HasL]at h
  obtain⟨x,r,rfl,q,s⟩:=h
  exact HasL.cons q (HasL.append s t)
theorem HasL.take:∀ {ds:List D} {xs:List V} (n:Nat),HasL K W H ds xs->HasL K W H (ds.take n) (xs.take n)
 | [],_,n,h=>by rw[HasL]at h;subst h;simp[HasL]
 |d::ds,_,0,h=>by simp[HasL]
 |d::ds,_,n+1,h=>by
  rw[HasL]at h
  obtain⟨x,r,rfl,q,s⟩:=h
  exact HasL.cons q (HasL.take n s)
theorem HasL.drop:∀ {ds:List D} {xs:List V} (n:Nat),HasL K W H ds xs->HasL K W H (ds.drop n) (xs.drop n)
 | [],_,n,h=>by rw[HasL]at h;subst h;simp[HasL]
 |d::ds,_,0,h=>h
 |d::ds,_,n+1,h=>by
  rw[HasL]at h
  obtain⟨x,r,rfl,q,s⟩:=h
  exact HasL.drop n s
theorem HasL.snoc{ds:List D}{xs:List V}{d:D}{x:V}(h:HasL K W H ds xs)(t:Has K W H d x):HasL K W H (ds++ [d]) (xs++ [x]):=h.append (HasL.cons t HasL.nil)
theorem HasL.set:∀ {ds:List D} {xs:List V} (i:Nat) {d:D} {x:V},HasL K W H ds xs->Has K W H d x->HasL K W H (ds.set i d) (xs.set i x)
 | [],_,n,_,_,h,_=>by rw[HasL]at h;subst h;simp[HasL]
 |e::ds,_,0,_,_,h,t=>by
  rw[HasL]at h
  obtain⟨y,r,rfl,q,s⟩:=h
  exact HasL.cons t s
 |e::ds,_,i+1,_,_,h,t=>by
  rw[HasL]at h
  obtain⟨y,r,rfl,q,s⟩:=h
  exact HasL.cons q (HasL.set i s t)
theorem HasL.ints{ns:List Int}:HasL K W H (ns.map D.int) (ns.map V.int):=by
 induction ns with
 |nil=>exact HasL.nil
 |cons n ns ih=>exact HasL.cons (by rw[Has]) ih
end
def ChHas(K:Frag)(H₀:Hp)(W:WS)(H:Hp):Ch->V->Prop
 | .d x,v=>Has K W H x v
 | .l ds,v=>∃ b xs,v=.ref b/\W b/\H₀ b=none/\H b=some (.lst xs)/\HasL K W H ds xs
 | .q ks ds,v=>∃ b kvs,v=.ref b/\W b/\H₀ b=none/\H b=some (.dK kvs)/\kvs.map (·.1)=ks/\HasL K W H ds (kvs.map (·.2))
def L7(a:Addr)(cs:List Ch)(vs:List V):Prop:=∀ (i:Nat) (c:Ch) (b:Addr),cs[i]? =some c->MG c->vs[i]? =some (.ref b)->b≠a/\∀ (j:Nat) (c':Ch),j≠i->cs[j]? =some c'->MG c'->vs[j]? ≠some (.ref b)
structure FrOk(W₀:WS)(H₀:Hp)(W:WS)(H:Hp):Prop where
 ext:Same H₀ H
 sub:∀ b,W₀ b->W b
 wl:WL W H
 wl0:WL W₀ H₀
def SlotHas(K:Frag)(W₀:WS)(H₀:Hp)(W:WS)(H:Hp):S->V->Prop
 | .d x,v=>Has K W H x v
 | .o ds,v=>∃ a xs,v=.ref a/\W a/\H₀ a=none/\H a=some (.lst xs)/\HasL K W H ds xs
 | .q ks ds,v=>∃ a kvs,v=.ref a/\W a/\H₀ a=none/\H a=some (.dK kvs)/\kvs.map (·.1)=ks/\HasL K W H ds (kvs.map (·.2))
 | .w dss,v=>∃ (a:Addr) (bs:List Addr),v=.ref a/\W a/\H₀ a=none/\H a=some (.lst (bs.map V.ref))/\bs.Nodup/\a∉bs/\bs.length=dss.length/\∀ (k:Nat) (b:Addr) (ds:List D),bs[k]? =some b->dss[k]? =some ds->W b/\H₀ b=none/\∃ xs,H b=some (.lst xs)/\HasL K W H ds xs
 | .k t cs,v=>∃ (a:Addr) (ob:HO),v=.ref a/\H a=some ob/\TpOk K t ob/\(KQ t->W a/\H₀ a=none)/\cs.length=(RH ob).length/\L7 a cs (RH ob)/\∀ (j:Nat) (c:Ch) (x:V),cs[j]? =some c->(RH ob)[j]? =some x->ChHas K H₀ W H c x
def Owns(H:Hp):S->V->Addr->Prop
 | .d _,_,_=>False
 | .w _,v,b=>v=.ref b\/∃ (a:Addr) (bs:List Addr),v=.ref a/\H a=some (.lst (bs.map V.ref))/\b∈bs
 | .k t cs,v,b=>(KQ t/\v=.ref b)\/∃ (a:Addr) (ob:HO) (j:Nat) (c:Ch),v=.ref a/\H a=some ob/\cs[j]? =some c/\MG c/\(RH ob)[j]? =some (.ref b)
 |_,v,b=>v=.ref b
structure StHas(K:Frag)(W₀:WS)(H₀:Hp)(W:WS)(H:Hp)(σ:L2.St)(δ:Ga):Prop where
 fr:FrOk W₀ H₀ W H
 len:σ.length=δ.length
 at':∀ (i:Nat) (s:S),δ[i]? =some (some s)->∃ v,σ[i]? =some (some v)/\SlotHas K W₀ H₀ W H s v
 ap:∀ (i j:Nat) (s t:S) (u v:V) (b:Addr),i≠j->δ[i]? =some (some s)->δ[j]? =some (some t)->σ[i]? =some (some u)->σ[j]? =some (some v)->Owns H s u b->¬ Owns H t v b
variable{W₀ N:WS}{H₀:Hp}{σ:L2.St}{δ:Ga}{ob:HO}{v w:V}{s sl so:S}{b:Addr}{i:Nat}{x:D}{ds es:List D}{ys:List V}
theorem WL.same(w:WL W H)(k:Same H H'):WL W H':=λb z=>let ⟨xs,e,m⟩:=w b z;⟨xs,k _ _ e,m⟩
theorem FrOk.same(f:FrOk W₀ H₀ W H)(k:Same H H'):FrOk W₀ H₀ W H':=⟨f.ext.trans k,f.sub,f.wl.same k,f.wl0⟩
theorem TpOk.mut{t:Tp}(h:TpOk K t ob)(m:KQ t):Do ob:=by
 cases t<;>cases ob<;>first|exact h.elim|exact m.elim|trivial
theorem TpOk.tup{t:Tp}(h:TpOk K t ob)(m:¬ KQ t):∃ xs,ob=.tup xs:=by
 cases t<;>cases ob<;>first|exact h.elim|exact(m trivial).elim|exact⟨_,rfl⟩
theorem ChHas.same{c:Ch}(w:WL W H)(k:Same H H')(h:ChHas K H₀ W H c v):ChHas K H₀ W H' c v:=by
 cases c with
 |d x=>exact Has.same h k w
 |l ds=>
  obtain⟨a,xs,e,h1,h2,h3,h4⟩:=h
  exact⟨a,xs,e,h1,h2,k _ _ h3,h4.same k w⟩
 |q ks ds=>
  obtain⟨a,xs,e,h1,h2,h3,h4,h5⟩:=h
  exact⟨a,xs,e,h1,h2,k _ _ h3,h4,h5.same k w⟩
theorem SlotHas.same(w:WL W H)(k:Same H H')(h:SlotHas K W₀ H₀ W H s v):SlotHas K W₀ H₀ W H' s v:=by
 cases s with
 |d x=>exact Has.same h k w
 |o ds=>
  obtain⟨a,xs,e,h1,h2,h3,h4⟩:=h
  exact⟨a,xs,e,h1,h2,k _ _ h3,h4.same k w⟩
 |q ks ds=>
  obtain⟨a,xs,e,h1,h2,h3,h4,h5⟩:=h
  exact⟨a,xs,e,h1,h2,k _ _ h3,h4,h5.same k w⟩
 |w dss=>
  obtain⟨a,bs,e,h1,h2,h3,h4,h5,h6,h7⟩:=h
  exact⟨a,bs,e,h1,h2,k _ _ h3,h4,h5,h6,λj b ds e1 e2=>let ⟨g1,g2,xs,g3,g4⟩:=h7 j b ds e1 e2;⟨g1,g2,xs,k _ _ g3,g4.same k w⟩⟩
 |k t cs=>
  obtain⟨a,ob,e,h1,h2,h3,h4,h5,h6⟩:=h
  exact⟨a,ob,e,k _ _ h1,h2,h3,h4,h5,λj c x e1 e2=>(h6 j c x e1 e2).same w k⟩
theorem Mt:∀ {bs cs:List Addr},bs.map V.ref=cs.map V.ref->bs=cs
 | [],[],_=>rfl
 | [],_::_,h=>by cases h
 |_::_,[],h=>by cases h
 |b::bs,c::cs,h=>by
  rw[map_cons,map_cons]at h
  injection h with h1 h2
  injection h1 with h1
  rw[h1,Mt h2]
theorem Owns.back(h:SlotHas K W₀ H₀ W H s v)(k:∀ a o,v=.ref a->H a=some o->(Owns H s v a/\Do o)\/(∃ xs,o=.tup xs)->H' a=some o)(o:Owns H' s v b):Owns H s v b:=by
 cases s with
 |d x=>exact o
 |o ds=>exact o
 |q ks ds=>exact o
 |w dss=>
  rcases o with o|⟨a,bs,e,hb,m⟩
  .exact .inl o
  .obtain⟨a',bs',e',_,_,h3,_⟩:=h
   rw[e]at e';cases e'
   have:=k a _ e h3 (.inl ⟨.inl e,trivial⟩)
   rw[hb]at this
   injection this with this
   injection this with this
   rw[Mt this]at m
   exact .inr ⟨a,bs',e,h3,m⟩
 |k t cs=>
  rcases o with o|⟨a,ob,j,c,e,hb,hc,co,hj⟩
  .exact .inl o
  .obtain⟨a',ob',e',h1,h2,_⟩:=h
   rw[e]at e';cases e'
   have:=k a ob' e h1 (by
    by_cases m:KQ t
    .exact .inl ⟨.inl ⟨m,e⟩,h2.mut m⟩
    .exact .inr (h2.tup m))
   rw[hb]at this;cases this
   exact .inr ⟨a,ob,j,c,e,h1,hc,co,hj⟩
theorem V8(ds:List D):Ow (.o ds):=trivial
theorem owq(ks:List Jd)(ds:List D):Ow (.q ks ds):=trivial
theorem SlotHas.mv(w:WL W H)(kk:Zi W H H')(hw:∀ b,W' b->W b\/H b=none)(hq:∀ b o,Owns H s v b->W b->H₀ b=none->H b=some o->Do o->W' b/\H' b=some o)(h:SlotHas K W₀ H₀ W H s v):SlotHas K W₀ H₀ W' H' s v:=by
 cases s with
 |d x=>exact Has.keep kk w hw h
 |o ds=>
  obtain⟨a,xs,e,h1,h2,h3,h4⟩:=h
  obtain⟨g1,g2⟩:=hq a _ e h1 h2 h3 trivial
  exact⟨a,xs,e,g1,h2,g2,HasL.keep kk w hw h4⟩
 |q ks ds=>
  obtain⟨a,xs,e,h1,h2,h3,h4,h5⟩:=h
  obtain⟨g1,g2⟩:=hq a _ e h1 h2 h3 trivial
  exact⟨a,xs,e,g1,h2,g2,h4,HasL.keep kk w hw h5⟩
 |w dss=>
  obtain⟨a,bs,e,h1,h2,h3,h4,h5,h6,h7⟩:=h
  obtain⟨g1,g2⟩:=hq a _ (.inl e) h1 h2 h3 trivial
  refine⟨a,bs,e,g1,h2,g2,h4,h5,h6,λj b ds e1 e2=>?_⟩
  obtain⟨f1,f2,xs,f3,f4⟩:=h7 j b ds e1 e2
  obtain⟨g3,g4⟩:=hq b _ (.inr ⟨a,bs,e,h3,mem_of_getElem? e1⟩) f1 f2 f3 trivial
  exact⟨g3,f2,xs,g4,HasL.keep kk w hw f4⟩
 |k t cs=>
  obtain⟨a,ob,e,h1,h2,h3,h4,h5,h6⟩:=h
  have top:H' a=some ob/\(KQ t->W' a/\H₀ a=none):=by
   by_cases m:KQ t
   .obtain⟨g1,g2⟩:=hq a ob (.inl ⟨m,e⟩) (h3 m).1 (h3 m).2 h1 (h2.mut m)
    exact⟨g2,λ_=>⟨g1,(h3 m).2⟩⟩
   .refine⟨kk _ _ h1 λz=>?_,λz=>(m z).elim⟩
    obtain⟨xs,rfl⟩:=h2.tup m
    obtain⟨o',e',mo⟩:=w a z
    rw[h1]at e';cases e';exact mo
  refine⟨a,ob,e,top.1,h2,top.2,h4,h5,λj c x e1 e2=>?_⟩
  have hc:=h6 j c x e1 e2
  cases c with
  |d y=>exact Has.keep kk w hw hc
  |l ds=>
   obtain⟨b,xs,rfl,f1,f2,f3,f4⟩:=hc
   obtain⟨g1,g2⟩:=hq b _ (.inr ⟨a,ob,j,_,e,h1,e1,trivial,e2⟩) f1 f2 f3 trivial
   exact⟨b,xs,rfl,g1,f2,g2,HasL.keep kk w hw f4⟩
  |q ks ds=>
   obtain⟨b,xs,rfl,f1,f2,f3,f4,f5⟩:=hc
   obtain⟨g1,g2⟩:=hq b _ (.inr ⟨a,ob,j,_,e,h1,e1,trivial,e2⟩) f1 f2 f3 trivial
   exact⟨b,xs,rfl,g1,f2,g2,f4,HasL.keep kk w hw f5⟩
theorem SlotHas.own(h:SlotHas K W₀ H₀ W H s v)(o:Ow s):∃ a ob,v=.ref a/\W a/\H₀ a=none/\H a=some ob/\Do ob:=by
 cases s with
 |d x=>exact o.elim
 |o ds=>
  obtain⟨a,xs,e,h1,h2,h3,h4⟩:=h
  exact⟨a,_,e,h1,h2,h3,trivial⟩
 |q ks ds=>
  obtain⟨a,xs,e,h1,h2,h3,h4,h5⟩:=h
  exact⟨a,_,e,h1,h2,h3,trivial⟩
 |w dss=>
  obtain⟨a,bs,e,h1,h2,h3,_⟩:=h
  exact⟨a,_,e,h1,h2,h3,trivial⟩
 |k t cs=>
  obtain⟨a,ob,e,h1,h2,h3,_⟩:=h
  exact⟨a,ob,e,(h3 o).1,(h3 o).2,h1,h2.mut o⟩
theorem SlotHas.owns(h:SlotHas K W₀ H₀ W H s v)(o:Owns H s v b):W b/\H₀ b=none/\∃ ob,H b=some ob/\Do ob:=by
 cases s with
 |d x=>exact o.elim
 |o ds=>
  obtain⟨a,xs,e,h1,h2,h3,h4⟩:=h
  have o':v=.ref b:=o
  rw[e]at o';cases o'
  exact⟨h1,h2,_,h3,trivial⟩
 |q ks ds=>
  obtain⟨a,xs,e,h1,h2,h3,h4⟩:=h
  have o':v=.ref b:=o
  rw[e]at o';cases o'
  exact⟨h1,h2,_,h3,trivial⟩
 |w dss=>
  obtain⟨a,bs,e,h1,h2,h3,h4,h5,h6,h7⟩:=h
  rcases o with o|⟨a',bs',e',hb,m⟩
  .rw[e]at o;cases o
   exact⟨h1,h2,_,h3,trivial⟩
  .rw[e]at e';cases e'
   rw[h3]at hb
   injection hb with hb
   injection hb with hb
   rw[<-Mt hb]at m
   obtain⟨k,hk⟩:=List.mem_iff_getElem?.mp m
   have hl:k<dss.length:=by rw[<-h6];exact(List.getElem?_eq_some_iff.mp hk).1
   obtain⟨f1,f2,xs,f3,f4⟩:=h7 k b _ hk (getElem?_eq_getElem hl)
   exact⟨f1,f2,_,f3,trivial⟩
 |k t cs=>
  obtain⟨a,ob,e,h1,h2,h3,h4,h5,h6⟩:=h
  rcases o with⟨m,o⟩|⟨a',ob',j,c,e',hb,hc,co,hj⟩
  .rw[e]at o;cases o
   exact⟨(h3 m).1,(h3 m).2,ob,h1,h2.mut m⟩
  .rw[e]at e';cases e'
   rw[h1]at hb;cases hb
   have:=h6 j c _ hc hj
   cases c with
   |d y=>exact co.elim
   |l ds=>
    obtain⟨b',xs,e2,f1,f2,f3,f4⟩:=this
    cases e2
    exact⟨f1,f2,_,f3,trivial⟩
   |q ks ds=>
    obtain⟨b',xs,e2,f1,f2,f3,f4⟩:=this
    cases e2
    exact⟨f1,f2,_,f3,trivial⟩
theorem Ow.owns(o:Ow s):Owns H s (.ref a) a:=by
 cases s with
 |d x=>exact o.elim
 |o ds=>exact rfl
 |q ks ds=>exact rfl
 |w dss=>exact .inl rfl
 |k t cs=>exact .inl ⟨o,rfl⟩
theorem StHas.same(h:StHas K W₀ H₀ W H σ δ)(k:Same H H'):StHas K W₀ H₀ W H' σ δ:=
 ⟨h.fr.same k,h.len,λi s e=>let ⟨v,h1,h2⟩:=h.at' i s e;⟨v,h1,h2.same h.fr.wl k⟩,λi j s t u v b ij e1 e2 e3 e4 o1 o2=>by
  obtain⟨u',f1,f2⟩:=h.at' i s e1
  obtain⟨v',f3,f4⟩:=h.at' j t e2
  rw[e3]at f1;cases f1
  rw[e4]at f3;cases f3
  exact h.ap i j s t u v b ij e1 e2 e3 e4 (Owns.back f2 (λa o _ z _=>k _ _ z) o1) (Owns.back f4 (λa o _ z _=>k _ _ z) o2)⟩
theorem StHas.set(h:StHas K W₀ H₀ W H σ δ)(q:Has K W H x v):StHas K W₀ H₀ W H (σ.set i (some v)) (δ.set i (some (.d x))):=by
 refine⟨h.fr,by simp[h.len],λj s e=>?_,λj k s1 s2 u u' a hjk e1 e2 e3 e4 os ot=>?_⟩
 .by_cases hj:i=j
  .subst hj
   rw[getElem?_set_self']at e ⊢
   cases q':δ[i]? with
   |none=>rw[q']at e;cases e
   |some z=>
    rw[q']at e
    have e':some (S.d x)=some s:=Option.some.inj e
    cases e'
    have hi:i<σ.length:=by rw[h.len];exact(List.getElem?_eq_some_iff.mp q').1
    exact⟨v,by rw[getElem?_eq_getElem hi];rfl,q⟩
  .rw[getElem?_set_ne hj]at e ⊢
   exact h.at' j s e
 .have hj:i≠j:=by
   rintro rfl
   rw[getElem?_set_self']at e1
   cases q':δ[i]? with
   |none=>rw[q']at e1;cases e1
   |some z=>rw[q']at e1;cases e1;exact os
  have hk:i≠k:=by
   rintro rfl
   rw[getElem?_set_self']at e2
   cases q':δ[i]? with
   |none=>rw[q']at e2;cases e2
   |some z=>rw[q']at e2;cases e2;exact ot
  rw[getElem?_set_ne hj]at e1 e3
  rw[getElem?_set_ne hk]at e2 e4
  exact h.ap j k s1 s2 u u' a hjk e1 e2 e3 e4 os ot
theorem StHas.ownS(h:StHas K W₀ H₀ W H σ δ)(k:Same H H')(hn:∀ b,N b->H b=none/\∃ ob,H' b=some ob/\Do ob)(q:SlotHas K W₀ H₀ (λb=>W b\/N b) H' sl (.ref a))(nw:∀ b,Owns H' sl (.ref a) b->H b=none):
  StHas K W₀ H₀ (λb=>W b\/N b) H' (σ.set i (some (.ref a))) (δ.set i (some sl)):=by
 have hw:∀ b,(W b\/N b)->W b\/H b=none:=λb z=>z.elim .inl λz=>.inr (hn b z).1
 have kk:Zi W H H':=Same.keep k
 have fr':FrOk W₀ H₀ (λb=>W b\/N b) H':=⟨h.fr.ext.trans k,λb z=>.inl (h.fr.sub b z),λb z=>z.elim (h.fr.wl.same k b) λz=>(hn b z).2,h.fr.wl0⟩
 have slot:∀ {s:S} {v:V},SlotHas K W₀ H₀ W H s v->SlotHas K W₀ H₀ (λb=>W b\/N b) H' s v:=λ{s v} z=>z.mv h.fr.wl kk hw λb o e h1 h2 h3 h4=>⟨.inl h1,k _ _ h3⟩
 have old:∀ (j:Nat) (t:S) (v:V) (b:Addr),δ[j]? =some (some t)->σ[j]? =some (some v)->Owns H' t v b->Owns H t v b/\H b≠none:=λj t v b e z o=>by
  obtain⟨v',h1,h2⟩:=h.at' j _ e
  rw[z]at h1;cases h1
  have o':=Owns.back h2 (λa o _ z _=>k _ _ z) o
  obtain⟨_,_,ob,h3,_⟩:=h2.owns o'
  exact⟨o',λz=>by rw[h3]at z;cases z⟩
 refine⟨fr',by simp[h.len],λj s e=>?_,λj l s1 s2 u u' b hjl e1 e2 e3 e4 os ot=>?_⟩
 .by_cases hj:i=j
  .subst hj
   rw[getElem?_set_self']at e ⊢
   cases q':δ[i]? with
   |none=>rw[q']at e;cases e
   |some z=>
    rw[q']at e
    have e':some sl=some s:=Option.some.inj e
    cases e'
    have hi:i<σ.length:=by rw[h.len];exact(List.getElem?_eq_some_iff.mp q').1
    exact⟨.ref a,by rw[getElem?_eq_getElem hi];rfl,q⟩
  .rw[getElem?_set_ne hj]at e ⊢
   obtain⟨v,h1,h2⟩:=h.at' j s e
   exact⟨v,h1,slot h2⟩
 .have get:∀ m:Nat,m≠i->∀ {α:Type} (l:List α) (z:α),(l.set i z)[m]? =l[m]? :=λm hm α l z=>getElem?_set_ne (Ne.symm hm)
  have self:∀ {α:Type} (l:List (Option α)) (z y:α),(l.set i (some z))[i]? =some (some y)->y=z:=λl z y e=>by
   rw[getElem?_set_self']at e
   cases q':l[i]? with
   |none=>rw[q']at e;cases e
   |some x=>rw[q']at e;cases e;rfl
  by_cases hj:j=i
  .have hl:l≠i:=λz=>hjl (hj.trans z.symm)
   rw[get l hl]at e2 e4
   subst hj
   have z1:=self _ _ _ e1
   have z2:=self _ _ _ e3
   subst z1;subst z2
   exact(old l s2 u' b e2 e4 ot).2 (nw b os)
  .rw[get j hj]at e1 e3
   by_cases hl:l=i
   .subst hl
    have z1:=self _ _ _ e2
    have z2:=self _ _ _ e4
    subst z1;subst z2
    exact(old j s1 u b e1 e3 os).2 (nw b ot)
   .rw[get l hl]at e2 e4
    exact h.ap j l s1 s2 u u' b hjl e1 e2 e3 e4 (old j s1 u b e1 e3 os).1 (old l s2 u' b e2 e4 ot).1
theorem StHas.ownG{W':WS}(h:StHas K W₀ H₀ W H σ δ)(k:Same H H')(ha:H a=none)(ha':H' a=some ob)(mo:Do ob)(q:SlotHas K W₀ H₀ (λb=>W b\/b=a) H' sl (.ref a))(nw:∀ b,Owns H' sl (.ref a) b->H b=none:=by intro b z;cases z;assumption):
  StHas K W₀ H₀ (λb=>W b\/b=a) H' (σ.set i (some (.ref a))) (δ.set i (some sl)):=
 h.ownS (N:=λb=>b=a) k (λb z=>by rw[z];exact⟨ha,ob,ha',mo⟩) q nw
theorem StHas.own(h:StHas K W₀ H₀ W H σ δ)(ha:H a=none)(q:HasL K W H ds xs):
  StHas K W₀ H₀ (λb=>W b\/b=a) (Ib H a (.lst xs)) (σ.set i (some (.ref a))) (δ.set i (some (.o ds))):=by
 have k:Same H (Ib H a (.lst xs)):=λb o e=>by rw[Ea (Pa e ha)];exact e
 exact h.ownG (W':=W) k ha Ra trivial ⟨a,xs,rfl,.inr rfl,Same.free h.fr.ext ha,Ra,HasL.keep (Same.keep k) h.fr.wl (λb z=>z.elim .inl λz=>.inr (by rw[z];exact ha)) q⟩
theorem StHas.changeS(h:StHas K W₀ H₀ W H σ δ)(hi:δ[i]? =some (some so))(hs:σ[i]? =some (some w))(oc:Owns H so w a)(mo:Do ob)(q:H₀ a=none->Zi W H (Ib H a ob)->SlotHas K W₀ H₀ W (Ib H a ob) sl w)(nw:∀ b,Owns (Ib H a ob) sl w b->∀ (j:Nat) (t:S) (v:V),i≠j->δ[j]? =some (some t)->σ[j]? =some (some v)->¬ Owns H t v b):
  StHas K W₀ H₀ W (Ib H a ob) σ (δ.set i (some sl)):=by
 obtain⟨v,h1,h2⟩:=h.at' i _ hi
 rw[hs]at h1
 cases h1
 obtain⟨hW,h0,ob',h3',h4'⟩:=h2.owns oc
 have kk:Zi W H (Ib H a ob):=λb o e n=>by
  rw[Ea (λz=>n (by rw[z];exact hW))];exact e
 have hw:∀ b,W b->W b\/H b=none:=λb z=>.inl z
 have fr':FrOk W₀ H₀ W (Ib H a ob):=⟨λb o e=>by rw[Ea (Pa e h0)];exact h.fr.ext _ _ e,h.fr.sub,λb z=>by
  by_cases hb:b=a
  .rw[hb];exact⟨ob,Ra,mo⟩
  .rw[Ea hb];exact h.fr.wl b z,h.fr.wl0⟩
 have hl:i<δ.length:=(List.getElem?_eq_some_iff.mp hi).1
 have ne:∀ (j:Nat) (s:S) (v:V) (b:Addr),i≠j->δ[j]? =some (some s)->σ[j]? =some (some v)->Owns H s v b->b≠a:=λj s v b hj e e' o z=>by
  subst z
  exact h.ap i j _ _ _ _ b hj hi e hs e' oc o
 refine⟨fr',by simp[h.len],λj s e=>?_,λj l s1 s2 u u' b hjl e1 e2 e3 e4 os ot=>?_⟩
 .by_cases hj:i=j
  .subst hj
   rw[getElem?_set_self hl]at e
   cases e
   exact⟨w,hs,q h0 kk⟩
  .rw[getElem?_set_ne hj]at e
   obtain⟨v,h1,h2⟩:=h.at' j s e
   exact⟨v,h1,h2.mv h.fr.wl kk hw λb o e1 h1' _ h3' _=>⟨h1',by rw[Ea (ne j s v b hj e h1 e1)];exact h3'⟩⟩
 .have own:∀ (m:Nat) (t:S) (x:V),i≠m->(δ.set i (some sl))[m]? =some (some t)->σ[m]? =some (some x)->Owns (Ib H a ob) t x b->δ[m]? =some (some t)/\Owns H t x b:=λm t x hm e e' o=>by
   rw[getElem?_set_ne hm]at e
   obtain⟨v,h1,h2⟩:=h.at' m t e
   rw[e']at h1;cases h1
   refine⟨e,Owns.back h2 (λc o ec z y=>?_) o⟩
   rcases y with⟨y,_⟩|⟨xs,y⟩
   .rw[Ea (ne m _ _ c hm e e' y)];exact z
   .rw[Ea (λq=>by rw[q,h3']at z;cases z;rw[y]at h4';exact h4')];exact z
  by_cases hj:i=j
  .subst hj
   rw[getElem?_set_self hl]at e1;cases e1
   rw[hs]at e3;cases e3
   obtain⟨g2,o2⟩:=own l s2 u' hjl e2 e4 ot
   exact nw b os l s2 u' hjl g2 e4 o2
  .obtain⟨g1,o1⟩:=own j s1 u hj e1 e3 os
   by_cases hm:i=l
   .subst hm
    rw[getElem?_set_self hl]at e2;cases e2
    rw[hs]at e4;cases e4
    exact nw b ot j s1 u hj g1 e3 o1
   .obtain⟨g2,o2⟩:=own l s2 u' hm e2 e4 ot
    exact h.ap j l s1 s2 u u' b hjl g1 g2 e3 e4 o1 o2
theorem StHas.changeG(h:StHas K W₀ H₀ W H σ δ)(oo:Ow so)(hi:δ[i]? =some (some so))(hs:σ[i]? =some (some (.ref a)))(mo:Do ob)(hW:W a)(q:H₀ a=none->Zi W H (Ib H a ob)->SlotHas K W₀ H₀ W (Ib H a ob) sl (.ref a))(ol:Ow sl)(nw:∀ b,Owns (Ib H a ob) sl (.ref a) b->Owns H so (.ref a) b:=by intro b z;exact z):
  StHas K W₀ H₀ W (Ib H a ob) σ (δ.set i (some sl)):=
 h.changeS hi hs oo.owns mo q λb o j t v hj e e'=>h.ap i j _ _ _ _ b hj hi e hs e' (nw b o)
theorem StHas.change(h:StHas K W₀ H₀ W H σ δ)(hi:δ[i]? =some (some (.o ds)))(hs:σ[i]? =some (some (.ref a)))(ha:H a=some (.lst xs))(hW:W a)(q:HasL K W H es ys):
  StHas K W₀ H₀ W (Ib H a (.lst ys)) σ (δ.set i (some (.o es))):=
 h.changeG (V8 ds) hi hs trivial hW (λh0 kk=>⟨a,ys,rfl,hW,h0,Ra,HasL.keep kk h.fr.wl (λb z=>.inl z) q⟩) (V8 es)
theorem StHas.freezeS(h:StHas K W₀ H₀ W H σ δ)(hi:δ[i]? =some (some so))(hs:σ[i]? =some (some w))(oN:∀ b,N b->Owns H so w b)(hd:Has K (λb=>W b/\¬ N b) H x w):StHas K W₀ H₀ (λb=>W b/\¬ N b) H σ (δ.set i (some (.d x))):=by
 obtain⟨v,h1,h2⟩:=h.at' i _ hi
 rw[hs]at h1
 cases h1
 have kk:Zi W H H:=λ_ _ e _=>e
 have hw:∀ b,(W b/\¬ N b)->W b\/H b=none:=λb z=>.inl z.1
 have hl:i<δ.length:=(List.getElem?_eq_some_iff.mp hi).1
 refine⟨⟨h.fr.ext,λb z=>⟨h.fr.sub b z,λe=>?_⟩,λb z=>h.fr.wl b z.1,h.fr.wl0⟩,by simp[h.len],λj s e=>?_,λj l s1 s2 u u' b hjl e1 e2 e3 e4 os ot=>?_⟩
 .obtain⟨ys,z',_⟩:=h.fr.wl0 _ z
  rw[(h2.owns (oN _ e)).2.1]at z';cases z'
 .by_cases hj:i=j
  .subst hj
   rw[getElem?_set_self hl]at e
   cases e
   exact⟨_,hs,hd⟩
  .rw[getElem?_set_ne hj]at e
   obtain⟨v,g1,g2⟩:=h.at' j s e
   exact⟨v,g1,g2.mv h.fr.wl kk hw λb o e1 h1' _ h3' _=>⟨⟨h1',λz=>h.ap i j _ _ _ _ b hj hi e hs g1 (oN b z) e1⟩,h3'⟩⟩
 .have hj:i≠j:=by
   rintro rfl
   rw[getElem?_set_self hl]at e1;cases e1;exact os
  have hk:i≠l:=by
   rintro rfl
   rw[getElem?_set_self hl]at e2;cases e2;exact ot
  rw[getElem?_set_ne hj]at e1
  rw[getElem?_set_ne hk]at e2
  exact h.ap j l s1 s2 u u' b hjl e1 e2 e3 e4 os ot
theorem StHas.freezeG(h:StHas K W₀ H₀ W H σ δ)(oo:Ow so)(hi:δ[i]? =some (some so))(hs:σ[i]? =some (some (.ref a)))(hd:Has K (λb=>W b/\b≠a) H x (.ref a)):StHas K W₀ H₀ (λb=>W b/\b≠a) H σ (δ.set i (some (.d x))):=
 h.freezeS (N:=λb=>b=a) hi hs (λb z=>by rw[z];exact oo.owns) hd
theorem StHas.freezeH(h:StHas K W₀ H₀ W H σ δ)(oo:Ow so)(hi:δ[i]? =some (some so))(hs:σ[i]? =some (some (.ref a)))(hd:Has K (λb=>W b/\b≠a) (Ib H a ob) x (.ref a)):StHas K W₀ H₀ (λb=>W b/\b≠a) (Ib H a ob) σ (δ.set i (some (.d x))):=by
 obtain⟨v,h1,h2⟩:=h.at' i _ hi
 obtain⟨b,o1,e',hW,h0,h3,mo1⟩:=h2.own oo
 rw[hs]at h1
 cases h1
 cases e'
 have kk:Zi W H (Ib H a ob):=λb o e n=>by rw[Ea (λz=>n (by rw[z];exact hW))];exact e
 have hw:∀ b,(W b/\b≠a)->W b\/H b=none:=λb z=>.inl z.1
 have hl:i<δ.length:=(List.getElem?_eq_some_iff.mp hi).1
 refine⟨⟨λb o e=>by rw[Ea (Pa e h0)];exact h.fr.ext _ _ e,λb z=>⟨h.fr.sub b z,λe=>?_⟩,λb z=>by rw[Ea z.2];exact h.fr.wl b z.1,h.fr.wl0⟩,by simp[h.len],λj s e=>?_,λj l s1 s2 u u' b hjl e1 e2 e3 e4 os ot=>?_⟩
 .subst e
  obtain⟨ys,z',_⟩:=h.fr.wl0 _ z
  rw[h0]at z';cases z'
 .by_cases hj:i=j
  .subst hj
   rw[getElem?_set_self hl]at e
   cases e
   exact⟨.ref a,hs,hd⟩
  .rw[getElem?_set_ne hj]at e
   obtain⟨v,g1,g2⟩:=h.at' j s e
   exact⟨v,g1,g2.mv h.fr.wl kk hw λb o e1 h1' _ h3' _=>(λhba=>⟨⟨h1',hba⟩,by rw[Ea hba];exact h3'⟩) (λz=>by subst z;exact h.ap i j _ _ _ _ b hj hi e hs g1 oo.owns e1)⟩
 .have hj:i≠j:=by
   rintro rfl
   rw[getElem?_set_self hl]at e1;cases e1;exact os
  have hk:i≠l:=by
   rintro rfl
   rw[getElem?_set_self hl]at e2;cases e2;exact ot
  rw[getElem?_set_ne hj]at e1
  rw[getElem?_set_ne hk]at e2
  have back:∀ (m:Nat) (t:S) (x:V),i≠m->δ[m]? =some (some t)->σ[m]? =some (some x)->Owns (Ib H a ob) t x b->Owns H t x b:=λm t x hm e e' o=>by
   obtain⟨v,h1,h2⟩:=h.at' m t e
   rw[e']at h1;cases h1
   refine Owns.back h2 (λc o ec z y=>?_) o
   rcases y with⟨y,_⟩|⟨xs,y⟩
   .rw[Ea (λq=>by subst q;exact h.ap i m _ _ _ _ c hm hi e hs e' oo.owns y)];exact z
   .rw[Ea (λq=>by rw[q,h3]at z;cases z;rw[y]at mo1;exact mo1)];exact z
  exact h.ap j l s1 s2 u u' b hjl e1 e2 e3 e4 (back j s1 u hj e1 e3 os) (back l s2 u' hk e2 e4 ot)
abbrev XW:=Str->List D->Hp->Prop
section
variable (K:Frag)(xw:XW)
def RE(W:WS)(H:Hp)(r:Res D)(Q:VK):Prop:=match r with
 | .ok d=>∀ v H',Same H H'->Has K W H' d v->Q v H'
 | .ex c fs=>∀ H',Same H H'->xw c fs H'
 | .stuck=>False
def HasT(W:WS)(H:Hp)(d:D)(v:V):Prop:=Has K W H d v\/∃ ds a xs,d=.lst ds/\v=.ref a/\H a=some (.lst xs)/\HasL K W H ds xs
def RP(W:WS)(H:Hp)(r:Res D)(Q:VK):Prop:=match r with
 | .ok d=>∀ v H',Same H H'->HasT K W H' d v->Q v H'
 | .ex c fs=>∀ H',Same H H'->xw c fs H'
 | .stuck=>False
def RF(W:WS)(H:Hp)(r:Res (List D))(Q:VK):Prop:=match r with
 | .ok ds=>∀ a xs H1,Same H H1->H1 a=none->HasL K W H1 ds xs->Q (.ref a) (Ib H1 a (.lst xs))
 | .ex c fs=>∀ H',Same H H'->xw c fs H'
 | .stuck=>False
def RT(H:Hp)(r:Res Bool)(Q:Bool->Hp->Prop):Prop:=match r with
 | .ok b=>∀ H',Same H H'->Q b H'
 | .ex c fs=>∀ H',Same H H'->xw c fs H'
 | .stuck=>False
def RA(W:WS)(H:Hp)(r:Res (List D))(Q:List V->Hp->Prop):Prop:=match r with
 | .ok ds=>∀ vs H',Same H H'->HasL K W H' ds vs->Q vs H'
 | .ex c fs=>∀ H',Same H H'->xw c fs H'
 | .stuck=>False
def BV(f:Ga->Res D):TE:=λσ H Q=>∃ W₀ H₀ W δ,StHas K W₀ H₀ W H σ δ/\RE K xw W H (f δ) Q
def IJ(f:Ga->Res D):TE:=λσ H Q=>∃ W₀ H₀ W δ,StHas K W₀ H₀ W H σ δ/\RP K xw W H (f δ) Q
def M9(f:Ga->Res (List D)):TE:=λσ H Q=>∃ W₀ H₀ W δ,StHas K W₀ H₀ W H σ δ/\RF K xw W H (f δ) Q
def G3(f:Ga->Res Bool):TT:=λσ H Q=>∃ W₀ H₀ W δ,StHas K W₀ H₀ W H σ δ/\RT xw H (f δ) Q
def Z5(f:Ga->Res (List D)):TA:=λσ H Q=>∃ W₀ H₀ W δ,StHas K W₀ H₀ W H σ δ/\RA K xw W H (f δ) Q
end
def DE(X:Cx)(xw:XW)(e:Expr)(f:Ga->Res D):Prop:=PE X e (BV X.K xw f)
def DP(X:Cx)(xw:XW)(e:Expr)(f:Ga->Res D):Prop:=PE X e (IJ X.K xw f)
def DF(X:Cx)(xw:XW)(e:Expr)(f:Ga->Res (List D)):Prop:=PE X e (M9 X.K xw f)
def DT(X:Cx)(xw:XW)(e:Expr)(f:Ga->Res Bool):Prop:=PT X e (G3 X.K xw f)
def DW(X:Cx)(xw:XW)(e:Expr)(f:Ga->Res Bool):Prop:=PW X e (G3 X.K xw f)
def DA(X:Cx)(xw:XW)(es:List Expr)(f:Ga->Res (List D)):Prop:=PA X es (Z5 X.K xw f)
variable{X:Cx}{e:Expr}
theorem PE.weak{t t':TE}(h:PE X e t)(k:∀ σ H Q,t' σ H Q->t σ H Q):PE X e t':=λpins s σ H Q I q=>h pins s σ H Q I (k σ H Q q)
variable{t':TT}
theorem PT.weak{t:TT}(h:PT X e t)(k:∀ σ H Q,t' σ H Q->t σ H Q):PT X e t':=λpins s σ H Q I q=>h pins s σ H Q I (k σ H Q q)
theorem PW.weak{t:TT}(h:PW X e t)(k:∀ σ H Q,t' σ H Q->t σ H Q):PW X e t':=λwh pins s σ H Q I q=>h wh pins s σ H Q I (k σ H Q q)
theorem PA.weak{e:List Expr}{t t':TA}(h:PA X e t)(k:∀ σ H Q,t' σ H Q->t σ H Q):PA X e t':=λps pins s σ H Q I q=>h ps pins s σ H Q I (k σ H Q q)
variable{i:Int}{xw:XW}{Q:VK}{d:D}
theorem RE.same{r:Res D}(h:RE K xw W H r Q)(k:Same H H'):RE K xw W H' r Q:=by
 cases r with
 |ok d=>exact λv H2 k2 q=>h v H2 (k.trans k2) q
 |ex c fs=>exact λH2 k2=>h H2 (k.trans k2)
 |stuck=>exact h
theorem RF.same{r:Res (List D)}(h:RF K xw W H r Q)(k:Same H H'):RF K xw W H' r Q:=by
 cases r with
 |ok d=>exact λa xs H1 k1 n q=>h a xs H1 (k.trans k1) n q
 |ex c fs=>exact λH2 k2=>h H2 (k.trans k2)
 |stuck=>exact h
theorem RT.same{r:Res Bool}{Q:Bool->Hp->Prop}(h:RT xw H r Q)(k:Same H H'):RT xw H' r Q:=by
 cases r with
 |ok d=>exact λH2 k2=>h H2 (k.trans k2)
 |ex c fs=>exact λH2 k2=>h H2 (k.trans k2)
 |stuck=>exact h
theorem HasT.same(h:HasT K W H d v)(k:Same H H')(w:WL W H):HasT K W H' d v:=by
 rcases h with h|⟨ds,a,xs,h1,h2,h3,h4⟩
 .exact .inl (h.same k w)
 .exact .inr ⟨ds,a,xs,h1,h2,k _ _ h3,h4.same k w⟩
theorem HasT.int(h:HasT K W H (.int i) v):v=.int i:=by
 rcases h with h|⟨ds,a,xs,h1,_⟩
 .rw[Has]at h;exact h
 .cases h1
theorem HasT.bl{i:Bool}(h:HasT K W H (.bl i) v):v=.bl i:=by
 rcases h with h|⟨ds,a,xs,h1,_⟩
 .rw[Has]at h;exact h
 .cases h1
theorem HasT.str{i:Str}(h:HasT K W H (.str i) v):v=.str i:=by
 rcases h with h|⟨ds,a,xs,h1,_⟩
 .rw[Has]at h;exact h
 .cases h1
theorem HasT.non(h:HasT K W H .non v):v=.non:=by
 rcases h with h|⟨ds,a,xs,h1,_⟩
 .rw[Has]at h;exact h
 .cases h1
theorem HasT.tup(h:HasT K W H (.tup ds) v):∃ a xs,v=.ref a/\SqT K H a xs/\HasL K W H ds xs:=by
 rcases h with h|⟨ds,a,xs,h1,_⟩
 .rw[Has]at h;exact h
 .cases h1
theorem HasT.lst(h:HasT K W H (.lst ds) v):∃ a xs,v=.ref a/\SqL K H a xs/\HasL K W H ds xs:=by
 rcases h with h|⟨ds,a,xs,h1,h2,h3,h4⟩
 .rw[Has]at h
  obtain⟨a,xs,e,q,r⟩:=h
  exact⟨a,xs,e,q.sq,r⟩
 .cases h1
  exact⟨a,xs,h2,.of h3,h4⟩
def WB(scope:Scope)(env:Env):List (Str×Addr):=scope.names.foldl (λcs y=>if y.2== .free then(match env.cells.lookup y.1 with|some a=>(y.1,a)::cs|none=>cs) else cs) []
variable{env:Env}
theorem SQ(names:List (Str×NameKind)):∀ (cs:List (Str×Addr)),(∀ y∈names,y.2=.free->∃ c,env.cells.lookup y.1=some c)->
  (forIn names cs (λ(y:Str×NameKind) (r:List (Str×Addr))=>(do
   if(y.2==NameKind.free)=true then do
    let a <-cellOf env y.1
    pure (ForInStep.yield ((y.1,a)::r))
   else pure (ForInStep.yield r):Sem (ForInStep (List (Str×Addr))))))=(pure (names.foldl (λcs y=>if y.2== .free then(match env.cells.lookup y.1 with|some a=>(y.1,a)::cs|none=>cs) else cs) cs):Sem _):=by
 induction names with
 |nil=>intro cs _;rfl
 |cons y r ih=>
  intro cs h
  have h':∀ y∈r,y.2=.free->∃ c,env.cells.lookup y.1=some c:=λz hz=>h z (mem_cons_of_mem _ hz)
  rw[List.forIn_cons,foldl_cons]
  by_cases hk:y.2=.free
  .obtain⟨c,hc⟩:=h y mem_cons_self hk
   have hb:(y.2==NameKind.free)=true:=by rw[hk];rfl
   simp only[hb,if_true,cellOf,hc,pure_bind]
   exact ih _ h'
  .have hb:(y.2==NameKind.free)=false:=by simpa using hk
   simp only[hb,false_eq_true,if_false,pure_bind]
   exact ih _ h'
variable{scope:Scope}
theorem PQ(h:∀ y∈scope.names,y.2=.free->∃ c,env.cells.lookup y.1=some c):closureFor scope env=pure (WB scope env):=by
 unfold closureFor WB
 exact(congrArg (λz=>z >>= λr=>pure r) (SQ scope.names [] h)).trans (by simp)
theorem HK(names:List (Str×NameKind)):∀ (cs:List (Str×Addr)),(∀ x c,cs.lookup x=some c->env.cells.lookup x=some c)->
  ∀ x c,(names.foldl (λcs y=>if y.2== .free then(match env.cells.lookup y.1 with|some a=>(y.1,a)::cs|none=>cs) else cs) cs).lookup x=some c->env.cells.lookup x=some c:=by
 induction names with
 |nil=>intro cs h;exact h
 |cons y r ih=>
  intro cs h
  rw[foldl_cons]
  refine ih _ ?_
  split
  .split
   .rename_i a ha
    intro x c e
    rw[lookup_cons]at e
    by_cases hx:x=y.1
    .have:(x==y.1)=true:=by rw[hx];simp
     rw[this]at e
     have e':a=c:=Option.some.inj e
     rw[hx,ha,e']
    .have:(x==y.1)=false:=by simpa using hx
     rw[this]at e
     exact h x c e
   .exact h
  .exact h
theorem Bz(names:List (Str×NameKind)):∀ (cs:List (Str×Addr)) (x:Str),((∃ c,cs.lookup x=some c)\/((x,NameKind.free)∈names/\∃ c,env.cells.lookup x=some c))->
  ∃ c,(names.foldl (λcs y=>if y.2== .free then(match env.cells.lookup y.1 with|some a=>(y.1,a)::cs|none=>cs) else cs) cs).lookup x=some c:=by
 induction names with
 |nil=>
  intro cs x h
  rcases h with h|⟨h,_⟩
  .exact h
  .simp at h
 |cons y r ih=>
  intro cs x h
  rw[foldl_cons]
  refine ih _ x ?_
  rcases h with⟨c,h⟩|⟨h,c,hc⟩
  .left
   split
   .split
    .rename_i a ha
     rw[lookup_cons]
     cases hx:x==y.1 with
     |true=>exact⟨a,rfl⟩
     |false=>exact⟨c,h⟩
    .exact⟨c,h⟩
   .exact⟨c,h⟩
  .rcases mem_cons.mp h with h|h
   .left
    subst h
    simp only[beq_self_eq_true,if_true,hc]
    exact⟨c,by rw[lookup_cons];simp⟩
   .exact .inr ⟨h,c,hc⟩
theorem Zm{g:Str->NameKind->NameKind}:∀ (l:List (Str×NameKind)) (x:Str),(l.map λy=>(y.1,g y.1 y.2)).lookup x=(l.lookup x).map (g x)
 | [],_=>rfl
 |y::r,x=>by
  rw[map_cons,lookup_cons,lookup_cons]
  cases hx:x==y.1 with
  |true=>
   have:x=y.1:=by simpa using hx
   rw[this];rfl
  |false=>exact Zm r x
theorem Sg(scope:Scope)(env:Env)(x:Str):(relabel scope env).names.lookup x=(scope.names.lookup x).map λk=>if(k== .free&&env.scope.kind== .function&&env.kindOf x==some .cell) then .cell else k:=by
 have e:(relabel scope env).names=scope.names.map λy=>(y.1,(λn k=>if(k==NameKind.free&&env.scope.kind== .function&&env.kindOf n==some .cell) then NameKind.cell else k) y.1 y.2):=by
  unfold relabel
  refine List.map_congr_left λy _=>?_
  obtain⟨n,k⟩:=y
  dsimp only
  split<;>rfl
 rw[e]
 exact Zm (g:=λn k=>if(k==NameKind.free&&env.scope.kind== .function&&env.kindOf n==some .cell) then NameKind.cell else k) scope.names x
theorem GK(names:List (Str×NameKind)):∀ (cs:List (Str×Addr)) (x:Str) (c:Addr),(names.foldl (λcs y=>if y.2== .free then(match env.cells.lookup y.1 with|some a=>(y.1,a)::cs|none=>cs) else cs) cs).lookup x=some c->cs.lookup x=some c\/(x,NameKind.free)∈names:=by
 induction names with
 |nil=>intro cs x c h;exact .inl h
 |cons y r ih=>
  intro cs x c h
  rw[foldl_cons]at h
  rcases ih _ x c h with h|h
  .by_cases hf:y.2=.free
   .by_cases hx:x=y.1
    .right;subst hx;rw[<-hf];exact mem_cons_self
    .left
     have hb:(y.2==NameKind.free)=true:=by rw[hf];rfl
     have hxb:(x==y.1)=false:=by simpa using hx
     simp only[hb,if_true]at h
     split at h
     .rw[lookup_cons,hxb]at h;exact h
     .exact h
   .left
    have hb:(y.2==NameKind.free)=false:=by simpa using hf
    simp only[hb,false_eq_true,if_false]at h
    exact h
  .exact .inr (mem_cons_of_mem _ h)
theorem GE:∀ (names:List (Str×NameKind)) (n:Nat) (acc:List (Str×Addr)) (x:Str) (c:Addr),(cellsFrom n names acc).lookup x=some c->acc.lookup x=some c\/(n<=c/\(x,NameKind.cell)∈names)
 | [],_,_,_,_,h=>.inl h
 |(y,k)::r,n,acc,x,c,h=>by
  unfold cellsFrom at h
  by_cases hk:(k== .cell)=true
  .rw[if_pos hk]at h
   have hk':k=.cell:=by simpa using hk
   rcases GE r (n+1) _ x c h with h|⟨h1,h2⟩
   .rw[lookup_cons]at h
    cases hx:x==y with
    |true=>
     rw[hx]at h
     have e:n=c:=Option.some.inj h
     have ex:x=y:=by simpa using hx
     subst ex;subst hk'
     exact .inr ⟨by omega,mem_cons_self⟩
    |false=>rw[hx]at h;exact .inl h
   .exact .inr ⟨by omega,mem_cons_of_mem _ h2⟩
  .rw[if_neg hk]at h
   rcases GE r n acc x c h with h|⟨h1,h2⟩
   .exact .inl h
   .exact .inr ⟨h1,mem_cons_of_mem _ h2⟩
theorem VB:∀ (names:List (Str×NameKind)) (n:Nat) (acc:List (Str×Addr)) (x:Str),(x,NameKind.cell)∉names->(cellsFrom n names acc).lookup x=acc.lookup x
 | [],_,_,_,_=>rfl
 |(y,k)::r,n,acc,x,h=>by
  have hr:(x,NameKind.cell)∉r:=λz=>h (mem_cons_of_mem _ z)
  unfold cellsFrom
  by_cases hk:(k== .cell)=true
  .rw[if_pos hk,VB r (n+1) _ x hr,lookup_cons]
   have hk':k=.cell:=by simpa using hk
   have hx:(x==y)=false:=by
    cases hx:x==y with
    |false=>rfl
    |true=>
     have ex:x=y:=by simpa using hx
     subst ex;subst hk'
     exact absurd mem_cons_self h
   rw[hx]
  .rw[if_neg hk];exact VB r n acc x hr
theorem UB:∀ (names:List (Str×NameKind)) (n:Nat) (acc:List (Str×Addr)),(∀ x y c,acc.lookup x=some c->acc.lookup y=some c->x=y)->(∀ x c,acc.lookup x=some c->c<n)->
  ∀ x y c,(cellsFrom n names acc).lookup x=some c->(cellsFrom n names acc).lookup y=some c->x=y
 | [],_,_,h,_=>h
 |(z,k)::r,n,acc,h,hb=>by
  unfold cellsFrom
  by_cases hk:(k== .cell)=true
  .rw[if_pos hk]
   refine UB r (n+1) _ (λx y c e1 e2=>?_) λx c e=>?_
   .rw[lookup_cons]at e1 e2
    cases hx:x==z with
    |true=>
     rw[hx]at e1
     have ec:n=c:=Option.some.inj e1
     have ex:x=z:=by simpa using hx
     cases hy:y==z with
     |true=>
      have ey:y=z:=by simpa using hy
      rw[ex,ey]
     |false=>
      rw[hy]at e2
      have:=hb y c e2
      rw[<-ec]at this
      exact absurd this (lt_irrefl _)
    |false=>
     rw[hx]at e1
     cases hy:y==z with
     |true=>
      rw[hy]at e2
      have ec:n=c:=Option.some.inj e2
      have:=hb x c e1
      rw[<-ec]at this
      exact absurd this (lt_irrefl _)
     |false=>rw[hy]at e2;exact h x y c e1 e2
   .rw[lookup_cons]at e
    cases hx:x==z with
    |true=>
     rw[hx]at e
     have ec:n=c:=Option.some.inj e
     rw[<-ec]
     exact Nat.lt_succ_self _
    |false=>rw[hx]at e;exact Nat.lt_succ_of_lt (hb x c e)
  .rw[if_neg hk];exact UB r n acc h hb
theorem Uw:∀ (names:List (Str×NameKind)) (h:Heap) (acc:List (Str×Addr)),(∀ x c,acc.lookup x=some c->∃ v,h.IsCell c v)->∀ x c,(cellsFrom h.objs.size names acc).lookup x=some c->∃ v,(pushCells h names).IsCell c v
 | [],_,_,hc=>hc
 |(z,k)::r,h,acc,hc=>by
  unfold cellsFrom pushCells
  by_cases hk:(k== .cell)=true
  .rw[if_pos hk,if_pos hk]
   have:=Uw r (h.push {cls:=.type "cell",data:=.cell none}) ((z,h.objs.size)::acc) λx c e=>by
    rw[lookup_cons]at e
    cases hx:x==z with
    |true=>
     rw[hx]at e
     have ec:h.objs.size=c:=Option.some.inj e
     subst ec
     exact⟨none,_,get?_push_size _ rfl,rfl⟩
    |false=>
     rw[hx]at e
     obtain⟨v,q⟩:=hc x c e
     exact⟨v,q.keeps λb o e=>get?_push_of_some _ e⟩
   rw[size_push]at this
   exact this
  .rw[if_neg hk,if_neg hk];exact Uw r h acc hc
def BH(scope:Scope)(env:Env)(C:Addr):List (Str×Addr):=cellsFrom (C+1) scope.names (WB scope env)
variable{s:Shared}{A:Around}{E:Value->Shared->Prop}{qual:Str}
theorem Gq{M:Model}{globals:Addr}{cl:List (Str×Addr)}{Q:Env->Shared->Prop}(hQ:Q {scope:=scope,locals:=s.heap.objs.size,globals:=globals,cells:=cellsFrom (s.heap.objs.size+1) scope.names cl,qual:=qual,func:=none,code:=env.code,frame:=env.frame,builtins:=env.builtins}
   {s with heap:=pushCells (s.heap.push {cls:=.type "dict",data:=.dict #[]}) scope.names}):
  wpAny M A (newFunctionEnv scope globals cl [] qual none .none (some env)) Q E s:=by
 simp only[newFunctionEnv,Option.isSome_some,if_true]
 refine wpAny_bind (wpAny_alloc ?_)
 refine wpAny_bind (wpAny_layCells _ (λname kind cells=>by cases hkc:kind==NameKind.cell<;>simp[hkc]) _ _ _ _ ?_)
 rw[show({s with heap:=s.heap.push {cls:=.type "dict",data:=.dict #[]}}:Shared).heap.objs.size=s.heap.objs.size+1 from size_push ..]
 refine wpAny_bind ?_
 rw[List.forIn_nil]
 exact wpAny_pure (wpAny_pure hQ)
theorem TC{h:Heap}{names:List (Str×NameKind)}:(pushCells (h.push {cls:=.type "dict",data:=.dict #[]}) names).Ns h.objs.size λ_=>none:=(Heap.Ns.new h (.type "dict")).keeps (pushCells_keeps _ _)
def Ad(X:Cx)(scope:Scope)(Nc Nx:List Str)(C:Addr)(fp:List Addr)(pins:List (Addr×Obj))(s:Shared)(H:Hp):Cx:=
 {X with N:=Nc++Nx,s₀:=s,H₀:=H,env:=compEnvC scope (BH scope X.env C) C X.env,outer:=X.stack,stack:=X.stack,ex:=fp,fn:=λx=>scope.names.lookup x==some .cell,pn:=X.pn++pins,xe:=λ_ _=>False}
structure CompOk(X:Cx)(scope:Scope)(Nc Nx:List Str):Prop where
 kind:scope.kind=.function
 one:∀ y∈scope.names,scope.names.lookup y.1=some y.2
 free:∀ y∈scope.names,y.2=.free->X.env.kindOf y.1=some .cell\/X.env.kindOf y.1=some .free
 same:Nx.length=X.N.length
 dis:∀ p∈Nx.zip X.N,(p.1=p.2/\scope.names.lookup p.2≠some .local/\scope.names.lookup p.2≠some .cell)\/scope.names.lookup p.1=none
variable{x:Str}{Nc Nx:List Str}{k:NameKind}{pins:List (Addr×Obj)}{fp:List Addr}
theorem CompOk.loc(c:CompOk X scope Nc Nx):∀ y∈scope.names,y.2=.local->scope.names.lookup y.1=some .local:=λy hy h=>by rw[c.one y hy,h]
theorem CompOk.old(c:CompOk X scope Nc Nx)(h:scope.names.lookup x=some k)(hk:k≠ .cell):(x,NameKind.cell)∉scope.names:=λz=>by
 have:=c.one _ z
 rw[h]at this
 exact hk (Option.some.inj this)
theorem CompOk.cells(c:CompOk X scope Nc Nx)(ok:X.Ok):∀ y∈scope.names,y.2=.free->∃ a,X.env.cells.lookup y.1=some a:=λy hy hf=>ok.has y.1 (c.free y hy hf)
theorem Zg(h:(WB scope X.env).lookup x=some a):X.env.cells.lookup x=some a:=HK scope.names [] (λ_ _ e=>by simp at e) x a h
theorem Sw(C:Addr)(h:(BH scope X.env C).lookup x=some a):X.env.cells.lookup x=some a\/(C<a/\(x,NameKind.cell)∈scope.names):=by
 rcases GE _ _ _ x a h with h|⟨h1,h2⟩
 .exact .inl (Zg h)
 .exact .inr ⟨h1,h2⟩
theorem FK(c:CompOk X scope Nc Nx)(C:Addr)(hx:scope.names.lookup x=some .cell)(h:(BH scope X.env C).lookup x=some a):C<a:=by
 rcases GE _ _ _ x a h with h|⟨h1,_⟩
 .rcases GK scope.names [] x a h with h|h
  .simp at h
  .have:=c.one _ h
   rw[hx]at this
   cases this
 .exact h1
theorem Zy(c:CompOk X scope Nc Nx)(C:Addr)(hx:scope.names.lookup x=some k)(hk:k≠ .cell):(BH scope X.env C).lookup x=(WB scope X.env).lookup x:=VB _ _ _ x (c.old hx hk)
theorem YL{tk:Nat}(c:CompOk X scope Nc Nx)(I:Inv X pins σ H s)(hf:∀ b∈fp,Mn X pins H b/\b<s.heap.objs.size):
  Inv (Ad X scope Nc Nx s.heap.objs.size fp pins s H) [] (replicate Nc.length none++σ) H {s with heap:=pushCells (s.heap.push {cls:=.type "dict",data:=.dict #[]}) scope.names,toks:=tk}:=by
 have hn:(pushCells (s.heap.push {cls:=.type "dict",data:=.dict #[]}) scope.names).Ns s.heap.objs.size λ_=>none:=TC
 have hk:∀ b o,s.heap.get? b=some o->(pushCells (s.heap.push {cls:=.type "dict",data:=.dict #[]}) scope.names).get? b=some o:=λb o e=>pushCells_keeps _ _ _ _ (get?_push_of_some _ e)
 have cellLt:∀ x a,X.env.cells.lookup x=some a->a<s.heap.objs.size:=λx a e=>by
  obtain⟨v,q⟩:=I.cell x a e
  exact q.lt
 have hokind:(compEnvC scope (BH scope X.env s.heap.objs.size) s.heap.objs.size X.env).scope.kind=.function:=c.kind
 have kinds:∀ x,((relabel scope X.env).names.lookup x=some .cell\/(relabel scope X.env).names.lookup x=some .free)->scope.names.lookup x=some .cell\/scope.names.lookup x=some .free:=λx hx'=>by
  rw[Sg]at hx'
  cases q:scope.names.lookup x with
  |none=>rw[q]at hx';simp at hx'
  |some k=>
   rw[q]at hx'
   by_cases hkf:k=.free
   .rw[hkf];exact .inr rfl
   .have hb:(k==NameKind.free)=false:=by simpa using hkf
    simp only[map_some,hb,Bool.false_and,false_eq_true,if_false]at hx'
    exact hx'
 refine⟨⟨I.ok.mod,hokind,I.ok.glob,I.ok.blt,le_refl _,?_,λx hx=>?_,λx a hx e=>?_,I.ok.hd,I.ok.frames,.inl rfl,λb hb=>⟨?_,λx a e=>?_⟩,I.bs,le_trans I.ok.bsz I.sz,λb o e hb=>?_,λb hb=>?_,I.stack,I.stkFree⟩,
  rfl,I.bare,Un.kept hk,⟨_,hn,λi x v h1 h2 h3=>?_⟩,?_,I.hok.fresh (le_refl _),λx a e=>?_,λp hp=>?_,I.hok.kept hk,?_⟩
 .exact UB scope.names _ _ (λx y a h1 h2=>I.ok.inj x y a (Zg h1) (Zg h2)) λx a h=>Nat.lt_succ_of_lt (cellLt x a (Zg h))
 .rcases kinds x hx with hc|hfree
  .exact isSome_iff_exists.mp (cellsFrom_some scope.names _ _ (.inl hc))
  .have hm:=PySem.mem_of_lookup hfree
   obtain⟨a,e⟩:=Bz (env:=X.env) scope.names [] x (.inr ⟨hm,c.cells I.ok _ hm rfl⟩)
   exact⟨a,(Zy c _ hfree (by decide)).trans e⟩
 .have hx':(scope.names.lookup x==some NameKind.cell)=true:=hx
  exact Nat.le_of_lt (FK c _ (by simpa using hx') e)
 .exact ne_of_lt (hf b hb).2
 .rcases Sw _ e with e|⟨e,_⟩
  .exact(hf b hb).1.2.2.2.2.1 x a e
  .have:=(hf b hb).2
   exact ne_of_gt (Nat.lt_trans this e)
 .obtain⟨_,hb2⟩:=I.bs b o e
  rcases(hf b hb).1.2.2.2.1 with z|z
  .exact I.ok.noex b o e z
  .exact absurd (lt_of_lt_of_le (lt_size e) (le_trans I.ok.bsz z)) (lt_irrefl _)
 .intro z
  rcases mem_cons.mp (I.stkSub b z) with q|q
  .exact(hf b hb).1.2.1 q
  .exact(hf b hb).1.2.2.1 q
 .have hi:Nc.length<=i:=by
   refine Nat.le_of_not_lt λq=>?_
   rw[List.getElem?_append_left (by simpa using q),List.getElem?_replicate]at h2
   split at h2<;>cases h2
  have h1':Nx[i-Nc.length]? =some x:=by
   have z:(Nc++Nx)[i]? =some x:=h1
   rw[List.getElem?_append_right hi]at z;exact z
  have h2':σ[i-Nc.length]? =some (some v):=by
   rw[List.getElem?_append_right (by simpa using hi),length_replicate]at h2;exact h2
  have h3':(relabel scope X.env).names.lookup x=some .local\/(relabel scope X.env).names.lookup x=some .cell\/(relabel scope X.env).names.lookup x=some .free:=h3
  have hz:i-Nc.length<X.N.length:=by
   rw[<-c.same]
   refine Nat.lt_of_not_le λq=>?_
   rw[List.getElem?_eq_none q]at h1';cases h1'
  have hd2:=c.dis (x,X.N[i-Nc.length]'hz) (mem_of_getElem? (i:=i-Nc.length) (by
   rw[List.getElem?_zip_eq_some]
   exact⟨h1',getElem?_eq_getElem hz⟩))
  have hd3:X.N[i-Nc.length]? =some x/\scope.names.lookup x≠some .local/\scope.names.lookup x≠some .cell:=by
   rcases hd2 with⟨q1,q2⟩|q
   .have q1':x=X.N[i-Nc.length]'hz:=q1
    have q2':scope.names.lookup (X.N[i-Nc.length]'hz)≠some .local/\scope.names.lookup (X.N[i-Nc.length]'hz)≠some .cell:=q2
    rw[<-q1']at q2'
    exact⟨by rw[getElem?_eq_getElem hz,<-q1'],q2'⟩
   .exfalso
    have q':scope.names.lookup x=none:=q
    rw[Sg,q']at h3'
    simp at h3'
  obtain⟨h1',hnl,hnc⟩:=hd3
  have hfree:scope.names.lookup x=some .free:=by
   rcases h3' with z|z
   .rw[Sg]at z
    cases q:scope.names.lookup x with
    |none=>rw[q]at z;simp at z
    |some k=>
     rw[q]at z
     by_cases hkf:k=.free
     .rw[hkf]
     .have hb:(k==NameKind.free)=false:=by simpa using hkf
      simp only[map_some,hb,Bool.false_and,false_eq_true,if_false]at z
      rw[q]at hnl;exact absurd z hnl
   .rcases kinds x z with z|z
    .exact absurd z hnc
    .exact z
  have hm:=PySem.mem_of_lookup hfree
  have hkx:=c.free _ hm rfl
  obtain⟨mX,hnX,hl⟩:=I.loc
  obtain⟨u,r,l⟩:=hl _ x v h1' h2' (hkx.elim (λz=>.inr (.inl z)) λz=>.inr (.inr z))
  refine⟨u,r,?_⟩
  rcases l with⟨z,_⟩|⟨_,a,e,z⟩
  .have z':X.env.kindOf x=some .local:=z
   rcases hkx with q|q<;> · rw[z']at q;cases q
  .obtain⟨a',e'⟩:=Bz (env:=X.env) scope.names [] x (.inr ⟨hm,c.cells I.ok _ hm rfl⟩)
   have ea:a'=a:=by
    have:=Zg (X:=X) e'
    rw[e]at this
    exact(Option.some.inj this).symm
   subst ea
   refine .inr ⟨?_,a',(Zy c _ hfree (by decide)).trans e',?_⟩
   .show(relabel scope X.env).names.lookup x=some .cell\/(relabel scope X.env).names.lookup x=some .free
    rw[Sg,hfree]
    simp only[map_some]
    split
    .exact .inl rfl
    .exact .inr rfl
   .obtain⟨o,ho,hd⟩:=z
    exact⟨o,hk _ _ ho,hd⟩
 .have q:=Uw scope.names (s.heap.push {cls:=.type "dict",data:=.dict #[]}) (WB scope X.env) λx a e=>by
   obtain⟨v,z⟩:=I.cell x a (Zg e)
   exact⟨v,z.keeps λb o e=>get?_push_of_some _ e⟩
  rw[size_push]at q
  exact q
 .rcases Sw _ e with e|⟨e,_⟩
  .exact I.freeC x a e
  .exact I.hok.fresh (Nat.le_of_lt e)
 .have hp':p∈X.pn++pins:=by
   have z:p∈(X.pn++pins)++ []:=hp
   rwa [append_nil]at z
  obtain⟨e,n,ne,nf,d⟩:=I.pin p hp'
  refine⟨hk _ _ e,n,ne_of_lt (lt_size e),λz=>?_,d⟩
  rcases mem_cons.mp (I.stkSub p.1 z) with q|q
  .exact ne q
  .exact nf q
 .show _=(Nc++Nx).length
  rw[length_append,length_append,length_replicate,I.len,c.same]
theorem XL{σ':L2.St}{s':Shared}{h'':Heap}(I:Inv X pins σ H s)(hf:∀ b∈fp,Mn X pins H b)(J:Inv (Ad X scope Nc Nx s.heap.objs.size fp pins s H) [] σ' H' s')(hs:SameBut s.heap.objs.size s'.heap h''):Inv X pins σ H' {s' with heap:=h''}:=by
 have u:Un (Re X.stack) fp H H' s.heap s'.heap:=J.base
 have hC:H' s.heap.objs.size=none:=J.free
 have keep:∀ b o,b≠s.heap.objs.size->s'.heap.get? b=some o->h''.get? b=some o:=λb o hb e=>by rw[hs.2 b hb];exact e
 have lt:∀ b o,s.heap.get? b=some o->b≠s.heap.objs.size:=λb o e=>ne_of_lt (lt_size e)
 refine I.call' (s':= {s' with heap:=h''}) (ch:=fp) J.os ⟨λb o e n h1 h2=>keep b o (lt b o e) (u.keep b o e n h1 h2),λb o e n h1 h2=>?_,u.free,λb o e h1=>?_,u.tups,u.frzs,u.tbls⟩ (λb o e=>?_) J.bare λb hb=>?_
 .obtain⟨sl,q⟩:=u.slot b o e n h1 h2
  exact⟨sl,keep b _ (lt b o e) q⟩
 .obtain⟨o',q⟩:=u.there b o e h1
  exact⟨o',keep b _ (lt b o e) q⟩
 .refine(J.hok b o e).stay (λc v hc q=>keep c v (λz=>?_) q) (λ_ q=>q) λ_ _ q=>q
  subst z
  rcases hc with z|z
  .rw[<-z,hC]at e;cases e
  .rw[hC]at z;cases z
 .exact⟨(hf b hb).2.2.2.1,(hf b hb).2.1,(hf b hb).2.2.2.2.1,(hf b hb).2.2.2.2.2⟩
variable{w:World}{elt iter:Expr}{ifs:List Expr}{pos:Pos}
theorem Cz{prog:Program}{R:Result->Shared->Prop}{target:Expr}{it acc:Value}(I:Nat->Shared->Prop)(turn:∀ n s,I n s->wpAny (model prog w) A (pyNext it) (λr s₁=>match r with
   |none=>R (.ok .next) s₁
   |some v=>wpAny (model prog w) A (letOwnedTupleGo target it v) (λ_ s₁'=>wpAny (model prog w) A (assign target env v) (λ_ s₂=>
     wpAny (model prog w) A (forIn ifs true λc r=>if r=true then do let ok <-isTrue c env (eval c env);pure (ForInStep.yield ok) else pure (ForInStep.yield r)) (λok s₃=>
      if ok=true then wpAny (model prog w) A (eval elt env) (λx s₄=>
       wpAny (model prog w) A (call (.builtin "list.append") [acc,x]) (λ_ s₅=>∃ m,m<n/\I m s₅) (λ_ _=>False) s₄) (λ_ _=>False) s₃
      else ∃ m,m<n/\I m s₃) (λ_ _=>False) s₂) (λ_ _=>False) s₁') (λ_ _=>False) s₁) (λ_ _=>False) s)(n:Nat)(h:I n s):
  codeAny (model prog w) A (.compLoop (.ListComp elt [⟨target,iter,ifs,0⟩] scope pos) 0 it acc env) R s:=by
 refine codeAny_loop rfl I (λn s hI=>?_) n h
 show wpAny _ A ((compTurn (.ListComp elt [⟨target,iter,ifs,0⟩] scope pos) 0 it acc env).onRaise (λx=>do noteFrame x env;theTreesLotGoes x)) _ _ s
 refine wpAny_noted ?_
 rw[compTurn_list]
 refine wpAny_bind (wpAny_standAt (wpAny_bind (wpAny_mono (turn n s hI) (λr s₁ h₁=>?_) λ_ _ h'=>h'.elim)))
 cases r with
 |none=>exact wpAny_pure h₁
 |some v=>
  refine wpAny_bind (wpAny_mono h₁ (λ_ s₁' h₁'=>wpAny_bind (wpAny_mono h₁' (λ_ s₂ h₂=>wpAny_bind (wpAny_mono h₂ (λok s₃ h₃=>?_) λ_ _ h'=>h'.elim)) λ_ _ h'=>h'.elim)) λ_ _ h'=>h'.elim)
  cases ok with
  |false=>exact wpAny_pure ⟨rfl,h₃⟩
  |true=>
   exact wpAny_bind (wpAny_bind (wpAny_mono h₃ (λx s₄ h₄=>wpAny_bind (wpAny_mono h₄ (λ_ s₅ h₅=>wpAny_pure (wpAny_pure ⟨rfl,h₅⟩)) λ_ _ h'=>h'.elim)) λ_ _ h'=>h'.elim))
def Y6(X:Cx)(ifs:List Expr)(t:TT):Prop:=
 ∀ (pins:List (Addr×Obj)) (s:Shared) (σ:L2.St) (H:Hp) (Q:Bool->Hp->Prop),Inv X pins σ H s->t σ H Q->
  wpAny (model X.prog X.w) X.A (forIn ifs true λc r=>if r=true then do let ok <-isTrue c X.env (eval c X.env);pure (ForInStep.yield ok) else pure (ForInStep.yield r)) (TP X pins σ Q) X.xe s
def Ca0:TT:=λ_ H Q=>Q true H
theorem KU:Y6 X [] Ca0:=λ_ s σ H Q I h=>wpAny_tests_nil ⟨H,I,h⟩
def IW(n:Nat)(wi:TI)(g:TG)(tt:TT)(te:TE):TE:=λσ H Q=>wi σ H λJ H1=>∀ a,H1 a=none->∃ W:Nat->Nat->List V->L2.St->Hp->Prop,(∃ m,W 0 m [] (replicate n none++σ) (Ib H1 a (.lst [])))/\
 ∀ i m xs σ' H,W i m xs σ' H->H a=some (.lst xs)/\((J.stop i H/\Q (.ref a) H)\/(J.go i H/\∀ x H',J.yld i H x H'->g x σ' H' λσ2 H2=>tt σ2 H2 λb H3=>
  if b=true then te σ2 H3 λy H4=>H4 a=some (.lst xs)/\xs.length<sizeLine/\∃ m',m'<m/\W (i+1) m' (xs++ [y]) σ2 (Ib H4 a (.lst (xs++ [y]))) else ∃ m',m'<m/\W (i+1) m' xs σ2 H3))
variable{tg:Expr}{H1:Hp}
section
variable {wi:TI}{g:TG}{tt:TT}{te:TE}
theorem XB(c:CompOk X scope Nc Nx)(hcalm:X.calm=true)(hY:∀ (C:Addr) (fp:List Addr) (pins:List (Addr×Obj)) (s:Shared) (H:Hp),PG (Ad X scope Nc Nx C fp pins s H) tg g/\Y6 (Ad X scope Nc Nx C fp pins s H) ifs tt/\PE (Ad X scope Nc Nx C fp pins s H) elt te){s2:Shared}{it:Addr}{tn:Nat->Heap->Prop}{J:It}{Q:V->Hp->Prop}{RR:Value->Addr->Result->Shared->Prop}(I:Inv X pins σ H1 s2)(T:Turn X.prog X.w X.K tg J fp it tn)(st:tn 0 s2.heap)(hf:∀ b∈fp,Mn X pins H1 b)(h:∀ a,H1 a=none->∃ W:Nat->Nat->List V->L2.St->Hp->Prop,(∃ m,W 0 m [] (replicate Nc.length none++σ) (Ib H1 a (.lst [])))/\
 ∀ i m xs σ' H,W i m xs σ' H->H a=some (.lst xs)/\((J.stop i H/\Q (.ref a) H)\/(J.go i H/\∀ x H',J.yld i H x H'->g x σ' H' λσ2 H2=>tt σ2 H2 λb H3=>
  if b=true then te σ2 H3 λy H4=>H4 a=some (.lst xs)/\xs.length<sizeLine/\∃ m',m'<m/\W (i+1) m' (xs++ [y]) σ2 (Ib H4 a (.lst (xs++ [y]))) else ∃ m',m'<m/\W (i+1) m' xs σ2 H3)))(hRR:∀ a H' σ' s' s3,Inv X pins σ (Ib H1 a (.lst [])) s3->(∀ b∈fp,Mn X pins (Ib H1 a (.lst [])) b)->Inv (Ad X scope Nc Nx s3.heap.objs.size fp pins s3 (Ib H1 a (.lst []))) [] σ' H' s'->Q (.ref a) H'->RR (.ref a) s3.heap.objs.size (.ok .next) s'):
  wpAny (model X.prog X.w) X.A (newList []) (λacc s₃=>wpAny (model X.prog X.w) X.A (newFunctionEnv scope X.env.globals (WB scope X.env) [] X.env.qual none .none (some X.env)) (λcenv s₄=>
   codeAny (model X.prog X.w) X.A (.compStart (.ListComp elt [⟨tg,iter,ifs,0⟩] scope pos) 0 (.ref it) acc {cenv with scope:=relabel scope X.env}) (RR acc cenv.locals) s₄) E s₃) E s2:=by
 have hfree:H1 s2.heap.objs.size=none:=I.hok.fresh (le_refl _)
 refine wpAny_newObj_type (Gq ?_)
 dsimp only
 generalize ea:s2.heap.objs.size=a at hfree
 have I3:Inv X pins σ (Ib H1 a (.lst [])) {s2 with heap:=s2.heap.push {cls:=.type "list",dict:=none,data:=.seq ([]:List Value).toArray},toks:=s2.toks}:=by
  subst ea
  exact I.laid (t':=s2.toks) (λb u e=>get?_push_of_some _ e) (le_refl _) ⟨zero_le _,[],_,.nil,get?_push_size _ rfl⟩
 generalize eS:({s2 with heap:=s2.heap.push {cls:=.type "list",dict:=none,data:=.seq ([]:List Value).toArray},toks:=s2.toks}:Shared)=s3 at I3
 have e3h:s3.heap=s2.heap.push {cls:=.type "list",dict:=none,data:=.seq ([]:List Value).toArray}:=by rw[<-eS]
 have obj0:=T.obj 0 _ st
 have hf3:∀ b∈fp,Mn X pins (Ib H1 a (.lst [])) b:=λb hb=>by
  obtain⟨o,e,_⟩:=obj0 b hb
  have:b≠a:=by rw[<-ea];exact ne_of_lt (lt_size e)
  exact⟨by rw[Ea this];exact(hf b hb).1,(hf b hb).2⟩
 have up:∀ b o,s2.heap.get? b=some o->s3.heap.get? b=some o:=λb o e=>by rw[e3h];exact get?_push_of_some _ e
 have hf3':∀ b∈fp,Mn X pins (Ib H1 a (.lst [])) b/\b<s3.heap.objs.size:=λb hb=>⟨hf3 b hb,by
  obtain⟨o,e,_⟩:=obj0 b hb
  exact lt_size (up b o e)⟩
 have eC:(s2.heap.push {cls:=.type "list",dict:=none,data:=.seq ([]:List Value).toArray}).objs.size=s3.heap.objs.size:=by rw[e3h]
 generalize eh:pushCells ((s2.heap.push {cls:=.type "list",dict:=none,data:=.seq ([]:List Value).toArray}).push {cls:=.type "dict",data:=.dict #[]}) scope.names=h₁
 have hk4:∀ b o,s3.heap.get? b=some o->h₁.get? b=some o:=λb o e=>by
  rw[<-eh,<-e3h]
  exact pushCells_keeps _ _ _ _ (get?_push_of_some _ e)
 have I4:=YL (tk:=s2.toks) c I3 hf3'
 have e4:({s3 with heap:=pushCells (s3.heap.push {cls:=.type "dict",data:=.dict #[]}) scope.names,toks:=s2.toks}:Shared)= {s2 with heap:=h₁}:=by rw[<-eh,<-eS]
 rw[e4]at I4
 obtain⟨W,⟨m0,w0⟩,turn⟩:=h a hfree
 obtain⟨hg,htt,hte⟩:=hY s3.heap.objs.size fp pins s3 (Ib H1 a (.lst []))
 have loop:codeAny (model X.prog X.w) X.A (.compLoop (.ListComp elt [⟨tg,iter,ifs,0⟩] scope pos) 0 (.ref it) (.ref a) (compEnvC scope (BH scope X.env s3.heap.objs.size) s3.heap.objs.size X.env)) (RR (.ref a) s3.heap.objs.size) {s2 with heap:=h₁}:=by
  refine Cz (λn s'=>∃ i xs σ' H',Inv (Ad X scope Nc Nx s3.heap.objs.size fp pins s3 (Ib H1 a (.lst []))) [] σ' H' s'/\tn i s'.heap/\(∀ b∈fp,H' b=none)/\W i n xs σ' H') ?_ m0
   ⟨0,[],_,_,I4,T.keep _ _ _ st λb _ o e=>hk4 b o (up b o e),λb hb=>(hf3 b hb).1,w0⟩
  rintro n s5 ⟨i,xs,σ5,H5,I5,st5,fr5,w5⟩
  have stat:∀ {H':Hp},(∀ b∈fp,H' b=none)->∀ b∈fp,Mn (Ad X scope Nc Nx s3.heap.objs.size fp pins s3 (Ib H1 a (.lst []))) [] H' b:=λ{H'} hn b hb=>by
   obtain⟨_,f1,f2,f3,f4,f5⟩:=hf3 b hb
   refine⟨hn b hb,ne_of_lt (hf3' b hb).2,λz=>?_,.inl hb,λx cc e=>(Sw _ e).elim (λe=>f4 x cc e) λe=>ne_of_gt (Nat.lt_trans (hf3' b hb).2 e.1),λp hp=>f5 p ?_⟩
   .rcases mem_cons.mp (I3.stkSub b z) with q|q
    .exact f1 q
    .exact f2 q
   .have z:p∈(X.pn++pins)++ []:=hp
    rwa [append_nil]at z
  obtain⟨hxs,alt⟩:=turn i n xs σ5 H5 w5
  rcases alt with⟨stop,qn⟩|⟨go,step⟩
  .refine wpAny_mono (T.done (Ad X scope Nc Nx s3.heap.objs.size fp pins s3 (Ib H1 a (.lst []))) rfl rfl rfl hcalm i [] s5 σ5 H5 (λ_ _=>False) I5 (stat fr5) st5 stop) (λr s6 ⟨hr,I6⟩=>?_) λ_ _ z=>z
   subst hr
   exact hRR a H5 σ5 s6 s3 I3 hf3 I6 qn
  .refine wpAny_mono (T.item (Ad X scope Nc Nx s3.heap.objs.size fp pins s3 (Ib H1 a (.lst []))) rfl rfl rfl hcalm i [] s5 σ5 H5 (λ_ _=>False) I5 (stat fr5) st5 go) (λr s6 ⟨u,hr,h6⟩=>?_) λ_ _ z=>z
   subst hr
   refine wpAny_mono h6 (λ_ s7 ⟨x,H7,I7,r7,y7,st7,fr7⟩=>?_) λ_ _ z=>z
   have I7':=I7.pinned (stat fr7) (T.obj _ _ st7)
   have fin:∀ {σ9:L2.St} {H9:Hp} {s9:Shared},Inv (Ad X scope Nc Nx s3.heap.objs.size fp pins s3 (Ib H1 a (.lst []))) ([]++Ht fp s7.heap) σ9 H9 s9->Inv (Ad X scope Nc Nx s3.heap.objs.size fp pins s3 (Ib H1 a (.lst []))) [] σ9 H9 s9/\tn (i+1) s9.heap/\(∀ b∈fp,H9 b=none):=λ{σ9 H9 s9} I9=>by
    refine⟨I9.unpinned,T.keep _ _ _ st7 λb hb o e=>(I9.pin (b,o) (mem_append_right _ (mem_append_right _ (Jk hb e)))).1,λb hb=>?_⟩
    obtain⟨o,e,d⟩:=T.obj _ _ st7 b hb
    exact(I9.pin (b,o) (mem_append_right _ (mem_append_right _ (Jk hb e)))).2.1
   refine wpAny_mono (hg _ s7 σ5 H7 x u _ I7' r7 (step x H7 y7)) (λ_ s8 ⟨σ8,H8,I8,q8⟩=>?_) λ_ _ z=>z
   refine wpAny_mono (htt _ s8 σ8 H8 _ I8 q8) (λb s9 ⟨H9,I9,q9⟩=>?_) λ_ _ z=>z
   cases b with
   |false=>
    obtain⟨m',hm,w9⟩:=q9
    obtain⟨J1,J2,J3⟩:=fin I9
    exact⟨m',hm,i+1,xs,σ8,H9,J1,J2,J3,w9⟩
   |true=>
    refine wpAny_mono (hte _ s9 σ8 H9 _ I9 q9) (λy s10 ⟨v,H10,I10,r10,q10⟩=>?_) λ_ _ z=>z
    obtain⟨e10,hl10,m',hm,w10⟩:=q10
    refine wpAny_mono (Vp (X:=Ad X scope Nc Nx s3.heap.objs.size fp pins s3 (Ib H1 a (.lst []))) _ s10 σ8 H10 (.ref a) [v] (.ref a) [y] (λ_ H'=>H'=Ib H10 a (.lst (xs++ [v]))) I10 rfl (.cons r10 .nil) ⟨a,xs,v,rfl,rfl,e10,hl10,rfl⟩) (λ_ s11 ⟨_,H11,I11,_,q11⟩=>?_) λ_ _ z=>z
    subst q11
    obtain⟨J1,J2,J3⟩:=fin I11
    exact⟨m',hm,i+1,xs++ [v],σ8,_,J1,J2,J3,w10⟩
 have st4:tn 0 h₁:=T.keep _ _ _ st λb _ o e=>hk4 b o (up b o e)
 rw[e3h]at loop
 subst ea
 exact codeAny_compStart_list loop (T.self _ 0 _ _ _ st4 loop)
theorem DU(c:CompOk X scope Nc Nx)(hcalm:X.calm=true)(hi:PI X tg iter wi)(hY:∀ (C:Addr) (fp:List Addr) (pins:List (Addr×Obj)) (s:Shared) (H:Hp),PG (Ad X scope Nc Nx C fp pins s H) tg g/\Y6 (Ad X scope Nc Nx C fp pins s H) ifs tt/\PE (Ad X scope Nc Nx C fp pins s H) elt te)(hs:∀ x,foldedSetIterable iter X.env x=pure x:=by intro _;rfl):
  PE X (.ListComp elt [⟨tg,iter,ifs,0⟩] scope pos) (IW Nc.length wi g tt te):=by
 intro pins s σ H Q I h
 rw[eval_ListComp]
 refine wpAny_comprehension_free (use:=none) rfl hs (PQ (c.cells I.ok)) c.kind c.loc (thn (hi pins s σ H _ I h) λv s1 h1=>thn h1 λitv s2 h2=>?_)
 obtain⟨it,fp,tn,J,H2,rfl,I2,T,st2,f2,q⟩:=h2
 refine XB (Q:=Q) (RR:=λacc C=>compPost (model X.prog X.w) X.A X.xe none (EP X pins σ Q) acc C) c hcalm hY I2 T st2 f2 q ?_
 intro a H' σ' s' s3 I3 hf3 IY qa
 obtain⟨m,hn,_⟩:=IY.loc
 exact⟨m,hn,λh' hs'=>⟨.ref a,H',XL I3 hf3 IY hs',rfl,qa⟩⟩
end
open SeqAt
mutual
def Zj:D->D->Bool
 | .non,.non=>true
 | .bl a,.bl b=>a==b
 | .int a,.int b=>a==b
 | .str a,.str b=>a==b
 | .bl a,.int b=>(if a then 1 else 0)==b
 | .int a,.bl b=>a==(if b then 1 else 0)
 | .tup a,.tup b=>LH a b
 | .lst a,.lst b=>LH a b
 |_,_=>false
def LH:List D->List D->Bool
 | [],[]=>true
 |a::as,b::bs=>Zj a b&&LH as bs
 |_,_=>false
end
def Fe:Nat->D->Bool
 |_,.non=>true
 |_,.bl _=>true
 |_,.int _=>true
 |_,.str _=>true
 |n+1,.tup ds=>ds.all (Fe n)
 |n+1,.lst ds=>ds.all (Fe n)
 |_,_=>false
theorem Op:∀ (as bs:List D),as.length=bs.length->LH as bs=(range as.length).all λj=>Zj (as.getD j .non) (bs.getD j .non)
 | [],[],_=>by simp[LH]
 |a::as,b::bs,h=>by
  rw[LH,List.length_cons,List.range_succ_eq_map,all_cons,all_map,Op as bs (by simpa using h)]
  rfl
 | [],_::_,h=>by simp at h
 |_::_,[],h=>by simp at h
theorem Xw:∀ (as bs:List D),as.length≠bs.length->LH as bs=false
 | [],[],h=>absurd rfl h
 |a::as,b::bs,h=>by rw[LH,Xw as bs (by simpa using h),Bool.and_false]
 | [],_::_,h=>by simp[LH]
 |_::_,[],h=>by simp[LH]
variable{n j:Nat}{its:List Value}
theorem Has.notup{W:WS}{H:Hp}{K:Frag}(I:Inv X pins σ H s)(h1:SqL X.K H a xs)(h2:SqT X.K H a ys):False:=by
 obtain⟨its,_,⟨o,n,e,c,_⟩,_⟩:=I.list h1
 obtain⟨its',_,⟨o',e',c',_⟩,_⟩:=I.tuple h2
 rw[e]at e';cases e'
 rw[c]at c'
 exact absurd c' (by simp)
theorem HasT.ref{x:V}(h:HasT K W H d x)(hs:Fe n d=true):
  (d=.non/\x=.non)\/(∃ b,d=.bl b/\x=.bl b)\/(∃ b,d=.int b/\x=.int b)\/(∃ b,d=.str b/\x=.str b)\/
  (∃ ds a xs m,n=m+1/\d=.tup ds/\x=.ref a/\SqT K H a xs/\HasL K W H ds xs/\∀ y∈ds,Fe m y=true)\/
  (∃ ds a xs m,n=m+1/\d=.lst ds/\x=.ref a/\SqL K H a xs/\HasL K W H ds xs/\∀ y∈ds,Fe m y=true):=by
 cases d with
 |non=>exact .inl ⟨rfl,h.non⟩
 |bl b=>exact .inr (.inl ⟨b,rfl,h.bl⟩)
 |int b=>exact .inr (.inr (.inl ⟨b,rfl,h.int⟩))
 |str b=>exact .inr (.inr (.inr (.inl ⟨b,rfl,h.str⟩)))
 |tup ds=>
  obtain⟨a,xs,e,q,r⟩:=h.tup
  cases n with
  |zero=>simp[Fe]at hs
  |succ m=>
   rw[Fe,all_eq_true]at hs
   exact .inr (.inr (.inr (.inr (.inl ⟨ds,a,xs,m,rfl,rfl,e,q,r,hs⟩))))
 |lst ds=>
  obtain⟨a,xs,e,q,r⟩:=h.lst
  cases n with
  |zero=>simp[Fe]at hs
  |succ m=>
   rw[Fe,all_eq_true]at hs
   exact .inr (.inr (.inr (.inr (.inr ⟨ds,a,xs,m,rfl,rfl,e,q,r,hs⟩))))
 |dct k ds=>cases n<;>simp[Fe]at hs
 |exc k ds=>cases n<;>simp[Fe]at hs
 |obj c k ds=>cases n<;>simp[Fe]at hs
theorem AL(I:Inv X pins σ H s):∀ (n:Nat) {d e:D} {x:V},HasT X.K W H d x->HasT X.K W H e x->Fe n d=true->Fe n e=true->Zj d e=true:=by
 intro n
 induction n with
 |zero=>
  intro d e x h1 h2 s1 s2
  rcases h1.ref s1 with⟨rfl,rfl⟩|⟨b,rfl,rfl⟩|⟨b,rfl,rfl⟩|⟨b,rfl,rfl⟩|⟨_,_,_,m,z,_⟩|⟨_,_,_,m,z,_⟩<;>
  rcases h2.ref s2 with⟨rfl,e2⟩|⟨c,rfl,e2⟩|⟨c,rfl,e2⟩|⟨c,rfl,e2⟩|⟨_,_,_,m',z',_⟩|⟨_,_,_,m',z',_⟩<;>first|(cases z;done)|(cases z';done)|(cases e2;done)|(cases e2;simp[Zj])
 |succ n ih=>
  have lists:∀ {ds es:List D} {xs:List V},HasL X.K W H ds xs->HasL X.K W H es xs->(∀ y∈ds,Fe n y=true)->(∀ y∈es,Fe n y=true)->LH ds es=true:=by
   intro ds
   induction ds with
   |nil=>
    intro es xs h1 h2 _ _
    have e1:=h1.length
    have e2:=h2.length
    cases es with
    |nil=>simp[LH]
    |cons=>simp at e1 e2;omega
   |cons d ds ih2=>
    intro es xs h1 h2 g1 g2
    rw[HasL]at h1
    obtain⟨x,r,rfl,q,t⟩:=h1
    cases es with
    |nil=>rw[HasL]at h2;cases h2
    |cons e es=>
     rw[HasL]at h2
     obtain⟨x',r',ee,q',t'⟩:=h2
     cases ee
     rw[LH,ih (.inl q) (.inl q') (g1 d mem_cons_self) (g2 e mem_cons_self),ih2 t t' (λy hy=>g1 y (mem_cons_of_mem _ hy)) λy hy=>g2 y (mem_cons_of_mem _ hy)]
     rfl
  intro d e x h1 h2 s1 s2
  rcases h1.ref s1 with⟨rfl,rfl⟩|⟨b,rfl,rfl⟩|⟨b,rfl,rfl⟩|⟨b,rfl,rfl⟩|⟨ds,a,xs,m,z,rfl,rfl,q,r,g⟩|⟨ds,a,xs,m,z,rfl,rfl,q,r,g⟩<;>
  rcases h2.ref s2 with⟨rfl,e2⟩|⟨c,rfl,e2⟩|⟨c,rfl,e2⟩|⟨c,rfl,e2⟩|⟨es,a',ys,m',z',rfl,e2,q',r',g'⟩|⟨es,a',ys,m',z',rfl,e2,q',r',g'⟩<;>first|(cases e2;done)|(cases e2;simp[Zj];done)|skip
  .cases e2
   cases z;cases z'
   have:=I.tuple_inj q q'
   subst this
   rw[Zj];exact lists r r' g g'
  .cases e2
   exact(Has.notup (K:=X.K) (W:=W) (H:=H) I q' q).elim
  .cases e2
   exact(Has.notup (K:=X.K) (W:=W) (H:=H) I q q').elim
  .cases e2
   cases z;cases z'
   have:=I.list_inj q q'
   subst this
   rw[Zj];exact lists r r' g g'
theorem Mr(h:j<ds.length):ds[j]? =some (ds.getD j .non):=by
 rw[List.getD_eq_getElem?_getD,getElem?_eq_getElem h];rfl
theorem BG(r:Vals xs its){x:V}(e:xs[j]? =some x)(h:j<its.toArray.size):RelV x its.toArray[j]:=by
 obtain⟨u,h1,h2⟩:=r.get e
 have:its.toArray[j]? =some u:=by simpa using h1
 rw[Array.getElem?_eq_getElem h]at this
 cases this
 exact h2
theorem Ms(n:Nat)(ih:∀ {d e:D} {x y:V} {v u:Value},HasT X.K W H d x->HasT X.K W H e y->RelV x v->RelV y u->Fe n d=true->Fe n e=true->EqAt A s v u (Zj d e)){its':List Value}(r:HasL X.K W H ds xs)(r':HasL X.K W H es ys)(v:Vals xs its)(v':Vals ys its')(g:∀ y∈ds,Fe n y=true)(g':∀ y∈es,Fe n y=true):
  ∀ j (h1:j<its.toArray.size) (h2:j<its'.toArray.size),EqAt A s its.toArray[j] its'.toArray[j] (Zj (ds.getD j .non) (es.getD j .non)):=by
 intro j h1 h2
 have l1:j<ds.length:=by rw[r.length,v.length];simpa using h1
 have l2:j<es.length:=by rw[r'.length,v'.length];simpa using h2
 obtain⟨x,e1,q1⟩:=r.get (Mr l1)
 obtain⟨y,e2,q2⟩:=r'.get (Mr l2)
 exact ih (.inl q1) (.inl q2) (BG v e1 h1) (BG v' e2 h2) (g _ (mem_of_getElem? (Mr l1))) (g' _ (mem_of_getElem? (Mr l2)))
theorem HasT.view(I:Inv X pins σ H s){x:V}{v:Value}(h:HasT X.K W H d x)(rx:RelV x v)(hs:Fe n d=true):
  (d=.non/\v=.none)\/(∃ b,d=.bl b/\v=.bool b)\/(∃ b t,d=.int b/\v=.int b t)\/(∃ b t,d=.str b/\v=.str b t)\/
  (∃ ds a xs its m,n=m+1/\d=.tup ds/\x=.ref a/\v=.ref a/\HasL X.K W H ds xs/\Vals xs its/\s.heap.IsTuple a its.toArray/\∀ y∈ds,Fe m y=true)\/
  (∃ ds a xs its m,n=m+1/\d=.lst ds/\x=.ref a/\v=.ref a/\HasL X.K W H ds xs/\Vals xs its/\s.heap.IsList a its.toArray/\∀ y∈ds,Fe m y=true):=by
 rcases h.ref hs with⟨rfl,rfl⟩|⟨b,rfl,rfl⟩|⟨b,rfl,rfl⟩|⟨b,rfl,rfl⟩|⟨ds,a,xs,m,z,rfl,rfl,q,r,g⟩|⟨ds,a,xs,m,z,rfl,rfl,q,r,g⟩
 .exact .inl ⟨rfl,rx⟩
 .exact .inr (.inl ⟨b,rfl,rx⟩)
 .obtain⟨t,e⟩:=rx
  exact .inr (.inr (.inl ⟨b,t,rfl,e⟩))
 .obtain⟨t,e⟩:=rx
  exact .inr (.inr (.inr (.inl ⟨b,t,rfl,e⟩)))
 .obtain⟨its,rv,p,_⟩:=I.tuple q
  exact .inr (.inr (.inr (.inr (.inl ⟨ds,a,xs,its,m,z,rfl,rfl,rx,r,rv,p,g⟩))))
 .obtain⟨its,rv,p,_⟩:=I.list q
  exact .inr (.inr (.inr (.inr (.inr ⟨ds,a,xs,its,m,z,rfl,rfl,rx,r,rv,p.isList,g⟩))))
theorem ZK(I:Inv X pins σ H s):∀ (n:Nat) (A:Around) {d e:D} {x y:V} {v u:Value},A.units+n<cLine->HasT X.K W H d x->HasT X.K W H e y->RelV x v->RelV y u->Fe n d=true->Fe n e=true->
  EqAt A s v u (Zj d e)/\RcAt A s v u (Zj d e)/\RcNeAt A s v u (!Zj d e):=by
 intro n
 induction n with
 |zero=>
  intro A d e x y v u hu h1 h2 rx ry s1 s2
  rcases h1.view I rx s1 with⟨rfl,rfl⟩|⟨b,rfl,rfl⟩|⟨b,t,rfl,rfl⟩|⟨b,t,rfl,rfl⟩|⟨_,_,_,_,m,z,_⟩|⟨_,_,_,_,m,z,_⟩<;>
  rcases h2.view I ry s2 with⟨rfl,rfl⟩|⟨c,rfl,rfl⟩|⟨c,t',rfl,rfl⟩|⟨c,t',rfl,rfl⟩|⟨_,_,_,_,m',z',_⟩|⟨_,_,_,_,m',z',_⟩<;>first|(cases z;done)|(cases z';done)|skip
  .exact⟨EqAt.same _,RcAt.none_none,RcNeAt.none_none⟩
  .exact⟨EqAt.none_bool _,RcAt.none_bool _,RcNeAt.none_bool _⟩
  .exact⟨EqAt.none_int _ _,RcAt.none_int _ _,RcNeAt.none_int _ _⟩
  .exact⟨EqAt.none_str _ _,RcAt.none_str _ _,RcNeAt.none_str _ _⟩
  .exact⟨EqAt.bool_none _,RcAt.bool_none _,RcNeAt.bool_none _⟩
  .exact⟨EqAt.bool_bool _ _,RcAt.bool_bool _ _,RcNeAt.bool_bool _ _⟩
  .exact⟨EqAt.bool_int _ _ _,RcAt.bool_int _ _ _,RcNeAt.bool_int _ _ _⟩
  .exact⟨EqAt.bool_str _ _ _,RcAt.bool_str _ _ _,RcNeAt.bool_str _ _ _⟩
  .exact⟨EqAt.int_none _ _,RcAt.int_none _ _,RcNeAt.int_none _ _⟩
  .exact⟨EqAt.int_bool _ _ _,RcAt.int_bool _ _ _,RcNeAt.int_bool _ _ _⟩
  .exact⟨EqAt.int_int _ _ _ _,RcAt.int_int _ _ _ _,RcNeAt.int_int _ _ _ _⟩
  .exact⟨EqAt.int_str _ _ _ _,RcAt.int_str _ _ _ _,RcNeAt.int_str _ _ _ _⟩
  .exact⟨EqAt.str_none _ _,RcAt.str_none _ _,RcNeAt.str_none _ _⟩
  .exact⟨EqAt.str_bool _ _ _,RcAt.str_bool _ _ _,RcNeAt.str_bool _ _ _⟩
  .exact⟨EqAt.str_int _ _ _ _,RcAt.str_int _ _ _ _,RcNeAt.str_int _ _ _ _⟩
  .exact⟨EqAt.str_str _ _ _ _,RcAt.str_str _ _ _ _,RcNeAt.str_str _ _ _ _⟩
 |succ n ih=>
  intro A d e x y v u hu h1 h2 rx ry s1 s2
  have hu0:A.units<cLine:=by omega
  have hu1:A.in1.units+n<cLine:=by show A.units+1+n<cLine;omega
  have same:=λ(ee:x=y)=>AL I (n+1) h1 (ee▸h2) s1 s2
  rcases h1.view I rx s1 with⟨rfl,rfl⟩|⟨b,rfl,rfl⟩|⟨b,t,rfl,rfl⟩|⟨b,t,rfl,rfl⟩|⟨ds,a,xs,its,m,z,rfl,rfl,rfl,r,rv,p,g⟩|⟨ds,a,xs,its,m,z,rfl,rfl,rfl,r,rv,p,g⟩<;>
  rcases h2.view I ry s2 with⟨rfl,rfl⟩|⟨c,rfl,rfl⟩|⟨c,t',rfl,rfl⟩|⟨c,t',rfl,rfl⟩|⟨es,a',ys,its',m',z',rfl,rfl,rfl,r',rv',p2,g'⟩|⟨es,a',ys,its',m',z',rfl,rfl,rfl,r',rv',p2,g'⟩
  all_goals first|cases z|skip
  all_goals first|cases z'|skip
  .exact⟨EqAt.same _,RcAt.none_none,RcNeAt.none_none⟩
  .exact⟨EqAt.none_bool _,RcAt.none_bool _,RcNeAt.none_bool _⟩
  .exact⟨EqAt.none_int _ _,RcAt.none_int _ _,RcNeAt.none_int _ _⟩
  .exact⟨EqAt.none_str _ _,RcAt.none_str _ _,RcNeAt.none_str _ _⟩
  .exact⟨EqAt.none_tuple p2 hu0,RcAt.none_tuple p2 hu0,RcNeAt.none_tuple p2 hu0⟩
  .exact⟨EqAt.none_list p2 hu0,RcAt.none_list p2 hu0,RcNeAt.none_list p2 hu0⟩
  .exact⟨EqAt.bool_none _,RcAt.bool_none _,RcNeAt.bool_none _⟩
  .exact⟨EqAt.bool_bool _ _,RcAt.bool_bool _ _,RcNeAt.bool_bool _ _⟩
  .exact⟨EqAt.bool_int _ _ _,RcAt.bool_int _ _ _,RcNeAt.bool_int _ _ _⟩
  .exact⟨EqAt.bool_str _ _ _,RcAt.bool_str _ _ _,RcNeAt.bool_str _ _ _⟩
  .exact⟨EqAt.bool_tuple _ p2 hu0,RcAt.bool_tuple _ p2 hu0,RcNeAt.bool_tuple _ p2 hu0⟩
  .exact⟨EqAt.bool_list _ p2 hu0,RcAt.bool_list _ p2 hu0,RcNeAt.bool_list _ p2 hu0⟩
  .exact⟨EqAt.int_none _ _,RcAt.int_none _ _,RcNeAt.int_none _ _⟩
  .exact⟨EqAt.int_bool _ _ _,RcAt.int_bool _ _ _,RcNeAt.int_bool _ _ _⟩
  .exact⟨EqAt.int_int _ _ _ _,RcAt.int_int _ _ _ _,RcNeAt.int_int _ _ _ _⟩
  .exact⟨EqAt.int_str _ _ _ _,RcAt.int_str _ _ _ _,RcNeAt.int_str _ _ _ _⟩
  .exact⟨EqAt.int_tuple _ _ p2 hu0,RcAt.int_tuple _ _ p2 hu0,RcNeAt.int_tuple _ _ p2 hu0⟩
  .exact⟨EqAt.int_list _ _ p2 hu0,RcAt.int_list _ _ p2 hu0,RcNeAt.int_list _ _ p2 hu0⟩
  .exact⟨EqAt.str_none _ _,RcAt.str_none _ _,RcNeAt.str_none _ _⟩
  .exact⟨EqAt.str_bool _ _ _,RcAt.str_bool _ _ _,RcNeAt.str_bool _ _ _⟩
  .exact⟨EqAt.str_int _ _ _ _,RcAt.str_int _ _ _ _,RcNeAt.str_int _ _ _ _⟩
  .exact⟨EqAt.str_str _ _ _ _,RcAt.str_str _ _ _ _,RcNeAt.str_str _ _ _ _⟩
  .exact⟨EqAt.str_tuple _ _ p2 hu0,RcAt.str_tuple _ _ p2 hu0,RcNeAt.str_tuple _ _ p2 hu0⟩
  .exact⟨EqAt.str_list _ _ p2 hu0,RcAt.str_list _ _ p2 hu0,RcNeAt.str_list _ _ p2 hu0⟩
  .exact⟨EqAt.tuple_none p hu0,RcAt.tuple_none p hu0,RcNeAt.tuple_none p hu0⟩
  .exact⟨EqAt.tuple_bool _ p hu0,RcAt.tuple_bool _ p hu0,RcNeAt.tuple_bool _ p hu0⟩
  .exact⟨EqAt.tuple_int _ _ p hu0,RcAt.tuple_int _ _ p hu0,RcNeAt.tuple_int _ _ p hu0⟩
  .exact⟨EqAt.tuple_str _ _ p hu0,RcAt.tuple_str _ _ p hu0,RcNeAt.tuple_str _ _ p hu0⟩
  .have he:=Ms (A:=A.in1) n (λh1 h2 rx ry s1 s2=>(ih A.in1 hu1 h1 h2 rx ry s1 s2).1) r r' rv rv' g g'
   have l1:its.toArray.size=ds.length:=by rw[size_toArray,<-rv.length,r.length]
   have l2:its'.toArray.size=es.length:=by rw[size_toArray,<-rv'.length,r'.length]
   have ee:((range (min its.toArray.size its'.toArray.size)).all (λj=>Zj (ds.getD j .non) (es.getD j .non))&&its.toArray.size==its'.toArray.size)=Zj (.tup ds) (.tup es):=by
    rw[Zj,l1,l2]
    by_cases hl:ds.length=es.length
    .rw[Op ds es hl,<-hl];simp
    .rw[Xw ds es hl];simp[hl]
   have rc:=RcAt.tuples p p2 hu0 he
   rw[ee]at rc
   refine⟨?_,rc,?_⟩
   .by_cases ha:a=a'
    .subst ha
     rw[same rfl]
     exact EqAt.same _
    .exact EqAt.of_refs ha rc
   .have rn:=RcNeAt.tuples p p2 hu0 he
    rw[ee]at rn
    exact rn
  .exact⟨EqAt.tuple_list p p2 hu0,RcAt.tuple_list p p2 hu0,RcNeAt.tuple_list p p2 hu0⟩
  .exact⟨EqAt.list_none p hu0,RcAt.list_none p hu0,RcNeAt.list_none p hu0⟩
  .exact⟨EqAt.list_bool _ p hu0,RcAt.list_bool _ p hu0,RcNeAt.list_bool _ p hu0⟩
  .exact⟨EqAt.list_int _ _ p hu0,RcAt.list_int _ _ p hu0,RcNeAt.list_int _ _ p hu0⟩
  .exact⟨EqAt.list_str _ _ p hu0,RcAt.list_str _ _ p hu0,RcNeAt.list_str _ _ p hu0⟩
  .exact⟨EqAt.list_tuple p p2 hu0,RcAt.list_tuple p p2 hu0,RcNeAt.list_tuple p p2 hu0⟩
  .have he:=Ms (A:=A.in1) n (λh1 h2 rx ry s1 s2=>(ih A.in1 hu1 h1 h2 rx ry s1 s2).1) r r' rv rv' g g'
   have l1:its.toArray.size=ds.length:=by rw[size_toArray,<-rv.length,r.length]
   have l2:its'.toArray.size=es.length:=by rw[size_toArray,<-rv'.length,r'.length]
   have both:RcAt A s (.ref a) (.ref a') (Zj (.lst ds) (.lst es))/\RcNeAt A s (.ref a) (.ref a') (!Zj (.lst ds) (.lst es)):=by
    by_cases hl:ds.length=es.length
    .have hsz:its.toArray.size=its'.toArray.size:=by rw[l1,l2,hl]
     have rc:=RcAt.lists p p2 hsz hu0 he
     have rn:=RcNeAt.lists p p2 hsz hu0 he
     rw[l1,<-Op ds es hl]at rc rn
     rw[Zj]
     exact⟨rc,rn⟩
    .have hsz:(its.toArray.size != its'.toArray.size)=true:=by rw[l1,l2];simpa using hl
     rw[Zj,Xw ds es hl]
     exact⟨RcAt.lists_lengths p p2 hsz hu0,RcNeAt.lists_lengths p p2 hsz hu0⟩
   refine⟨?_,both⟩
   by_cases ha:a=a'
   .subst ha
    rw[same rfl]
    exact EqAt.same _
   .exact EqAt.of_refs ha both.1
theorem RE.int(h:RE K xw W H (.ok (.int i)) Q):Q (.int i) H:=h _ H (Same.refl H) (by rw[Has])
theorem RE.bl{i:Bool}(h:RE K xw W H (.ok (.bl i)) Q):Q (.bl i) H:=h _ H (Same.refl H) (by rw[Has])
theorem RE.str{i:Str}(h:RE K xw W H (.ok (.str i)) Q):Q (.str i) H:=h _ H (Same.refl H) (by rw[Has])
theorem RE.non(h:RE K xw W H (.ok .non) Q):Q .non H:=h _ H (Same.refl H) (by rw[Has])
theorem Je{o:HO}(h:H a=none):Same H (Ib H a o):=λb u e=>by rw[Ea (Pa e h)];exact e
theorem RE.newT{p:Addr}(h:RE K xw W H (.ok (.tup ds)) Q)(w:WL W H)(hp:H p=none)(q:HasL K W H ds xs):Q (.ref p) (Ib H p (.tup xs)):=
 h _ _ (Je hp) (by rw[Has];exact⟨p,xs,rfl,.of Ra,q.same (Je hp) w⟩)
theorem ET(w:WL W H)(h:H a=none):¬ W a:=λz=>by
 obtain⟨xs,e,_⟩:=w a z
 rw[h]at e;cases e
variable{a c b:Expr}{es:List Expr}{r:R2}{R:V->Hp->Prop}{o o':CmpOp}{fa fb f:Ga->Res D}{ga:Ga->Res Bool}{lo hi:Option Expr}{fl fh:Ga->Res (Option Int)}{p2:Pos}{op op':D->D->Res D}
section
variable {fc:Ga->Res D}
theorem DE.p(h:DE X xw e f):DP X xw e f:=PE.weak h λσ H Q ⟨W₀,H₀,W,δ,st,q⟩=>⟨W₀,H₀,W,δ,st,by
 cases hf:f δ with
 |ok d=>rw[hf]at q;exact λv H' k h=>q v H' k (.inl h)
 |ex c fs=>rw[hf]at q;exact q
 |stuck=>rw[hf]at q;exact q⟩
theorem DF.de{f:Ga->Res (List D)}(h:DF X xw e f):DE X xw e (λδ=>(f δ).bind λds=>.ok (.lst ds)):=PE.weak h λσ H Q ⟨W₀,H₀,W,δ,st,q⟩=>⟨W₀,H₀,W,δ,st,by
 dsimp only at q
 cases hf:f δ with
 |ok d=>
  rw[hf]at q
  refine λa xs H1 k n r=>q _ _ (k.trans (Je n)) ?_
  have w1:=st.fr.wl.same k
  rw[Has]
  exact⟨a,xs,rfl,.inl ⟨Ra,ET w1 n⟩,r.same (Je n) w1⟩
 |ex c fs=>rw[hf]at q;exact q
 |stuck=>rw[hf]at q;exact q⟩
def Qa(i:Nat)(δ:Ga):Res D:=match δ[i]? with
 |some (some (.d x))=>.ok x
 |_=>.stuck
def Ca(i:Nat)(δ:Ga):Res D:=match δ[i]? with
 |some (some (.d x))=>.ok x
 |some (some (.o ds))=>.ok (.lst ds)
 |_=>.stuck
theorem NX(i:Nat)(hN:X.N[i]? =some x:=by rfl)(hv:Jw X.env.scope x:=by first|exact Or.inl rfl|exact Or.inr (Or.inl rfl)|exact Or.inr (Or.inr rfl))(hd:(x==("__debug__":Str))=false:=by decide)(hcd:(x==("__classdict__":Str))=false:=by decide):DE X xw (.Name x pos) (Qa i):=PE.weak (Fh hN hv hd hcd) λσ H Q ⟨W₀,H₀,W,δ,st,q⟩=>by
 unfold Qa at q
 split at q
 .rename_i d h
  obtain⟨v,e,r⟩:=st.at' i _ h
  exact⟨v,e,q v H (Same.refl H) r⟩
 .exact q.elim
theorem SX(i:Nat)(hN:X.N[i]? =some x:=by rfl)(hv:Jw X.env.scope x:=by first|exact Or.inl rfl|exact Or.inr (Or.inl rfl)|exact Or.inr (Or.inr rfl))(hd:(x==("__debug__":Str))=false:=by decide)(hcd:(x==("__classdict__":Str))=false:=by decide):DP X xw (.Name x pos) (Ca i):=PE.weak (Fh hN hv hd hcd) λσ H Q ⟨W₀,H₀,W,δ,st,q⟩=>by
 unfold Ca at q
 split at q
 .rename_i d h
  obtain⟨v,e,r⟩:=st.at' i _ h
  exact⟨v,e,q v H (Same.refl H) (.inl r)⟩
 .rename_i ds h
  obtain⟨v,e,a,xs,r1,r2,r3,r4,r5⟩:=st.at' i _ h
  exact⟨v,e,q v H (Same.refl H) (.inr ⟨ds,a,xs,rfl,r1,r4,r5⟩)⟩
 .exact q.elim
theorem AX{j}:DE X xw (.Constant (.int i) j pos) (λ_=>.ok (.int i)):=PE.weak QN λσ H Q ⟨_,_,_,_,_,q⟩=>q.int
theorem F4{i:Bool}{j}:DE X xw (.Constant (.bool i) j pos) (λ_=>.ok (.bl i)):=PE.weak F5 λσ H Q ⟨_,_,_,_,_,q⟩=>q.bl
theorem JX{i:Str}{j}:DE X xw (.Constant (.str i) j pos) (λ_=>.ok (.str i)):=PE.weak TN λσ H Q ⟨_,_,_,_,_,q⟩=>q.str
theorem FX{j}:DE X xw (.Constant .none j pos) (λ_=>.ok .non):=PE.weak O0 λσ H Q ⟨_,_,_,_,_,q⟩=>q.non
theorem Ww{u:Value}(hm:X.mg x=some u)(r:RelV v u)(hd:∀ W H,Has X.K W H d v)(hg:Gl X x:=by rfl)(hdb:(x==("__debug__":Str))=false:=by decide):DE X xw (.Name x pos) (λ_=>.ok d):=
 PE.weak (Tr hg hm r hdb) λσ H Q ⟨_,_,W,_,_,q⟩=>q v H (Same.refl H) (hd W H)
def U3(X:Cx)(xw:XW)(r:R2)(op:D->D->Res D):Prop:=∀ (W:WS) (H:Hp) (d e:D) (v u:V) (Q:VK),WL W H->HasT X.K W H d v->HasT X.K W H e u->RE X.K xw W H (op d e) Q->r v u H Q
theorem Wi{R:V->V->Hp->Prop}(st:StHas X.K W₀ H₀ W H σ δ)(q:RE X.K xw W H ((fa δ).bind λx=>(fb δ).bind λy=>op x y) Q)(h:∀ H2 d e v u,Same H H2->WL W H2->HasT X.K W H2 d v->HasT X.K W H2 e u->fa δ= .ok d->fb δ= .ok e->RE X.K xw W H2 (op d e) Q->R v u H2):
  IJ X.K xw fa σ H λx H1=>IJ X.K xw fb σ H1 λy H2=>R x y H2:=by
 refine⟨W₀,H₀,W,δ,st,?_⟩
 cases h1:fa δ with
 |stuck=>rw[h1]at q;exact q
 |ex c fs=>rw[h1]at q;exact q
 |ok d=>
  rw[h1]at q
  intro v H1 k1 hv
  refine⟨W₀,H₀,W,δ,st.same k1,?_⟩
  have q':RE X.K xw W H ((fb δ).bind λy=>op d y) Q:=q
  cases h2:fb δ with
  |stuck=>rw[h2]at q';exact q'
  |ex c fs=>rw[h2]at q';exact λH2 k2=>q' H2 (k1.trans k2)
  |ok e=>
   rw[h2]at q'
   intro u H2 k2 hu
   have q2:RE X.K xw W H (op d e) Q:=q'
   exact h H2 d e v u (k1.trans k2) (st.fr.wl.same (k1.trans k2)) (hv.same k2 (st.fr.wl.same k1)) hu h1 h2 (q2.same (k1.trans k2))
theorem Np{o:Operator}(ho:OpR X (binaryOp o) r)(hr:U3 X xw r op)(ha:DP X xw a fa)(hb:DP X xw b fb):
  DE X xw (.BinOp a o b pos) (λδ=>(fa δ).bind λx=>(fb δ).bind λy=>op x y):=
 PE.weak (FW ho ha hb) λσ H Q ⟨W₀,H₀,W,δ,st,q⟩=>Wi st q λH2 d e v u k w hv hu _ _ q2=>hr W H2 d e v u Q w hv hu q2
theorem IN:OpR X (binaryOp .Add) (λx y H Q=>∃ a b ys,x=.ref a/\y=.ref b/\SqT X.K H a []/\SqT X.K H b ys/\Q (.ref b) H):=by
 intro pins s σ H x y v u Q I rx ry h
 obtain⟨a,b,ys,rfl,rfl,ha,hb,q⟩:=h
 cases rx
 cases ry
 obtain⟨its,r1,p1,_⟩:=I.tuple ha
 obtain⟨its2,r2,p2,_⟩:=I.tuple hb
 have e0:its= []:=r1.nil_iff.mpr rfl
 subst e0
 obtain⟨⟨cls,dd,data,sl⟩,ho,hc,n,hd⟩:=id p1
 obtain⟨⟨cls2,dd2,data2,sl2⟩,ho2,hc2,n2,hd2⟩:=id p2
 simp only at hc hd hc2 hd2
 subst hc hd hc2 hd2
 exact concat_meets ⟨_,ho,rfl⟩ ⟨_,ho2,rfl⟩ noFill_tuple_add seq_tuple_add PySem.F.slot_tuple_add PySem.F.entry_tuple_add (PySem.F.args_tuple_add_2 _ _)
   (tuple_addW0 a b _ its2.toArray n n2 dd dd2 sl sl2 (by simp)) ⟨ho,ho2,⟨.ref b,H,I,rfl,q⟩⟩
def Gb:D->D->Res D
 | .int i,.int j=>.ok (.int (i+j))
 | .str x,.str y=>@ite (Res D) (x.length+y.length<=sizeLine) (propDecidable _) (.ok (.str (x++y))) .stuck
 | .tup xs,.tup ys=>@ite (Res D) (xs.length+ys.length<=sizeLine) (propDecidable _) (.ok (.tup (xs++ys))) .stuck
 |_,_=>.stuck
theorem VW(ha:DP X xw a fa)(hb:DP X xw b fb):DE X xw (.BinOp a .Add b pos) (λδ=>(fa δ).bind λx=>(fb δ).bind λy=>Gb x y):=by
 refine Np ((VZ.or WC).or (IN.or OT)) (λW H d e v u Q w hv hu q=>?_) ha hb
 unfold Gb at q
 split at q
 .exact .inl (.inl ⟨_,_,hv.int,hu.int,q.int⟩)
 .split at q
  .rename_i hz
   exact .inl (.inr ⟨_,_,hv.str,hu.str,hz,q.str⟩)
  .exact q.elim
 .rename_i ds es
  split at q
  .rename_i hz
   obtain⟨a1,xs,e1,s1,r1⟩:=hv.tup
   obtain⟨a2,ys,e2,s2,r2⟩:=hu.tup
   by_cases hx:xs= []
   .subst hx
    have hd:ds= []:=by
     have:=r1.length
     exact List.eq_nil_of_length_eq_zero (by simpa using this)
    subst hd
    refine .inr (.inl ⟨a1,a2,ys,e1,e2,s1,s2,q _ H (Same.refl H) ?_⟩)
    rw[Has];exact⟨a2,ys,rfl,s2,r2⟩
   .refine .inr (.inr ⟨a1,a2,xs,ys,e1,e2,s1,s2,hx,by rw[<-r1.length,<-r2.length];exact hz,λhy=>?_,λ_ p hp=>q.newT w hp (r1.append r2)⟩)
    subst hy
    have he:es= []:=by
     have:=r2.length
     exact List.eq_nil_of_length_eq_zero (by simpa using this)
    subst he
    refine q _ H (Same.refl H) ?_
    rw[Has,append_nil];exact⟨a1,xs,rfl,s1,r1⟩
  .exact q.elim
 .exact q.elim
def WO:D->D->Res D
 | .int i,.int j=>.ok (.int (i-j))
 |_,_=>.stuck
theorem LX(ha:DP X xw a fa)(hb:DP X xw b fb):DE X xw (.BinOp a .Sub b pos) (λδ=>(fa δ).bind λx=>(fb δ).bind λy=>WO x y):=by
 refine Np B0 (λW H d e v u Q w hv hu q=>?_) ha hb
 unfold WO at q
 split at q
 .exact⟨_,_,hv.int,hu.int,q.int⟩
 .exact q.elim
def Dh:D->D->Res D
 | .int i,.int j=>@ite (Res D) (0<j) (propDecidable _) (.ok (.int (i%j))) .stuck
 |_,_=>.stuck
theorem EX(ha:DP X xw a fa)(hb:DP X xw b fb):DE X xw (.BinOp a .Mod b pos) (λδ=>(fa δ).bind λx=>(fb δ).bind λy=>Dh x y):=by
 refine Np XZ (λW H d e v u Q w hv hu q=>?_) ha hb
 unfold Dh at q
 split at q
 .split at q
  .rename_i hj
   exact⟨_,_,hv.int,hu.int,hj,q.int⟩
  .exact q.elim
 .exact q.elim
def Um:D->D->Res D
 | .int i,.int j=>@ite (Res D) (0<j/\j<1073741824) (propDecidable _) (.ok (.int (i / j))) .stuck
 |_,_=>.stuck
theorem AR(ha:DP X xw a fa)(hb:DP X xw b fb):DE X xw (.BinOp a .FloorDiv b pos) (λδ=>(fa δ).bind λx=>(fb δ).bind λy=>Um x y):=by
 refine Np QT (λW H d e v u Q w hv hu q=>?_) ha hb
 unfold Um at q
 split at q
 .split at q
  .rename_i hj
   exact⟨_,_,hv.int,hu.int,hj,q.int⟩
  .exact q.elim
 .exact q.elim
def XN:D->D->Res D
 | .int i,.int j=>@ite (Res D) (0<=j/\j<=1000/\i.natAbs<2^64) (propDecidable _) (.ok (.int (i^j.toNat))) .stuck
 |_,_=>.stuck
theorem IX(ha:DP X xw a fa)(hb:DP X xw b fb):DE X xw (.BinOp a .Pow b pos) (λδ=>(fa δ).bind λx=>(fb δ).bind λy=>XN x y):=by
 refine Np A0 (λW H d e v u Q w hv hu q=>?_) ha hb
 unfold XN at q
 split at q
 .split at q
  .rename_i hj
   exact⟨_,_,hv.int,hu.int,⟨hj.1,by omega,hj.2.2⟩,q.int⟩
  .exact q.elim
 .exact q.elim
def Z4:D->D->Res D
 | .int i,.int j=>@ite (Res D) ((-(2^64)<i/\i<2^64)\/(-(2^64)<j/\j<2^64)) (propDecidable _) (.ok (.int (i*j))) .stuck
 |_,_=>.stuck
def R8:D->Res D
 | .int i=>.ok (.int (-i))
 |_=>.stuck
theorem Rg{op:D->Res D}(st:StHas X.K W₀ H₀ W H σ δ)(q:RE X.K xw W H ((fa δ).bind op) Q)(h:∀ H2 d v,Same H H2->WL W H2->StHas X.K W₀ H₀ W H2 σ δ->HasT X.K W H2 d v->fa δ= .ok d->RE X.K xw W H2 (op d) Q->R v H2):
  IJ X.K xw fa σ H λx H1=>R x H1:=by
 refine⟨W₀,H₀,W,δ,st,?_⟩
 cases h1:fa δ with
 |stuck=>rw[h1]at q;exact q
 |ex c fs=>rw[h1]at q;exact q
 |ok d=>
  rw[h1]at q
  intro v H1 k1 hv
  exact h H1 d v k1 (st.fr.wl.same k1) (st.same k1) hv h1 (RE.same (r:=op d) q k1)
def Mm(d e:D):Res D:=if(Fe 40 d&&Fe 40 e)=true then .ok (.bl (Zj d e)) else .stuck
def Px(d e:D):Res D:=if(Fe 40 d&&Fe 40 e)=true then .ok (.bl (!Zj d e)) else .stuck
def EQ:D->D->Res D
 | .int i,.int j=>.ok (.bl (decide (i<j)))
 |_,_=>.stuck
def Qv:D->D->Res D
 | .int i,.int j=>.ok (.bl (decide (i<=j)))
 |_,_=>.stuck
def BW:D->D->Res D
 | .int i,.int j=>.ok (.bl (decide (j<i)))
 |_,_=>.stuck
def OY:D->D->Res D
 | .int i,.int j=>.ok (.bl (decide (j<=i)))
 |_,_=>.stuck
structure CmpR(X:Cx)(xw:XW)(o:CmpOp)(op:D->D->Res D):Prop where
 ex:∃ r,OpR X (compareOp o) r/\U3 X xw r op
 bl:∀ d e z,op d e=.ok z->∃ k,z=.bl k
 nm:o≠ .In/\o≠ .NotIn
theorem WZ(hu:X.A.units+40<cLine):OpR X (compareOp .Eq) (λx y H Q=>∃ W d e,HasT X.K W H d x/\HasT X.K W H e y/\Fe 40 d=true/\Fe 40 e=true/\Q (.bl (Zj d e)) H):=by
 intro pins s σ H x y v u Q I rx ry h
 obtain⟨W,d,e,h1,h2,s1,s2,q⟩:=h
 exact(ZK I 40 X.A hu h1 h2 rx ry s1 s2).2.1 _ _ _ _ ⟨.bl _,H,I,rfl,q⟩
theorem ZZ(hu:X.A.units+40<cLine):OpR X (compareOp .NotEq) (λx y H Q=>∃ W d e,HasT X.K W H d x/\HasT X.K W H e y/\Fe 40 d=true/\Fe 40 e=true/\Q (.bl (!Zj d e)) H):=by
 intro pins s σ H x y v u Q I rx ry h
 obtain⟨W,d,e,h1,h2,s1,s2,q⟩:=h
 exact(ZK I 40 X.A hu h1 h2 rx ry s1 s2).2.2 _ _ _ _ ⟨.bl _,H,I,rfl,q⟩
theorem Fu(hu:X.A.units+40<cLine):CmpR X xw .Eq Mm:=⟨⟨_,WZ hu,λW H d e v u Q w hv hu q=>by
  unfold Mm at q
  split at q
  .rename_i hs
   rw[and_eq_true]at hs
   exact⟨W,d,e,hv,hu,hs.1,hs.2,q.bl⟩
  .exact q.elim⟩,λd e z h=>by unfold Mm at h;split at h<;>cases h;exact⟨_,rfl⟩,by decide,by decide⟩
theorem OQ(hu:X.A.units+40<cLine):CmpR X xw .NotEq Px:=⟨⟨_,ZZ hu,λW H d e v u Q w hv hu q=>by
  unfold Px at q
  split at q
  .rename_i hs
   rw[and_eq_true]at hs
   exact⟨W,d,e,hv,hu,hs.1,hs.2,q.bl⟩
  .exact q.elim⟩,λd e z h=>by unfold Px at h;split at h<;>cases h;exact⟨_,rfl⟩,by decide,by decide⟩
theorem E4:CmpR X xw .Lt EQ:=⟨⟨_,E5,λW H d e v u Q w hv hu q=>by
  unfold EQ at q
  split at q
  .exact⟨_,_,hv.int,hu.int,q.bl⟩
  .exact q.elim⟩,λd e z h=>by unfold EQ at h;split at h<;>cases h;exact⟨_,rfl⟩,by decide,by decide⟩
theorem Cr:CmpR X xw .LtE Qv:=⟨⟨_,D5,λW H d e v u Q w hv hu q=>by
  unfold Qv at q
  split at q
  .exact⟨_,_,hv.int,hu.int,q.bl⟩
  .exact q.elim⟩,λd e z h=>by unfold Qv at h;split at h<;>cases h;exact⟨_,rfl⟩,by decide,by decide⟩
theorem D4:CmpR X xw .Gt BW:=⟨⟨_,C5,λW H d e v u Q w hv hu q=>by
  unfold BW at q
  split at q
  .exact⟨_,_,hv.int,hu.int,q.bl⟩
  .exact q.elim⟩,λd e z h=>by unfold BW at h;split at h<;>cases h;exact⟨_,rfl⟩,by decide,by decide⟩
theorem Y7:CmpR X xw .GtE OY:=⟨⟨_,B5,λW H d e v u Q w hv hu q=>by
  unfold OY at q
  split at q
  .exact⟨_,_,hv.int,hu.int,q.bl⟩
  .exact q.elim⟩,λd e z h=>by unfold OY at h;split at h<;>cases h;exact⟨_,rfl⟩,by decide,by decide⟩
def Er(d:D):Res D:=match d with
 | .non=>.ok (.bl true)
 |_=>.ok (.bl false)
theorem HasT.isN(h:HasT K W H d v)(hd:d≠ .non):v≠ .non:=by
 rintro rfl
 rcases h with h|⟨ds,a,xs,h1,h2,_⟩
 .cases d with
  |non=>exact hd rfl
  |bl b=>rw[Has]at h;cases h
  |int b=>rw[Has]at h;cases h
  |str b=>rw[Has]at h;cases h
  |tup b=>rw[Has]at h;obtain⟨_,_,z,_⟩:=h;cases z
  |lst b=>rw[Has]at h;obtain⟨_,_,z,_⟩:=h;cases z
  |dct k b=>rw[Has]at h;obtain⟨_,_,z,_⟩:=h;cases z
  |exc k b=>rw[Has]at h;obtain⟨_,_,_,z,_⟩:=h;cases z
  |obj c k b=>rw[Has]at h;obtain⟨_,_,_,_,z,_⟩:=h;cases z
 .cases h2
theorem ZW(hc:CmpR X xw o op)(ha:DP X xw a fa)(hb:DP X xw b fb):DE X xw (.Compare a [o] [b] pos) (λδ=>(fa δ).bind λx=>(fb δ).bind λy=>op x y):=by
 obtain⟨⟨r,ho,hr⟩,_,h1,h2⟩:=hc
 exact PE.weak (LF ho ha hb (CN b h1 h2)) λσ H Q ⟨W₀,H₀,W,δ,st,q⟩=>Wi st q λH2 d e v u k w hv hu _ _ q2=>hr W H2 d e v u Q w hv hu q2
def Ho:D->Res Bool
 | .bl k=>.ok k
 |_=>.stuck
theorem DE.t_of(ht:PT X e (tB (BV X.K xw f))):DT X xw e (λδ=>(f δ).bind Ho):=PT.weak ht λσ H Q ⟨W₀,H₀,W,δ,st,q⟩=>by
 dsimp only at q
 refine⟨W₀,H₀,W,δ,st,?_⟩
 cases h1:f δ with
 |stuck=>rw[h1]at q;exact q
 |ex c fs=>rw[h1]at q;exact q
 |ok d=>
  rw[h1]at q
  intro v H1 k1 hv
  have q':RT xw H (Ho d) Q:=q
  unfold Ho at q'
  split at q'
  .rw[Has]at hv
   exact⟨_,hv,q' H1 k1⟩
  .exact q'.elim
theorem DE.t(h:DE X xw e f)(he:∀ whole,isTrue e X.env whole=(do let v <-whole;standAt e.pos;holding [v] (truthy v)):=by intro _;rfl):DT X xw e (λδ=>(f δ).bind Ho):=DE.t_of (E1 h he)
theorem YX(hc:CmpR X xw o op)(ha:DP X xw a fa)(hb:DP X xw b fb):DT X xw (.Compare a [o] [b] pos) (λδ=>((fa δ).bind λx=>(fb δ).bind λy=>op x y).bind Ho):=by
 obtain⟨⟨r,ho,hr⟩,_,h1,h2⟩:=hc
 refine DE.t_of (f:=λδ=>(fa δ).bind λx=>(fb δ).bind λy=>op x y) (PT.weak (Ay ho ha hb (CN b h1 h2)) λσ H Q q=>?_)
 obtain⟨W₀,H₀,W,δ,st,q⟩:=q
 exact Wi st q λH2 d e v u k w hv hu _ _ q2=>hr W H2 d e v u _ w hv hu q2
theorem ZX{j pos'}(ha:DP X xw a fa):DT X xw (.Compare a [.Is] [.Constant .none j pos'] pos) (λδ=>((fa δ).bind Er).bind Ho):=
 DE.t_of (f:=λδ=>(fa δ).bind Er) (PT.weak (B1 (F0 ha)) λσ H Q q=>by
  obtain⟨W₀,H₀,W,δ,st,q⟩:=q
  exact Rg st q λH2 d v k w st2 hv _ q2=>by
   unfold Er at q2
   split at q2
   .rw[hv.non];exact q2.bl
   .rename_i hd
    rw[decide_eq_false (hv.isN hd)];exact q2.bl)
theorem DW.t{g:Ga->Res Bool}(h:DW X xw e g):DT X xw e g:=PW.pt h
def Oi(op op':D->D->Res D)(x y:D)(z:Res D):Res D:=(op x y).bind λk=>match k with
 | .bl true=>z.bind λw=>op' y w
 | .bl false=>.ok (.bl false)
 |_=>.stuck
theorem As{o o':CmpOp}{r':R2}(hr:U3 X xw r op)(hr':U3 X xw r' op')(hbl:∀ d e z,op d e=.ok z->∃ k,z=.bl k)(q:BV X.K xw (λδ=>(fa δ).bind λx=>(fb δ).bind λy=>Oi op op' x y (fc δ)) σ H Q):
  OD r r' (IJ X.K xw fa) (IJ X.K xw fb) (IJ X.K xw fc) σ H Q:=by
 obtain⟨W₀,H₀,W,δ,st,q⟩:=q
 refine Wi (op:=λx y=>Oi op op' x y (fc δ)) st q λH2 d e v u k w hv hu _ _ q2=>?_
 refine hr W H2 d e v u _ w hv hu ?_
 unfold Oi at q2
 cases h1:op d e with
 |stuck=>rw[h1]at q2;exact q2
 |ex c fs=>rw[h1]at q2;exact q2
 |ok z=>
  obtain⟨k0,rfl⟩:=hbl _ _ _ h1
  rw[h1]at q2
  intro v' H3 k3 hv'
  rw[Has]at hv'
  refine⟨k0,hv',?_⟩
  cases k0 with
  |false=>
   have q3:RE X.K xw W H2 (.ok (.bl false)) Q:=q2
   rw[if_neg Bool.false_ne_true]
   exact(q3.same k3).bl
  |true=>
   rw[if_pos rfl]
   have q3:RE X.K xw W H2 ((fc δ).bind λw=>op' e w) Q:=q2
   refine⟨W₀,H₀,W,δ,(st.same k).same k3,?_⟩
   cases h3:fc δ with
   |stuck=>rw[h3]at q3;exact q3
   |ex c fs=>rw[h3]at q3;exact λH' k'=>q3 H' (k3.trans k')
   |ok g=>
    rw[h3]at q3
    intro x4 H4 k4 h4
    have q4:RE X.K xw W H2 (op' e g) Q:=q3
    exact hr' W H4 e g u x4 Q ((w.same k3).same k4) ((hu.same k3 w).same k4 (w.same k3)) h4 (q4.same (k3.trans k4))
theorem LK(hc:CmpR X xw o op)(hc':CmpR X xw o' op')(ha:DP X xw a fa)(hb:DP X xw b fb)(hcc:DP X xw c fc)(hm:lastMarks [o,o'] [b,c]=false:=by with_unfolding_all rfl):
  DE X xw (.Compare a [o,o'] [b,c] pos) (λδ=>(fa δ).bind λx=>(fb δ).bind λy=>Oi op op' x y (fc δ)):=by
 obtain⟨⟨r,ho,hr⟩,hbl,_⟩:=hc
 obtain⟨⟨r',ho',hr'⟩,_,_⟩:=hc'
 exact PE.weak (NN ho ho' ha hb hcc hm) λσ H Q q=>As (o:=o) (o':=o') hr hr' hbl q
theorem YK(hc:CmpR X xw o op)(hc':CmpR X xw o' op')(ha:DP X xw a fa)(hb:DP X xw b fb)(hcc:DP X xw c fc)(hm:lastMarks [o,o'] [b,c]=false:=by with_unfolding_all rfl):
  DT X xw (.Compare a [o,o'] [b,c] pos) (λδ=>((fa δ).bind λx=>(fb δ).bind λy=>Oi op op' x y (fc δ)).bind Ho):=by
 obtain⟨⟨r,ho,hr⟩,hbl,_⟩:=hc
 obtain⟨⟨r',ho',hr'⟩,_,_⟩:=hc'
 exact DE.t_of (f:=λδ=>(fa δ).bind λx=>(fb δ).bind λy=>Oi op op' x y (fc δ)) (PT.weak (AO ho ho' ha hb hcc hm) λσ H Q q=>As (o:=o) (o':=o') hr hr' hbl q)
def MW(x:Res Bool)(y:Res Bool):Res Bool:=x.bind λk=>if k=true then y else .ok false
def S8(x:Res Bool)(y:Res Bool):Res Bool:=x.bind λk=>if k=true then .ok true else y
variable {gb:Ga->Res Bool}{rest:List Expr}
theorem Cq{k:Bool->Res Bool}{Q:Bool->Hp->Prop}{R:Bool->Hp->Prop}(st:StHas X.K W₀ H₀ W H σ δ)(q:RT xw H ((ga δ).bind k) Q)(h:∀ H2 c,Same H H2->StHas X.K W₀ H₀ W H2 σ δ->ga δ= .ok c->RT xw H2 (k c) Q->R c H2):G3 X.K xw ga σ H R:=by
 refine⟨W₀,H₀,W,δ,st,?_⟩
 cases h1:ga δ with
 |stuck=>rw[h1]at q;exact q
 |ex c fs=>rw[h1]at q;exact q
 |ok c=>
  rw[h1]at q
  exact λH1 k1=>h H1 c k1 (st.same k1) h1 (RT.same (r:=k c) q k1)
theorem NR(ha:DT X xw a ga):DW X xw (.BoolOp .And [a] pos) ga:=LU ha
theorem CY(ha:DT X xw a ga):DW X xw (.BoolOp .Or [a] pos) ga:=G1 ha
theorem BY(ha:DT X xw a ga)(hb:DW X xw (.BoolOp .And (b::rest) pos) gb):DW X xw (.BoolOp .And (a::b::rest) pos) (λδ=>MW (ga δ) (gb δ)):=
 PW.weak (F1 ha hb) λσ H Q ⟨W₀,H₀,W,δ,st,q⟩=>Cq st q λH2 c k st2 _ q2=>by
  cases c with
  |true=>rw[if_pos rfl]at q2 ⊢;exact⟨W₀,H₀,W,δ,st2,q2⟩
  |false=>rw[if_neg Bool.false_ne_true]at q2 ⊢;exact q2 H2 (Same.refl _)
theorem N4(ha:DT X xw a ga)(hb:DW X xw (.BoolOp .Or (b::rest) pos) gb):DW X xw (.BoolOp .Or (a::b::rest) pos) (λδ=>S8 (ga δ) (gb δ)):=
 PW.weak (L5 ha hb) λσ H Q ⟨W₀,H₀,W,δ,st,q⟩=>Cq st q λH2 c k st2 _ q2=>by
  cases c with
  |true=>rw[if_pos rfl]at q2 ⊢;exact q2 H2 (Same.refl _)
  |false=>rw[if_neg Bool.false_ne_true]at q2 ⊢;exact⟨W₀,H₀,W,δ,st2,q2⟩
theorem AY(ha:DT X xw a ga):DT X xw (.UnaryOp .Not a pos) (λδ=>(ga δ).bind λk=>.ok (!k)):=
 PT.weak (D1 ha) λσ H Q ⟨W₀,H₀,W,δ,st,q⟩=>Cq st q λH2 c k st2 _ q2=>q2 H2 (Same.refl _)
def NW(x:Res D)(y:Res D):Res D:=x.bind λk=>match k with
 | .bl true=>y
 | .bl false=>.ok (.bl false)
 |_=>.stuck
def T8(x:Res D)(y:Res D):Res D:=x.bind λk=>match k with
 | .bl true=>.ok (.bl true)
 | .bl false=>y
 |_=>.stuck
def DN:D->Res D
 | .bl k=>.ok (.bl (!k))
 |_=>.stuck
theorem Vj{op:D->Res D}(st:StHas X.K W₀ H₀ W H σ δ)(q:RE X.K xw W H ((fa δ).bind op) Q)(h:∀ H2 d v,Same H H2->WL W H2->StHas X.K W₀ H₀ W H2 σ δ->Has X.K W H2 d v->fa δ= .ok d->RE X.K xw W H2 (op d) Q->R v H2):
  BV X.K xw fa σ H λx H1=>R x H1:=by
 refine⟨W₀,H₀,W,δ,st,?_⟩
 cases h1:fa δ with
 |stuck=>rw[h1]at q;exact q
 |ex c fs=>rw[h1]at q;exact q
 |ok d=>
  rw[h1]at q
  intro v H1 k1 hv
  exact h H1 d v k1 (st.fr.wl.same k1) (st.same k1) hv h1 (RE.same (r:=op d) q k1)
theorem HX{op}(h:DE X xw a fa):DE X xw (.BoolOp op [a] pos) fa:=Q0 h
theorem YW(ha:DE X xw a fa)(hb:DE X xw (.BoolOp .And (b::rest) pos) fb):DE X xw (.BoolOp .And (a::b::rest) pos) (λδ=>NW (fa δ) (fb δ)):=
 PE.weak (G0 ha hb) λσ H Q ⟨W₀,H₀,W,δ,st,q⟩=>Vj st q λH2 d v k w st2 hv _ q2=>by
  split at q2
  .rw[Has]at hv
   exact⟨true,hv,by rw[if_pos rfl];exact⟨W₀,H₀,W,δ,st2,q2⟩⟩
  .rw[Has]at hv
   exact⟨false,hv,by rw[if_neg Bool.false_ne_true];exact q2.bl⟩
  .exact q2.elim
theorem K4(ha:DE X xw a fa)(hb:DE X xw (.BoolOp .Or (b::rest) pos) fb):DE X xw (.BoolOp .Or (a::b::rest) pos) (λδ=>T8 (fa δ) (fb δ)):=
 PE.weak (J5 ha hb) λσ H Q ⟨W₀,H₀,W,δ,st,q⟩=>Vj st q λH2 d v k w st2 hv _ q2=>by
  split at q2
  .rw[Has]at hv
   exact⟨true,hv,by rw[if_pos rfl];exact q2.bl⟩
  .rw[Has]at hv
   exact⟨false,hv,by rw[if_neg Bool.false_ne_true];exact⟨W₀,H₀,W,δ,st2,q2⟩⟩
  .exact q2.elim
theorem GX(ha:DE X xw a fa):DE X xw (.UnaryOp .Not a pos) (λδ=>(fa δ).bind DN):=
 PE.weak (P0 ha) λσ H Q ⟨W₀,H₀,W,δ,st,q⟩=>Vj st q λH2 d v k w st2 hv _ q2=>by
  unfold DN at q2
  split at q2
  .rw[Has]at hv
   exact⟨_,hv,q2.bl⟩
  .exact q2.elim
theorem G4(hc:DT X xw c ga)(ha:DE X xw a fa)(hb:DE X xw b fb):DE X xw (.IfExp c a b pos) (λδ=>(ga δ).bind λk=>if k=true then fa δ else fb δ):=
 PE.weak (PN hc ha hb) λσ H Q ⟨W₀,H₀,W,δ,st,q⟩=>by
  dsimp only at q
  refine⟨W₀,H₀,W,δ,st,?_⟩
  cases h1:ga δ with
  |stuck=>rw[h1]at q;exact q
  |ex c fs=>rw[h1]at q;exact q
  |ok k=>
   rw[h1]at q
   intro H1 k1
   have q':RE X.K xw W H (if k=true then fa δ else fb δ) Q:=q
   cases k with
   |true=>rw[if_pos rfl]at q' ⊢;exact⟨W₀,H₀,W,δ,st.same k1,q'.same k1⟩
   |false=>rw[if_neg Bool.false_ne_true]at q' ⊢;exact⟨W₀,H₀,W,δ,st.same k1,q'.same k1⟩
variable {fs:Ga->Res (List D)}
theorem UW:DA X xw [] (λ_=>.ok []):=PA.weak Eh λσ H Q ⟨W₀,H₀,W,δ,st,q⟩=>q [] H (Same.refl H) HasL.nil
def JE(x:Res D)(r:Res (List D)):Res (List D):=x.bind λd=>r.bind λds=>.ok (d::ds)
theorem WQ(ha:DE X xw a fa)(hr:DA X xw es fs)(hs:starEach (a::es) X.env=(false,eval a X.env)::starEach es X.env:=by rfl):DA X xw (a::es) (λδ=>JE (fa δ) (fs δ)):=
 PA.weak (Sd ha hr hs) λσ H Q ⟨W₀,H₀,W,δ,st,q⟩=>by
  refine⟨W₀,H₀,W,δ,st,?_⟩
  unfold JE at q
  dsimp only at q
  cases h1:fa δ with
  |stuck=>rw[h1]at q;exact q
  |ex c fs=>rw[h1]at q;exact q
  |ok d=>
   rw[h1]at q
   intro v H1 k1 hv
   refine⟨W₀,H₀,W,δ,st.same k1,?_⟩
   have q':RA X.K xw W H ((fs δ).bind λds=>.ok (d::ds)) Q:=q
   cases h2:fs δ with
   |stuck=>rw[h2]at q';exact q'
   |ex c gs=>rw[h2]at q';exact λH2 k2=>q' H2 (k1.trans k2)
   |ok ds=>
    rw[h2]at q'
    intro vs H2 k2 hvs
    have q2:RA X.K xw W H (.ok (d::ds)) Q:=q'
    exact q2 (v::vs) H2 (k1.trans k2) (HasL.cons (hv.same k2 (st.fr.wl.same k1)) hvs)
theorem Gj{op:List D->Res D}{R:List V->Hp->Prop}(st:StHas X.K W₀ H₀ W H σ δ)(q:RE X.K xw W H ((fs δ).bind op) Q)(h:∀ H2 ds vs,Same H H2->WL W H2->StHas X.K W₀ H₀ W H2 σ δ->HasL X.K W H2 ds vs->fs δ= .ok ds->RE X.K xw W H2 (op ds) Q->R vs H2):
  Z5 X.K xw fs σ H λx H1=>R x H1:=by
 refine⟨W₀,H₀,W,δ,st,?_⟩
 cases h1:fs δ with
 |stuck=>rw[h1]at q;exact q
 |ex c gs=>rw[h1]at q;exact q
 |ok d=>
  rw[h1]at q
  intro v H1 k1 hv
  exact h H1 d v k1 (st.fr.wl.same k1) (st.same k1) hv h1 (RE.same (r:=op d) q k1)
def Zn(ds:List D):Res D:=@ite (Res D) (ds.length<=1000) (propDecidable _) (.ok (.tup ds)) .stuck
theorem Jl:(1000:Nat)<=sizeLine:=by rw[sizeLine_eq];decide
theorem MX{x1}(h:DA X xw es fs):DE X xw (.Tuple es x1 pos) (λδ=>(fs δ).bind Zn):=
 PE.weak (UN h) λσ H Q ⟨W₀,H₀,W,δ,st,q⟩=>Gj st q λH2 ds vs k w st2 hv _ q2=>by
  unfold Zn at q2
  split at q2
  .rename_i hz
   exact⟨by rw[<-hv.length];exact le_trans hz Jl,λp hp=>q2.newT w hp hv⟩
  .exact q2.elim
def Sc(ds:List D):Res (List D):=@ite (Res (List D)) (ds.length<=1000) (propDecidable _) (.ok ds) .stuck
theorem OX(h:DA X xw es fs):DF X xw (.List es pos) (λδ=>(fs δ).bind Sc):=
 PE.weak (SN h) λσ H Q ⟨W₀,H₀,W,δ,st,q⟩=>by
  dsimp only at q
  refine⟨W₀,H₀,W,δ,st,?_⟩
  cases h1:fs δ with
  |stuck=>rw[h1]at q;exact q
  |ex c gs=>rw[h1]at q;exact q
  |ok ds=>
   rw[h1]at q
   intro vs H1 k1 hv
   have q':RF X.K xw W H (Sc ds) Q:=q
   unfold Sc at q'
   split at q'
   .rename_i hz
    exact⟨by rw[<-hv.length];exact le_trans hz Jl,λp hp=>q' p vs H1 k1 hp hv⟩
   .exact q'.elim
def Ae:D->D->Res D
 | .tup ds,.int i=>match Lw ds i with
  |some d=>.ok d
  |none=>.stuck
 | .lst ds,.int i=>match Lw ds i with
  |some d=>.ok d
  |none=>.stuck
 | .str z,.int i=>@ite (Res D) (z.length<=sizeLine) (propDecidable _) (match Lw z.cps.toList i with
  |some c=>.ok (.str ⟨#[c]⟩)
  |none=>.stuck) .stuck
 |_,_=>.stuck
theorem EE(r:HasL K W H ds xs)(h:Lw ds i=some d):∃ x,Lw xs i=some x/\Has K W H d x:=by
 unfold Lw at h ⊢
 rw[r.length]at h
 cases e:ZY xs.length i with
 |none=>rw[e]at h;cases h
 |some j=>
  rw[e]at h
  obtain⟨x,h1,h2⟩:=r.get (show ds[j]? =some d from h)
  exact⟨x,h1,h2⟩
theorem J4(ha:DP X xw a fa)(hb:DP X xw b fb)(hs:Oh b:=by intro _ _;rfl):DE X xw (.Subscript a b pos) (λδ=>(fa δ).bind λx=>(fb δ).bind λy=>Ae x y):=
 PE.weak (G5 AZ ha hb hs) λσ H Q ⟨W₀,H₀,W,δ,st,q⟩=>Wi st q λH2 d e v u k w hv hu _ _ q2=>by
  unfold Ae at q2
  split at q2
  .split at q2
   .rename_i d' hd
    obtain⟨p,xs,e1,sq,r⟩:=hv.tup
    obtain⟨x,h1,h2⟩:=EE r hd
    exact .inr (.inl ⟨p,xs,_,x,e1,hu.int,sq,h1,q2 x H2 (Same.refl _) h2⟩)
   .exact q2.elim
  .split at q2
   .rename_i d' hd
    obtain⟨p,xs,e1,sq,r⟩:=hv.lst
    obtain⟨x,h1,h2⟩:=EE r hd
    exact .inl ⟨p,xs,_,x,e1,hu.int,sq,h1,q2 x H2 (Same.refl _) h2⟩
   .exact q2.elim
  .split at q2
   .rename_i hz
    split at q2
    .rename_i cc hc
     exact .inr (.inr ⟨_,_,cc,hv.str,hu.int,hz,hc,q2.str⟩)
    .exact q2.elim
   .exact q2.elim
  .exact q2.elim
def DO(X:Cx)(xw:XW)(e:Option Expr)(f:Ga->Res (Option Int)):Prop:=PO X e (λσ H Q=>∃ W₀ H₀ W δ,StHas X.K W₀ H₀ W H σ δ/\match f δ with
 | .ok o=>∀ H',Same H H'->Q o H'
 | .ex c fs=>∀ H',Same H H'->xw c fs H'
 | .stuck=>False)
theorem PO.weak{X:Cx}{e:Option Expr}{t t':TO}(h:PO X e t)(k:∀ σ H Q,t' σ H Q->t σ H Q):PO X e t':=λpins s σ H Q I q=>h pins s σ H Q I (k σ H Q q)
theorem GR:DO X xw none (λ_=>.ok none):=PO.weak IU λσ H Q ⟨_,_,_,_,_,q⟩=>q H (Same.refl H)
def Ue:D->Res (Option Int)
 | .int i=>.ok (some i)
 |_=>.stuck
theorem HR(h:DE X xw e f):DO X xw (some e) (λδ=>(f δ).bind Ue):=PO.weak (JU h) λσ H Q ⟨W₀,H₀,W,δ,st,q⟩=>by
 dsimp only at q
 refine⟨W₀,H₀,W,δ,st,?_⟩
 cases h1:f δ with
 |stuck=>rw[h1]at q;exact q
 |ex c fs=>rw[h1]at q;exact q
 |ok d=>
  rw[h1]at q
  intro v H1 k1 hv
  cases d with
  |int i=>rw[Has]at hv;exact⟨i,hv,q H1 k1⟩
  |_=>exact q.elim
def cutD(xs:List D)(lo hi:Option Int):List D:=(xs.drop (HT.sIx xs.length 0 lo)).take (HT.sIx xs.length xs.length hi-HT.sIx xs.length 0 lo)
theorem VQ(r:HasL K W H ds xs)(lo hi:Option Int):HasL K W H (cutD ds lo hi) (EH xs lo hi):=by
 unfold cutD EH
 rw[r.length]
 exact(r.drop _).take _
def whole(n:Nat)(lo hi:Option Int):Prop:=HT.sIx n 0 lo=0/\HT.sIx n n hi=n
instance {n:Nat}{lo hi:Option Int}:Decidable (whole n lo hi):=inferInstanceAs (Decidable (_/\_))
theorem YF{op:D->Option Int->Option Int->Res α}{R:V->Option Int->Option Int->Hp->Prop}{G:Hp->Res α->Prop}(st:StHas X.K W₀ H₀ W H σ δ)(hex:∀ H c gs,G H (.ex c gs)->∀ H',Same H H'->xw c gs H')(hst:∀ H,G H .stuck->False)(hG:∀ H H' r,Same H H'->G H r->G H' r)(q:G H ((fa δ).bind λx=>(fl δ).bind λl=>(fh δ).bind λu=>op x l u))(h:∀ H2 d v l u,Same H H2->WL W H2->HasT X.K W H2 d v->G H2 (op d l u)->R v l u H2):
  IJ X.K xw fa σ H λx H1=>(λσ H Q=>∃ W₀ H₀ W δ,StHas X.K W₀ H₀ W H σ δ/\match fl δ with
 | .ok o=>∀ H',Same H H'->Q o H'
 | .ex c fs=>∀ H',Same H H'->xw c fs H'
 | .stuck=>False:TO) σ H1 λl H2=>(λσ H Q=>∃ W₀ H₀ W δ,StHas X.K W₀ H₀ W H σ δ/\match fh δ with
 | .ok o=>∀ H',Same H H'->Q o H'
 | .ex c fs=>∀ H',Same H H'->xw c fs H'
 | .stuck=>False:TO) σ H2 λu H3=>R x l u H3:=by
 refine⟨W₀,H₀,W,δ,st,?_⟩
 cases h1:fa δ with
 |stuck=>rw[h1]at q;exact hst _ q
 |ex c fs=>rw[h1]at q;exact hex _ _ _ q
 |ok d=>
  rw[h1]at q
  intro v H1 k1 hv
  refine⟨W₀,H₀,W,δ,st.same k1,?_⟩
  have q':G H ((fl δ).bind λl=>(fh δ).bind λu=>op d l u):=q
  cases h2:fl δ with
  |stuck=>rw[h2]at q';exact hst _ q'
  |ex c fs=>rw[h2]at q';exact λH2 k2=>hex _ _ _ q' H2 (k1.trans k2)
  |ok l=>
   rw[h2]at q'
   intro H2 k2
   refine⟨W₀,H₀,W,δ,(st.same k1).same k2,?_⟩
   have q2:G H ((fh δ).bind λu=>op d l u):=q'
   cases h3:fh δ with
   |stuck=>rw[h3]at q2;exact hst _ q2
   |ex c fs=>rw[h3]at q2;exact λH3 k3=>hex _ _ _ q2 H3 ((k1.trans k2).trans k3)
   |ok u=>
    rw[h3]at q2
    intro H3 k3
    have w1:=st.fr.wl.same k1
    exact h H3 d v l u ((k1.trans k2).trans k3) (st.fr.wl.same ((k1.trans k2).trans k3)) (hv.same (k2.trans k3) w1) (hG _ _ _ ((k1.trans k2).trans k3) q2)
def Vr(d:D)(lo hi:Option Int):Res (List D):=match d with
 | .lst ds=>.ok (cutD ds lo hi)
 |_=>.stuck
theorem PX(ha:DP X xw a fa)(hl:DO X xw lo fl)(hh:DO X xw hi fh):DF X xw (.Subscript a (.Slice lo hi none p2) pos) (λδ=>(fa δ).bind λx=>(fl δ).bind λl=>(fh δ).bind λu=>Vr x l u):=
 PE.weak (IA ZU ha hl hh) λσ H Q ⟨W₀,H₀,W,δ,st,q⟩=>YF (G:=λH r=>RF X.K xw W H r Q) st (λ_ _ _ q=>q) (λ_ q=>q) (λ_ _ _ k q=>RF.same q k) q λH2 d v l u k w hv q2=>by
  unfold Vr at q2
  split at q2
  .obtain⟨a1,xs,e1,sq,r⟩:=hv.lst
   exact⟨a1,xs,e1,sq,λp hp=>q2 p _ H2 (Same.refl _) hp (VQ r l u)⟩
  .exact q2.elim
end
inductive Out where
 |nx (δ:Ga)|rt (d:D)|bk (δ:Ga)|ct (δ:Ga)|ex (c:Str) (fs:List D)|stuck
structure Step(W:WS)(H:Hp)(W':WS)(H':Hp):Prop where
 keep:Zi W H H'
 new:∀ b,W' b->W b\/H b=none
variable{W1:WS}{H2:Hp}
section
variable {W2:WS}
theorem Step.refl:Step W H W H:=⟨λ_ _ e _=>e,λ_ z=>.inl z⟩
theorem Step.same(k:Same H H1):Step W H W H1:=⟨Same.keep k,λ_ z=>.inl z⟩
theorem Step.trans(a:Step W H W1 H1)(b:Step W1 H1 W2 H2):Step W H W2 H2:=by
 refine⟨λc o e n=>b.keep c o (a.keep c o e n) λz=>?_,λc z=>?_⟩
 .rcases a.new c z with q|q
  .exact n q
  .rw[e]at q;cases q
 .rcases b.new c z with q|q
  .exact a.new c q
  .by_cases hw:W c
   .exact .inl hw
   .right
    cases e:H c with
    |none=>rfl
    |some o=>rw[a.keep c o e hw]at q;cases q
end
section
variable (K:Frag)(xw:XW)
def RS(W₀:WS)(H₀:Hp)(W:WS)(H:Hp)(o:Out)(Dn:Ends):Prop:=match o with
 | .nx δ=>∀ W' H' σ,Step W H W' H'->StHas K W₀ H₀ W' H' σ δ->Dn.nx σ H'
 | .bk δ=>∀ W' H' σ,Step W H W' H'->StHas K W₀ H₀ W' H' σ δ->Dn.bk σ H'
 | .ct δ=>∀ W' H' σ,Step W H W' H'->StHas K W₀ H₀ W' H' σ δ->Dn.ct σ H'
 | .rt d=>∀ v H',Same H₀ H'->Has K W₀ H' d v->Dn.rt v H'
 | .ex c fs=>∀ H',Same H₀ H'->xw c fs H'
 | .stuck=>False
def CV(g:Ga->Out):TS:=λDn σ H=>∃ W₀ H₀ W δ,StHas K W₀ H₀ W H σ δ/\RS K xw W₀ H₀ W H (g δ) Dn
end
def DS(X:Cx)(xw:XW)(st:Stmt)(g:Ga->Out):Prop:=PS X st (CV X.K xw g)
def CQ(X:Cx)(xw:XW)(sts:List Stmt)(g:Ga->Out):Prop:=PSs X sts (CV X.K xw g)
variable{t':TS}{st:Stmt}
theorem PS.weak{t:TS}(h:PS X st t)(k:∀ Dn σ H,t' Dn σ H->t Dn σ H):PS X st t':=λpins s σ H Dn I q=>h pins s σ H Dn I (k Dn σ H q)
theorem PSs.weak{st:List Stmt}{t:TS}(h:PSs X st t)(k:∀ Dn σ H,t' Dn σ H->t Dn σ H):PSs X st t':=λpins s σ H Dn I q=>h pins s σ H Dn I (k Dn σ H q)
variable{Dn:Ends}
section
variable {o:Out}
theorem RS.step(h:RS K xw W₀ H₀ W H o Dn)(k:Step W H W1 H1):RS K xw W₀ H₀ W1 H1 o Dn:=by
 cases o with
 |nx δ=>exact λW' H' σ k' st=>h W' H' σ (k.trans k') st
 |bk δ=>exact λW' H' σ k' st=>h W' H' σ (k.trans k') st
 |ct δ=>exact λW' H' σ k' st=>h W' H' σ (k.trans k') st
 |rt d=>exact h
 |ex c fs=>exact h
 |stuck=>exact h
end
def Wk(r:Res α)(k:α->Out):Out:=match r with
 | .ok a=>k a
 | .ex c fs=>.ex c fs
 | .stuck=>.stuck
def Tt(o:Out)(g:Ga->Out):Out:=match o with
 | .nx δ=>g δ
 |o=>o
variable{vs:List V}{k:Nat}{g:Ga->Out}{pos':Pos}{ff fi:Ga->Res (List D)}
section
variable {sts:List Stmt}{g1 g2:Ga->Out}
theorem JR:CQ X xw [] .nx:=PSs.weak PF λDn σ H ⟨W₀,H₀,W,δ,st,q⟩=>q W H σ Step.refl st
theorem WK(h1:DS X xw st g1)(h2:CQ X xw sts g2):CQ X xw (st::sts) (λδ=>Tt (g1 δ) g2):=PSs.weak (Jt h1 h2) λDn σ H ⟨W₀,H₀,W,δ,st,q⟩=>by
 refine⟨W₀,H₀,W,δ,st,?_⟩
 dsimp only at q
 cases h:g1 δ with
 |nx δ'=>
  rw[h]at q
  exact λW' H' σ' k st'=>⟨W₀,H₀,W',δ',st',RS.step (o:=g2 δ') q k⟩
 |bk δ'=>rw[h]at q;exact q
 |ct δ'=>rw[h]at q;exact q
 |rt d=>rw[h]at q;exact q
 |ex c fs=>rw[h]at q;exact q
 |stuck=>rw[h]at q;exact q
theorem KR(h1:DS X xw st g1):CQ X xw [st] g1:=Zx h1
theorem Fp{k:D->Out}(st:StHas X.K W₀ H₀ W H σ δ)(q:RS X.K xw W₀ H₀ W H (Wk (f δ) k) Dn)(h:∀ H2 d v,StHas X.K W₀ H₀ W H2 σ δ->Has X.K W H2 d v->RS X.K xw W₀ H₀ W H2 (k d) Dn->R v H2):BV X.K xw f σ H R:=by
 refine⟨W₀,H₀,W,δ,st,?_⟩
 cases h1:f δ with
 |stuck=>rw[h1]at q;exact q
 |ex c fs=>rw[h1]at q;exact λH' k'=>q H' (st.fr.ext.trans k')
 |ok d=>
  rw[h1]at q
  exact λv H1 k1 hv=>h H1 d v (st.same k1) hv (RS.step (o:=k d) q (Step.same k1))
theorem WX(he:DE X xw e f):DS X xw (.Return (some e) pos) (λδ=>Wk (f δ) λd=>.rt d):=PS.weak (ZC he) λDn σ H ⟨W₀,H₀,W,δ,st,q⟩=>
 Fp st q λH2 d v st2 hv q2=>q2 v H2 st2.fr.ext (Has.keep (λ_ _ e _=>e) st2.fr.wl (λb z=>.inl (st2.fr.sub b z)) hv)
theorem IR(i:Nat)(hN:X.N[i]? =some x:=by rfl)(hv:Jw X.env.scope x:=by first|exact Or.inl rfl|exact Or.inr (Or.inl rfl)|exact Or.inr (Or.inr rfl))(hd:(x==("__debug__":Str))=false:=by decide)(hcd:(x==("__classdict__":Str))=false:=by decide):DS X xw (.Return (some (.Name x pos')) pos) (λδ=>Wk (Ca i δ) λd=>.rt d):=PS.weak (ZC (Fh hN hv hd hcd)) λDn σ H ⟨W₀,H₀,W,δ,st,q⟩=>by
 have up:∀ b,W₀ b->W b\/H b=none:=λb z=>.inl (st.fr.sub b z)
 unfold Ca at q
 dsimp only at q
 split at q
 .rename_i d h
  obtain⟨v,e,r⟩:=st.at' i _ h
  exact⟨v,e,q v H st.fr.ext (Has.keep (λ_ _ e _=>e) st.fr.wl up r)⟩
 .rename_i ds h
  obtain⟨v,e,a,xs,r1,r2,r3,r4,r5⟩:=st.at' i _ h
  refine⟨v,e,q v H st.fr.ext ?_⟩
  rw[Has]
  refine⟨a,xs,r1,.inl ⟨r4,λz=>?_⟩,HasL.keep (λ_ _ e _=>e) st.fr.wl up r5⟩
  obtain⟨ys,z',_⟩:=st.fr.wl0 a z
  rw[r3]at z';cases z'
 .exact q.elim
theorem XX(i:Nat)(hN:X.N.Nodup)(he:DE X xw e f)(hi:X.N[i]? =some x:=by rfl)(hx:UJ X.env.scope x:=by first|exact Or.inl rfl|exact Or.inr rfl)(hs:swapsWith e (some (.Name x pos')) pos.line X.env=pure false:=by rfl)(hf:X.fn x=true\/X.env.scope.names.lookup x=some .local:=by first|exact .inl rfl|exact .inr rfl|assumption):DS X xw (.Assign [.Name x pos'] e pos) (λδ=>Wk (f δ) λd=>.nx (δ.set i (some (.d d)))):=
 PS.weak (AD hN hi hx he hs hf) λDn σ H ⟨W₀,H₀,W,δ,st,q⟩=>Fp st q λH2 d v st2 hv q2=>q2 W H2 _ Step.refl (st2.set hv)
theorem YM{i:Nat}(st:StHas X.K W₀ H₀ W H σ δ)(q:RS X.K xw W₀ H₀ W H (Wk (ff δ) λds=>.nx (δ.set i (some (.o ds)))) Dn):
  M9 X.K xw ff σ H λx H1=>OL i x σ H1 Dn.nx:=by
 refine⟨W₀,H₀,W,δ,st,?_⟩
 cases h1:ff δ with
 |stuck=>rw[h1]at q;exact q
 |ex c fs=>rw[h1]at q;exact λH' k'=>q H' (st.fr.ext.trans k')
 |ok ds=>
  rw[h1]at q
  intro a xs H1 k n r
  have st1:=(st.same k).own (i:=i) n r
  refine q _ _ _ ⟨λb o e nb=>?_,λb z=>z.elim .inl λz=>.inr (by rw[z];exact Same.free k n)⟩ st1
  rw[Ea (Pa (k b o e) n)];exact k b o e
theorem VX(i:Nat)(hN:X.N.Nodup)(he:DF X xw e ff)(hi:X.N[i]? =some x:=by rfl)(hx:UJ X.env.scope x:=by first|exact Or.inl rfl|exact Or.inr rfl)(hs:swapsWith e (some (.Name x pos')) pos.line X.env=pure false:=by rfl)(hf:X.fn x=true\/X.env.scope.names.lookup x=some .local:=by first|exact .inl rfl|exact .inr rfl|assumption):DS X xw (.Assign [.Name x pos'] e pos) (λδ=>Wk (ff δ) λds=>.nx (δ.set i (some (.o ds)))):=
 PS.weak (AD hN hi hx he hs hf) λDn σ H ⟨W₀,H₀,W,δ,st,q⟩=>YM st q
def A7(c:Res Bool)(a b:Out):Out:=Wk c λk=>if k=true then a else b
variable {as bs:List Stmt}
theorem M4(hc:DT X xw c ga)(ha:CQ X xw as g1)(hb:CQ X xw bs g2):DS X xw (.If c as bs pos) (λδ=>A7 (ga δ) (g1 δ) (g2 δ)):=PS.weak (K5 hc ha hb) λDn σ H ⟨W₀,H₀,W,δ,st,q⟩=>by
 refine⟨W₀,H₀,W,δ,st,?_⟩
 unfold A7 at q
 dsimp only at q
 cases h1:ga δ with
 |stuck=>rw[h1]at q;exact q
 |ex c fs=>rw[h1]at q;exact λH' k'=>q H' (st.fr.ext.trans k')
 |ok k=>
  rw[h1]at q
  intro H1 k1
  have q':RS X.K xw W₀ H₀ W H (if k=true then g1 δ else g2 δ) Dn:=q
  cases k with
  |true=>rw[if_pos rfl]at q' ⊢;exact⟨W₀,H₀,W,δ,st.same k1,q'.step (Step.same k1)⟩
  |false=>rw[if_neg Bool.false_ne_true]at q' ⊢;exact⟨W₀,H₀,W,δ,st.same k1,q'.step (Step.same k1)⟩
def N9(K:Frag)(t:D->Ga->Res Ga):TG:=λv σ H Q=>∃ W₀ H₀ W δ d,StHas K W₀ H₀ W H σ δ/\Has K W H d v/\match t d δ with
 | .ok δ'=>∀ σ',StHas K W₀ H₀ W H σ' δ'->Q σ' H
 |_=>False
def DG(X:Cx)(tg:Expr)(t:D->Ga->Res Ga):Prop:=PG X tg (N9 X.K t)
theorem PG.weak{X:Cx}{tg:Expr}{t t':TG}(h:PG X tg t)(k:∀ v σ H Q,t' v σ H Q->t v σ H Q):PG X tg t':=λpins s σ H v u Q I r q=>h pins s σ H v u Q I r (k v σ H Q q)
def Yc(i:Nat)(d:D)(δ:Ga):Res Ga:=.ok (δ.set i (some (.d d)))
theorem DR(i:Nat)(hN:X.N.Nodup)(hi:X.N[i]? =some x:=by rfl)(hx:UJ X.env.scope x:=by first|exact Or.inl rfl|exact Or.inr rfl)(hf:X.fn x=true\/X.env.scope.names.lookup x=some .local:=by first|exact .inl rfl|exact .inr rfl|assumption):
  DG X (.Name x pos) (Yc i):=PG.weak (GU hN hi hx hf) λv σ H Q ⟨W₀,H₀,W,δ,d,st,hv,q⟩=>q _ (st.set hv)
def O9(K:Frag)(t:List D->Ga->Res Ga):JQ:=λvs σ H Q=>∃ W₀ H₀ W δ ds,StHas K W₀ H₀ W H σ δ/\HasL K W H ds vs/\match t ds δ with
 | .ok δ'=>∀ σ',StHas K W₀ H₀ W H σ' δ'->Q σ' H
 |_=>False
def N3(X:Cx)(tgs:List Expr)(t:List D->Ga->Res Ga):Prop:=PGs X tgs (O9 X.K t)
theorem PGs.weak{X:Cx}{tg:List Expr}{t t':JQ}(h:PGs X tg t)(k:∀ v σ H Q,t' v σ H Q->t v σ H Q):PGs X tg t':=λpins s σ H v u Q I r q=>h pins s σ H v u Q I r (k v σ H Q q)
def Yq(ds:List D)(δ:Ga):Res Ga:=match ds with
 | []=>.ok δ
 |_=>.stuck
def Nh(t:D->Ga->Res Ga)(r:List D->Ga->Res Ga)(ds:List D)(δ:Ga):Res Ga:=match ds with
 |d::ds=>(t d δ).bind λδ'=>r ds δ'
 | []=>.stuck
variable {tgs:List Expr}{t:D->Ga->Res Ga}{ts:List D->Ga->Res Ga}
theorem ER:N3 X [] Yq:=PGs.weak HU λvs σ H Q ⟨W₀,H₀,W,δ,ds,st,hv,q⟩=>by
 unfold Yq at q
 cases ds with
 |nil=>rw[HasL]at hv;exact⟨hv,q σ st⟩
 |cons=>exact q.elim
theorem QK(h1:DG X tg t)(h2:N3 X tgs ts)(hs:(assignEach (tg::tgs) X.env).map (·.2)=assign tg X.env::(assignEach tgs X.env).map (·.2):=by rfl):N3 X (tg::tgs) (Nh t ts):=
 PGs.weak (VN h1 h2 hs) λvs σ H Q ⟨W₀,H₀,W,δ,ds,st,hv,q⟩=>by
  unfold Nh at q
  cases ds with
  |nil=>exact q.elim
  |cons d ds=>
   rw[HasL]at hv
   obtain⟨x,r,e,h,hr⟩:=hv
   refine⟨x,r,e,W₀,H₀,W,δ,d,st,h,?_⟩
   dsimp only at q
   cases h1:t d δ with
   |stuck=>rw[h1]at q;exact q
   |ex c fs=>rw[h1]at q;exact q
   |ok δ'=>
    rw[h1]at q
    exact λσ' st'=>⟨W₀,H₀,W,δ',ds,st',hr,q⟩
def Zq(n:Nat)(ts:List D->Ga->Res Ga)(d:D)(δ:Ga):Res Ga:=match d with
 | .tup ds=>if ds.length=n then ts ds δ else .stuck
 |_=>.stuck
theorem QX(hc:X.calm=true)(h:N3 X tgs ts)(hn:(assignEach tgs X.env).length=n:=by rfl)(hst:(assignEach tgs X.env).findIdx? (·.1)=none:=by rfl):DG X (.Tuple tgs k pos) (Zq n ts):=
 PG.weak (T0 hc h hn hst) λv σ H Q ⟨W₀,H₀,W,δ,d,st,hv,q⟩=>by
  unfold Zq at q
  cases d with
  |tup ds=>
   dsimp only at q
   split at q
   .rename_i hl
    split at hl
    .rename_i hl'
     rw[Has]at hv
     obtain⟨a,xs,e,sq,r⟩:=hv
     refine⟨a,xs,e,sq,by rw[<-r.length];exact hl',W₀,H₀,W,δ,ds,st,r,?_⟩
     rw[hl]
     exact q
    .cases hl
   .exact q.elim
  |_=>exact q.elim
def XJ(K:Frag)(W:WS)(H:Hp)(J:It)(ds:List D):Prop:=∀ W' H2,Step W H W' H2->WL W' H2->
 (∀ i d,ds[i]? =some d->J.go i H2/\∀ x H3,J.yld i H2 x H3->Same H2 H3/\Has K W' H3 d x)/\J.stop ds.length H2
def tDI(K:Frag)(xw:XW)(f:Ga->Res (List D)):TI:=λσ H R=>∃ W₀ H₀ W δ,StHas K W₀ H₀ W H σ δ/\match f δ with
 | .ok ds=>∀ J H',Same H H'->XJ K W H' J ds->R J H'
 | .ex c fs=>∀ H',Same H H'->xw c fs H'
 | .stuck=>False
def DI(X:Cx)(xw:XW)(tg iter:Expr)(f:Ga->Res (List D)):Prop:=PI X tg iter (tDI X.K xw f)
theorem PI.weak{X:Cx}{tg:Expr}{t t':TI}(h:PI X tg iter t)(k:∀ σ H R,t' σ H R->t σ H R):PI X tg iter t':=λpins s σ H R I q=>h pins s σ H R I (k σ H R q)
theorem SqL.lr{a:Addr}(h:LR K W H a xs)(k:Step W H W' H2)(w:WL W H):LR K W' H2 a xs:=h.keep k.keep w k.new
theorem VY{a:Addr}(w:WL W H)(h:LR K W H a xs)(r:HasL K W H ds xs):XJ K W H (O7 K a) ds:=by
 intro W' H2 k w2
 have h2:=(SqL.lr h k w).sq
 refine⟨λi d e=>?_,xs,h2,by rw[r.length];exact le_refl _⟩
 obtain⟨x,e1,hx⟩:=r.get e
 refine⟨⟨xs,x,h2,e1⟩,λy H3 z=>?_⟩
 obtain⟨rfl,z⟩:=z
 have:y=x:=by
  have q:=z xs h2
  rw[e1]at q;exact(Option.some.inj q).symm
 subst this
 exact⟨Same.refl _,Has.keep k.keep w k.new hx⟩
theorem YY{a:Addr}(w:WL W H)(h:SqT K H a xs)(r:HasL K W H ds xs):XJ K W H (P7 K a) ds:=by
 intro W' H2 k w2
 have h2:=Wt k.keep w h
 refine⟨λi d e=>?_,xs,h2,by rw[r.length];exact le_refl _⟩
 obtain⟨x,e1,hx⟩:=r.get e
 refine⟨⟨xs,x,h2,e1⟩,λy H3 z=>?_⟩
 obtain⟨rfl,z⟩:=z
 have:y=x:=by
  have q:=z xs h2
  rw[e1]at q;exact(Option.some.inj q).symm
 subst this
 exact⟨Same.refl _,Has.keep k.keep w k.new hx⟩
def Wn(lo:Int)(n:Nat):List D:=(range n).map λ(i:Nat)=>D.int (lo+i)
theorem WY(lo:Int)(n:Nat):XJ K W H (Itr lo n) (Wn lo n):=by
 intro W' H2 k w2
 unfold Wn
 refine⟨λi d e=>?_,by simp[Itr]⟩
 rw[getElem?_map]at e
 have hi:i<n:=by
  refine Nat.lt_of_not_le λz=>?_
  rw[List.getElem?_eq_none (by simpa using z)]at e;cases e
 rw[List.getElem?_range hi]at e
 have e':D.int (lo+(i:Nat))=d:=Option.some.inj e
 subst e'
 refine⟨hi,λx H3 z=>?_⟩
 obtain⟨rfl,rfl⟩:=z
 exact⟨Same.refl _,by rw[Has]⟩
def Ol(ds:List D):Res (List D):=match ds with
 | [.int j]=>@ite (Res (List D)) (-(2^62)<=j/\j<2^62) (propDecidable _) (.ok (Wn 0 j.toNat)) .stuck
 |_=>.stuck
theorem HasL.one(h:HasL K W H [.int i] vs):vs= [.int i]:=by
 rw[HasL]at h
 obtain⟨x,r,rfl,h1,h2⟩:=h
 rw[HasL]at h2
 rw[Has]at h1
 rw[h1,h2]
variable {fs:Ga->Res (List D)}{p:Pos}
theorem IH(hm:X.mg "range"=none)(ha:DA X xw [a] fs)(hg:Gl X "range":=by rfl)(hs:starEach [a] X.env= [(false,eval a X.env)]:=by rfl):DI X xw tg (.Call (.Name "range" p) [a] [] pos) (λδ=>(fs δ).bind Ol):=
 PI.weak (KI hg hm ha hs) λσ H R ⟨W₀,H₀,W,δ,st,q⟩=>by
  refine⟨W₀,H₀,W,δ,st,?_⟩
  dsimp only at q
  cases h1:fs δ with
  |stuck=>rw[h1]at q;exact q
  |ex c fs=>rw[h1]at q;exact q
  |ok ds=>
   rw[h1]at q
   intro vs H1 k1 hv
   dsimp only[Res.bind]at q
   unfold Ol at q
   split at q
   .rename_i ds' hq
    split at hq
    .rename_i j
     split at hq
     .rename_i hj
      have e':Wn 0 j.toNat=ds':=by cases hq;rfl
      subst e'
      exact⟨j,hv.one,hj.1,hj.2,q _ H1 k1 (WY 0 _)⟩
     .cases hq
    .cases hq
   .rename_i hq
    split at hq
    .split at hq<;>cases hq
    .cases hq
   .exact q.elim
def Xf(t:D->Ga->Res Ga)(body:Ga->Out):List D->Ga->Out
 | [],δ=>.nx δ
 |d::ds,δ=>match t d δ with
  | .ok δ'=>match body δ' with
   | .nx δ2=>Xf t body ds δ2
   | .ct δ2=>Xf t body ds δ2
   | .bk δ2=>.nx δ2
   | .rt d=>.rt d
   | .ex c fs=>.ex c fs
   | .stuck=>.stuck
  |_=>.stuck
theorem UX(hp:PassesOwn (model X.prog X.w) X.A X.env X.xe)(hc:X.calm=true)(hi:DI X xw tg iter fi)(hg:DG X tg t)(hb:CQ X xw sts g)(hs:∀ x,foldedSetIterable iter X.env x=pure x:=by intro _;rfl):DS X xw (.For tg iter sts [] pos) (λδ=>Wk (fi δ) λds=>Xf t g ds δ):=
 PS.weak (A1 hp hc hi hg hb hs) λDn σ H ⟨W₀,H₀,W,δ,st,q⟩=>by
  refine⟨W₀,H₀,W,δ,st,?_⟩
  dsimp only at q
  cases h1:fi δ with
  |stuck=>rw[h1]at q;exact q
  |ex c fs=>rw[h1]at q;exact λH' k'=>q H' (st.fr.ext.trans k')
  |ok ds=>
   rw[h1]at q
   intro J H1 k1 it
   have q1:RS X.K xw W₀ H₀ W H1 (Xf t g ds δ) Dn:=RS.step (o:=Xf t g ds δ) q (Step.same k1)
   refine⟨λi m σ' H'=>∃ W' δ',m=ds.length-i/\i<=ds.length/\StHas X.K W₀ H₀ W' H' σ' δ'/\Step W H1 W' H'/\RS X.K xw W₀ H₀ W' H' (Xf t g (ds.drop i) δ') Dn,
    ⟨_,W,δ,rfl,zero_le _,st.same k1,Step.refl,q1⟩,?_⟩
   rintro i m σ' H' ⟨W',δ',rfl,hi,st',k',q'⟩
   obtain⟨items,stop⟩:=it W' H' k' st'.fr.wl
   by_cases hl:i<ds.length
   .right
    have e:ds[i]? =some ds[i]:=getElem?_eq_getElem hl
    obtain⟨go,yld⟩:=items i _ e
    have ed:ds.drop i=ds[i]::ds.drop (i+1):=List.drop_eq_getElem_cons hl
    rw[ed]at q'
    unfold Xf at q'
    refine⟨go,λσ2 H2=>∃ W2 δ2,StHas X.K W₀ H₀ W2 H2 σ2 δ2/\Step W H1 W2 H2/\RS X.K xw W₀ H₀ W2 H2 (Xf t g (ds.drop (i+1)) δ2) Dn,λσ2 H2 ⟨W2,δ2,a1,a2,a3⟩=>⟨ds.length-(i+1),by omega,W2,δ2,rfl,hl,a1,a2,a3⟩,λx H3 z=>?_⟩
    obtain⟨k3,hx⟩:=yld x H3 z
    refine⟨W₀,H₀,W',δ',ds[i],st'.same k3,hx,?_⟩
    cases h2:t ds[i] δ' with
    |stuck=>rw[h2]at q';exact q'
    |ex c fs=>rw[h2]at q';exact q'
    |ok δ2=>
     rw[h2]at q'
     intro σ2 st2
     refine⟨W₀,H₀,W',δ2,st2,?_⟩
     dsimp only at q'
     have kk:Step W' H' W' H3:=Step.same k3
     cases h3:g δ2 with
     |nx δ3=>rw[h3]at q';exact λW3 H4 σ3 k4 st3=>⟨W3,δ3,st3,(k'.trans kk).trans k4,RS.step (o:=Xf t g (ds.drop (i+1)) δ3) q' (kk.trans k4)⟩
     |ct δ3=>rw[h3]at q';exact λW3 H4 σ3 k4 st3=>⟨W3,δ3,st3,(k'.trans kk).trans k4,RS.step (o:=Xf t g (ds.drop (i+1)) δ3) q' (kk.trans k4)⟩
     |bk δ3=>rw[h3]at q';exact λW3 H4 σ3 k4 st3=>q' W3 H4 σ3 (kk.trans k4) st3
     |rt d=>rw[h3]at q';exact q'
     |ex c fs=>rw[h3]at q';exact q'
     |stuck=>rw[h3]at q';exact q'
   .left
    have ei:i=ds.length:=by omega
    subst ei
    rw[List.drop_length]at q'
    exact⟨stop,q' W' H' σ' Step.refl st'⟩
def XD(c:Ga->Res Bool)(body:Ga->Out):Nat->Ga->Out
 |0,_=>.stuck
 |n+1,δ=>match c δ with
  | .ok true=>match body δ with
   | .nx δ2=>XD c body n δ2
   | .ct δ2=>XD c body n δ2
   | .bk δ2=>.nx δ2
   | .rt d=>.rt d
   | .ex c fs=>.ex c fs
   | .stuck=>.stuck
  | .ok false=>.nx δ
  | .ex c fs=>.ex c fs
  | .stuck=>.stuck
end
def noex:Res α->Res α
 | .ok a=>.ok a
 |_=>.stuck
def Kg(t:D->Ga->Res Ga)(c:Ga->Res Bool)(fe:Ga->Res D):List D->Ga->Res (List D)
 | [],_=>.ok []
 |d::ds,δ=>match t d δ with
  | .ok δ'=>(noex (c δ')).bind λk=>if k=true then(noex (fe δ')).bind λx=>(Kg t c fe ds δ').bind λr=>.ok (x::r) else Kg t c fe ds δ'
  |_=>.stuck
abbrev Jq:XW:=λ_ _ _=>False
section
variable {a:Addr}
theorem StHas.acc(h:StHas K W₀ (Ib H₀ a (.lst xs)) W H σ δ)(ha:H a=some (.lst xs))(hW:W a):StHas K W₀ (Ib H₀ a (.lst ys)) W (Ib H a (.lst ys)) σ δ:=by
 have kk:Zi W H (Ib H a (.lst ys)):=λb o e n=>by
  rw[Ea (λz=>n (by rw[z];exact hW))];exact e
 have hw:∀ b,W b->W b\/H b=none:=λb z=>.inl z
 have fr':FrOk W₀ (Ib H₀ a (.lst ys)) W (Ib H a (.lst ys)):=by
  refine⟨λb o e=>?_,h.fr.sub,λb z=>?_,λb z=>?_⟩
  .by_cases hb:b=a
   .subst hb;rw[Ra]at e ⊢;exact e
   .rw[Ea hb]at e ⊢
    exact h.fr.ext b o (by rw[Ea hb];exact e)
  .by_cases hb:b=a
   .rw[hb];exact⟨_,Ra,trivial⟩
   .rw[Ea hb];exact h.fr.wl b z
  .by_cases hb:b=a
   .rw[hb];exact⟨_,Ra,trivial⟩
   .have:=h.fr.wl0 b z
    rw[Ea hb]at this ⊢;exact this
 have na:∀ (j:Nat) (s:S) (v:V) (b:Addr),δ[j]? =some (some s)->σ[j]? =some (some v)->Owns H s v b->b≠a:=λj s v b e e' o z=>by
  obtain⟨v',h1,h2⟩:=h.at' j s e
  rw[e']at h1;cases h1
  obtain⟨_,g,_⟩:=h2.owns o
  rw[z,Ra]at g;cases g
 have bk:∀ (j:Nat) (s:S) (v:V) (b:Addr),δ[j]? =some (some s)->σ[j]? =some (some v)->Owns (Ib H a (.lst ys)) s v b->Owns H s v b:=λj s v b e e' o=>by
  obtain⟨v',h1,h2⟩:=h.at' j s e
  rw[e']at h1;cases h1
  refine Owns.back h2 (λc o ec z y=>?_) o
  rcases y with⟨y,_⟩|⟨zs,y⟩
  .rw[Ea (na j _ _ c e e' y)];exact z
  .rw[Ea (λq=>by rw[q,ha]at z;cases z;cases y)];exact z
 refine⟨fr',h.len,λj s e=>?_,λi j s t u v b ij e1 e2 e3 e4 o1 o2=>h.ap i j s t u v b ij e1 e2 e3 e4 (bk i s u b e1 e3 o1) (bk j t v b e2 e4 o2)⟩
 obtain⟨v,h1,h2⟩:=h.at' j s e
 refine⟨v,h1,?_⟩
 cases s with
 |d x=>exact Has.keep kk h.fr.wl hw h2
 |o ds'=>
  obtain⟨b,zs,e',g1,g2,g3,g4⟩:=h2
  have hb:b≠a:=λz=>by
   rw[z,Ra]at g2;cases g2
  rw[Ea hb]at g2
  exact⟨b,zs,e',g1,by rw[Ea hb];exact g2,by rw[Ea hb];exact g3,HasL.keep kk h.fr.wl hw g4⟩
 |q ks' ds'=>
  obtain⟨b,zs,e',g1,g2,g3,g4,g5⟩:=h2
  have hb:b≠a:=λz=>by
   rw[z,Ra]at g2;cases g2
  rw[Ea hb]at g2
  exact⟨b,zs,e',g1,by rw[Ea hb];exact g2,by rw[Ea hb];exact g3,g4,HasL.keep kk h.fr.wl hw g5⟩
 |w dss=>
  obtain⟨b,bs,e',g1,g2,g3,g4,g5,g6,g7⟩:=h2
  have hb:b≠a:=λz=>by
   rw[z,Ra]at g2;cases g2
  rw[Ea hb]at g2
  refine⟨b,bs,e',g1,by rw[Ea hb];exact g2,by rw[Ea hb];exact g3,g4,g5,g6,λi c ds e1 e2=>?_⟩
  obtain⟨f1,f2,xs',f3,f4⟩:=g7 i c ds e1 e2
  have hc:c≠a:=λz=>by
   rw[z,Ra]at f2;cases f2
  rw[Ea hc]at f2
  exact⟨f1,by rw[Ea hc];exact f2,xs',by rw[Ea hc];exact f3,HasL.keep kk h.fr.wl hw f4⟩
 |k t cs=>
  obtain⟨b,ob,e',g1,g2,g3,g4,g5,g6⟩:=h2
  have hb:b≠a:=λz=>by
   by_cases m:KQ t
   .have:=(g3 m).2
    rw[z,Ra]at this;cases this
   .obtain⟨zs,rfl⟩:=g2.tup m
    rw[z,ha]at g1;cases g1
  refine⟨b,ob,e',by rw[Ea hb];exact g1,g2,λm=>⟨(g3 m).1,by have:=(g3 m).2;rw[Ea hb]at this ⊢;exact this⟩,g4,g5,λi c x e1 e2=>?_⟩
  have hc:=g6 i c x e1 e2
  cases c with
  |d y=>exact Has.keep kk h.fr.wl hw hc
  |l ds'=>
   obtain⟨b,zs,e',g1,g2,g3,g4⟩:=hc
   have hb:b≠a:=λz=>by
    rw[z,Ra]at g2;cases g2
   rw[Ea hb]at g2
   exact⟨b,zs,e',g1,by rw[Ea hb];exact g2,by rw[Ea hb];exact g3,HasL.keep kk h.fr.wl hw g4⟩
  |q ks' ds'=>
   obtain⟨b,zs,e',g1,g2,g3,g4,g5⟩:=hc
   have hb:b≠a:=λz=>by
    rw[z,Ra]at g2;cases g2
   rw[Ea hb]at g2
   exact⟨b,zs,e',g1,by rw[Ea hb];exact g2,by rw[Ea hb];exact g3,g4,HasL.keep kk h.fr.wl hw g5⟩
theorem StHas.block(n:Nat)(h:StHas K W₀ H₀ W H σ δ)(ha:H a=none):StHas K W₀ (Ib H₀ a (.lst [])) (λb=>W b\/b=a) (Ib H a (.lst [])) (replicate n none++σ) (replicate n none++δ):=by
 have hw:∀ b,(W b\/b=a)->W b\/H b=none:=λb z=>z.elim .inl λz=>.inr (by rw[z];exact ha)
 have k:Same H (Ib H a (.lst [])):=Je ha
 have kk:Zi W H (Ib H a (.lst [])):=Same.keep k
 have ha0:H₀ a=none:=Same.free h.fr.ext ha
 have fr':FrOk W₀ (Ib H₀ a (.lst [])) (λb=>W b\/b=a) (Ib H a (.lst [])):=by
  refine⟨λb o e=>?_,λb z=>.inl (h.fr.sub b z),λb z=>z.elim (h.fr.wl.same k b) λz=>by rw[z];exact⟨_,Ra,trivial⟩,h.fr.wl0.same (Je ha0)⟩
  by_cases hb:b=a
  .subst hb;rw[Ra]at e ⊢;exact e
  .rw[Ea hb]at e ⊢
   exact h.fr.ext b o e
 have idx:∀ {α:Type} (l:List (Option α)) (j:Nat) (x:α),(replicate n none++l)[j]? =some (some x)->n<=j/\l[j-n]? =some (some x):=λl j x e=>by
  by_cases hj:j<n
  .rw[List.getElem?_append_left (by simpa using hj),List.getElem?_replicate]at e
   split at e<;>cases e
  .refine⟨Nat.le_of_not_lt hj,?_⟩
   rw[List.getElem?_append_right (by simpa using hj),length_replicate]at e;exact e
 have back:∀ {α:Type} (l:List (Option α)) (j:Nat) (x:Option α),n<=j->l[j-n]? =some x->(replicate n none++l)[j]? =some x:=λl j x hj e=>by
  rw[List.getElem?_append_right (by simpa using hj),length_replicate];exact e
 refine⟨fr',by simp[h.len],λj s e=>?_,λi j s1 s2 u u' b hij e1 e2 e3 e4 os ot=>?_⟩
 .obtain⟨hj,e⟩:=idx _ _ _ e
  obtain⟨v,h1,h2⟩:=h.at' _ s e
  refine⟨v,back _ _ _ hj h1,?_⟩
  cases s with
  |d x=>exact Has.keep kk h.fr.wl hw h2
  |o ds'=>
   obtain⟨b,ys,e',g1,g2,g3,g4⟩:=h2
   have hb:b≠a:=Pa g3 ha
   exact⟨b,ys,e',.inl g1,by rw[Ea hb];exact g2,k _ _ g3,HasL.keep kk h.fr.wl hw g4⟩
  |q ks' ds'=>
   obtain⟨b,ys,e',g1,g2,g3,g4,g5⟩:=h2
   have hb:b≠a:=Pa g3 ha
   exact⟨b,ys,e',.inl g1,by rw[Ea hb];exact g2,k _ _ g3,g4,HasL.keep kk h.fr.wl hw g5⟩
  |w dss=>
   obtain⟨b,bs,e',g1,g2,g3,g4,g5,g6,g7⟩:=h2
   have hb:b≠a:=Pa g3 ha
   refine⟨b,bs,e',.inl g1,by rw[Ea hb];exact g2,k _ _ g3,g4,g5,g6,λi c ds e1 e2=>?_⟩
   obtain⟨f1,f2,xs',f3,f4⟩:=g7 i c ds e1 e2
   have hc:c≠a:=Pa f3 ha
   exact⟨.inl f1,by rw[Ea hc];exact f2,xs',k _ _ f3,HasL.keep kk h.fr.wl hw f4⟩
  |k t cs=>
   obtain⟨b,ob,e',g1,g2,g3,g4,g5,g6⟩:=h2
   have hb:b≠a:=Pa g1 ha
   refine⟨b,ob,e',k _ _ g1,g2,λm=>⟨.inl (g3 m).1,by rw[Ea hb];exact(g3 m).2⟩,g4,g5,λi c x e1 e2=>?_⟩
   have hc:=g6 i c x e1 e2
   cases c with
   |d y=>exact Has.keep kk h.fr.wl hw hc
   |l ds'=>
    obtain⟨b,ys,e',g1,g2,g3,g4⟩:=hc
    have hb:b≠a:=Pa g3 ha
    exact⟨b,ys,e',.inl g1,by rw[Ea hb];exact g2,k _ _ g3,HasL.keep kk h.fr.wl hw g4⟩
   |q ks' ds'=>
    obtain⟨b,ys,e',g1,g2,g3,g4,g5⟩:=hc
    have hb:b≠a:=Pa g3 ha
    exact⟨b,ys,e',.inl g1,by rw[Ea hb];exact g2,k _ _ g3,g4,HasL.keep kk h.fr.wl hw g5⟩
 .obtain⟨hi,e1⟩:=idx _ _ _ e1
  obtain⟨hj,e2⟩:=idx _ _ _ e2
  obtain⟨_,e3⟩:=idx _ _ _ e3
  obtain⟨_,e4⟩:=idx _ _ _ e4
  have bk:∀ (j:Nat) (s:S) (v:V),δ[j]? =some (some s)->σ[j]? =some (some v)->Owns _ s v b->Owns H s v b:=λj s v e e' o=>by
   obtain⟨v',h1,h2⟩:=h.at' j s e
   rw[e']at h1;cases h1
   exact Owns.back h2 (λc o _ z _=>k _ _ z) o
  exact h.ap (i-n) (j-n) s1 s2 u u' b (by omega) e1 e2 e3 e4 (bk _ _ _ e1 e3 os) (bk _ _ _ e2 e4 ot)
end
variable{N ps:List Str}{r:List V->Hp->VK->Prop}{op:D->Res D}{P:Program}{mg:Str->Option Value}{base:Heap}{m:List D->Res D}{fd:FuncData}{C:String}
section
variable {t:D->Ga->Res Ga}{gc:Ga->Res Bool}{fe:Ga->Res D}
def Rf(n:Nat)(t:D->Ga->Res Ga)(gc:Ga->Res Bool)(fe:Ga->Res D)(δ:Ga)(ds:List D):Res (List D):=@ite (Res (List D)) (ds.length<=100000) (propDecidable _) (noex (Kg t gc fe ds (replicate n none++δ))) .stuck
def M7(X:Cx)(ifs:List Expr)(g:Ga->Res Bool):Prop:=Y6 X ifs (G3 X.K Jq g)
theorem MR:M7 X [] (λ_=>.ok true):=λpins s σ H Q I ⟨_,_,_,_,_,q⟩=>KU pins s σ H Q I (q H (Same.refl H))
theorem DH{Nc:Nat}(q:M9 X.K xw (λδ=>(fi δ).bind λds=>Rf Nc t gc fe δ ds) σ H Q):
  IW Nc (tDI X.K xw fi) (N9 X.K t) (G3 X.K Jq gc) (BV X.K Jq fe) σ H Q:=by
 obtain⟨W₀,H₀,W,δ,st,q⟩:=q
 refine⟨W₀,H₀,W,δ,st,?_⟩
 dsimp only at q
 cases h1:fi δ with
 |stuck=>rw[h1]at q;exact q
 |ex c fs=>rw[h1]at q;exact q
 |ok ds=>
  rw[h1]at q
  intro J H1 k1 it a ha
  have q1:RF X.K xw W H (Rf Nc t gc fe δ ds) Q:=q
  unfold Rf at q1
  split at q1
  case isFalse=>exact q1.elim
  rename_i hlen
  have st1:=st.same k1
  cases hc:Kg t gc fe ds (replicate Nc none++δ) with
  |stuck=>rw[hc]at q1;exact q1.elim
  |ex c fs=>rw[hc]at q1;exact q1.elim
  |ok all=>
  rw[hc]at q1
  have q2:∀ a xs H1,Same H H1->H1 a=none->HasL X.K W H1 all xs->Q (.ref a) (Ib H1 a (.lst xs)):=q1
  refine⟨λi m xs σ' H'=>∃ δ' acc rest,m=ds.length-i/\i<=ds.length/\StHas X.K W₀ (Ib H₀ a (.lst xs)) (λb=>W b\/b=a) H' σ' δ'/\H' a=some (.lst xs)/\(∀ b o,H1 b=some o->H' b=some o)/\
    HasL X.K (λb=>W b\/b=a) H' acc xs/\Kg t gc fe (ds.drop i) δ'=.ok rest/\acc++rest=all/\xs.length<=i,
   ⟨_,replicate Nc none++δ,[],all,rfl,zero_le _,st1.block Nc ha,Ra,λb o e=>by rw[Ea (Pa e ha)];exact e,HasL.nil,hc,rfl,zero_le _⟩,?_⟩
  rintro i m xs σ' H' ⟨δ',acc,rest,rfl,hi,st',hxs,ks,hacc,hrest,hall,hxl⟩
  refine⟨hxs,?_⟩
  have k':Step W H1 (λb=>W b\/b=a) H':=⟨λb o e _=>ks b o e,λb z=>z.elim .inl λz=>.inr (by rw[z];exact ha)⟩
  obtain⟨items,stop⟩:=it _ H' k' st'.fr.wl
  by_cases hl:i<ds.length
  .right
   have e:ds[i]? =some ds[i]:=getElem?_eq_getElem hl
   obtain⟨go,yld⟩:=items i _ e
   have ed:ds.drop i=ds[i]::ds.drop (i+1):=List.drop_eq_getElem_cons hl
   rw[ed]at hrest
   unfold Kg at hrest
   refine⟨go,λx H3 z=>?_⟩
   obtain⟨k3,hx⟩:=yld x H3 z
   refine⟨W₀,_,_,δ',ds[i],st'.same k3,hx,?_⟩
   cases h2:t ds[i] δ' with
   |stuck=>rw[h2]at hrest;cases hrest
   |ex c fs=>rw[h2]at hrest;cases hrest
   |ok δ2=>
    rw[h2]at hrest
    dsimp only at hrest
    intro σ2 st2
    refine⟨W₀,_,_,δ2,st2,?_⟩
    cases h3:gc δ2 with
    |stuck=>rw[h3]at hrest;cases hrest
    |ex c fs=>rw[h3]at hrest;cases hrest
    |ok k=>
     rw[h3]at hrest
     intro H4 k4
     cases k with
     |false=>
      rw[if_neg Bool.false_ne_true]
      have hr':Kg t gc fe (ds.drop (i+1)) δ2=.ok rest:=hrest
      exact⟨ds.length-(i+1),by omega,δ2,acc,rest,rfl,hl,st2.same k4,k4 _ _ (k3 _ _ hxs),λb o e=>k4 _ _ (k3 _ _ (ks b o e)),(hacc.same k3 st'.fr.wl).same k4 (st'.fr.wl.same k3),hr',hall,by omega⟩
     |true=>
      rw[if_pos rfl]
      have hr':(noex (fe δ2)).bind (λx=>(Kg t gc fe (ds.drop (i+1)) δ2).bind λr=>.ok (x::r))=.ok rest:=hrest
      refine⟨W₀,_,_,δ2,st2.same k4,?_⟩
      cases h5:fe δ2 with
      |stuck=>rw[h5]at hr';cases hr'
      |ex c fs=>rw[h5]at hr';cases hr'
      |ok y=>
       rw[h5]at hr'
       intro v H5 k5 hv
       have hr2:(Kg t gc fe (ds.drop (i+1)) δ2).bind (λr=>.ok (y::r))=.ok rest:=hr'
       cases h6:Kg t gc fe (ds.drop (i+1)) δ2 with
       |stuck=>rw[h6]at hr2;cases hr2
       |ex c fs=>rw[h6]at hr2;cases hr2
       |ok r=>
        rw[h6]at hr2
        have er:y::r=rest:=by cases hr2;rfl
        have h5a:H5 a=some (.lst xs):=k5 _ _ (k4 _ _ (k3 _ _ hxs))
        have w3:=st'.fr.wl.same k3
        have w4:=w3.same k4
        have w5:=w4.same k5
        have acc5:=((hacc.same k3 st'.fr.wl).same k4 w3).same k5 w4
        have kk:Zi (λb=>W b\/b=a) H5 (Ib H5 a (.lst (xs++ [v]))):=λb o e n=>by
         rw[Ea (λz=>n (.inr z))];exact e
        have sz:sizeLine=16777216:=sizeLine_eq
        refine⟨h5a,by omega,ds.length-(i+1),by omega,δ2,acc++ [y],r,rfl,hl,((st2.same k4).same k5).acc h5a (.inr rfl),Ra,λb o e=>?_,HasL.keep kk w5 (λb z=>.inl z) (acc5.snoc hv),h6,?_,?_⟩
        .rw[Ea (Pa e ha)];exact k5 _ _ (k4 _ _ (k3 _ _ (ks b o e)))
        .rw[append_assoc];show acc++(y::r)=all;rw[er];exact hall
        .rw[length_append,length_singleton];omega
  .left
   have ei:i=ds.length:=by omega
   subst ei
   rw[List.drop_length]at hrest
   unfold Kg at hrest
   have er:rest= []:=by cases hrest;rfl
   subst er
   rw[append_nil]at hall
   subst hall
   refine⟨stop,?_⟩
   have hm:(λb=>if b=a then none else H' b:Hp) a=none:=if_pos rfl
   have eu:Ib (λb=>if b=a then none else H' b:Hp) a (.lst xs)=H':=by
    funext b
    by_cases hb:b=a
    .rw[hb,Ra,hxs]
    .rw[Ea hb,if_neg hb]
   have r:=q2 a xs (λb=>if b=a then none else H' b) (λb o e=>by
    have e1:=k1 b o e
    show(if b=a then none else H' b)=some o
    rw[if_neg (Pa e1 ha)];exact ks b o e1) hm (HasL.keep (W:=λb=>W b\/b=a) (W':=W) (λb o e n=>by show(if b=a then none else H' b)=some o;rw[if_neg (λz=>n (.inr z))];exact e) st'.fr.wl (λb z=>.inl (.inl z)) hacc)
   rw[eu]at r
   exact r
theorem BR(Nc Nx:List Str)(c:CompOk X scope Nc Nx)(hcalm:X.calm=true)(hi:DI X xw tg iter fi)(hY:∀ (C:Addr) (fp:List Addr) (pins:List (Addr×Obj)) (s:Shared) (H:Hp),DG (Ad X scope Nc Nx C fp pins s H) tg t/\M7 (Ad X scope Nc Nx C fp pins s H) ifs gc/\DE (Ad X scope Nc Nx C fp pins s H) Jq elt fe)(hs:∀ x,foldedSetIterable iter X.env x=pure x:=by intro _;rfl):
  DF X xw (.ListComp elt [⟨tg,iter,ifs,0⟩] scope pos) (λδ=>(fi δ).bind λds=>Rf Nc.length t gc fe δ ds):=
 PE.weak (DU (g:=N9 X.K t) (tt:=G3 X.K Jq gc) (te:=BV X.K Jq fe) c hcalm hi hY hs) λσ H Q q=>DH q
def OB(i:Nat)(δ:Ga)(r:Res D):Out:=match δ[i]? with
 |some (some (.o ds))=>@ite Out (ds.length<=100000) (propDecidable _) (Wk r λd=>.nx (δ.set i (some (.o (ds++ [d]))))) .stuck
 |_=>.stuck
theorem JH(i:Nat){p1 p3:Pos}(he:DE X xw e f)(hN:X.N[i]? =some x:=by rfl)(hv:Jw X.env.scope x:=by first|exact Or.inl rfl|exact Or.inr (Or.inl rfl)|exact Or.inr (Or.inr rfl))(hd:(x==("__debug__":Str))=false:=by decide)(hcd:(x==("__classdict__":Str))=false:=by decide)(hsE:starEach [e] X.env=(false,eval e X.env)::starEach [] X.env:=by rfl)(hbase:attributeBase (.Name x p1) "append" X.env (eval (.Name x p1) X.env)=eval (.Name x p1) X.env:=by rfl)(hfew:((backTo p3 (starEach [e] X.env)).all (λx=> !x.1)&&(backToKw p3 (keywordEach [] X.env)).all (λx=>x.1.isSome)
   &&decide (([e]:List Expr).length+([]:List Keyword).length+(if([]:List Keyword).isEmpty then 0 else 1)<30))=true:=by rfl)(hline:(p2.endLine==p3.line)=true:=by rfl)(hplain:(backTo p3 (starEach [] X.env)).any (·.1)=false:=by rfl)(hsw:swapsWith (.Call (.Attribute (.Name x p1) "append" p2) [e] [] p3) none pos.line X.env=pure false:=by rfl):
  DS X xw (.Expr (.Call (.Attribute (.Name x p1) "append" p2) [e] [] p3) pos) (λδ=>OB i δ (f δ)):=
 PS.weak (Wo (Ft PySem.F.plainAttrs_list PySem.F.slot_list_append PySem.F.type_list_append Vp (Fh hN hv hd hcd) (Sd he Eh hsE) hbase hfew hline hsE hplain) hsw) λDn σ H ⟨W₀,H₀,W,δ,st,q⟩=>by
  unfold OB at q
  dsimp only at q
  split at q
  .rename_i ds h
   split at q
   .rename_i hlen
    obtain⟨v,e1,a,xs,rfl,r2,r3,r4,r5⟩:=st.at' i _ h
    refine⟨_,e1,.inl ⟨rfl,xs,.of r4⟩,?_⟩
    refine Fp st q λH2 d u st2 hu q2=>?_
    obtain⟨v',e1',a',ys,e',r2',r3',r4',r5'⟩:=st2.at' i _ h
    rw[e1]at e1'
    cases e1'
    cases e'
    have sz:sizeLine=16777216:=sizeLine_eq
    refine⟨a,ys,u,rfl,rfl,r4',?_,?_⟩
    .rw[<-r5'.length];omega
    .refine q2 W _ σ ⟨λb o e n=>?_,λ_ z=>.inl z⟩ (st2.change h e1 r4' r2' (r5'.snoc hu))
     rw[Ea (λz=>n (by rw[z];exact r2'))];exact e
   .exact q.elim
  .exact q.elim
def K2(K:Frag)(n:Nat)(m:List D->Res D):Sp:=λvs H Q _=>vs.length=n/\∃ W ds,WL W H/\HasL K W H ds vs/\match m ds with
 | .ok d=>∀ v H',Same H H'->Has K W H' d v->Q v H'
 |_=>False
structure Fn(P:Program)(w:World)(K:Frag)(mg:Str->Option Value)(base:Heap)(k:Nat)(x:Str)(n:Nat)(m:List D->Res D):Prop where
 ex:∃ f fd ps,FnOk P w K mg base Co k f fd ps (K2 K n m)/\mg x=some (.ref f)/\keepIn K (.ref f)=true/\Binds K fd ps []
theorem Fn.mono(F:Fn P w K mg base j x n m)(h:j<=k):Fn P w K mg base k x n m:=by
 obtain⟨f,fd,ps,a,b⟩:=F.ex
 exact⟨f,fd,ps,a.mono h,b⟩
def Qb(n:Nat)(ds:List D):Ga:=ds.map (λd=>some (.d d))++replicate (n-ds.length) none
def Df(n:Nat)(g:Ga->Out)(ds:List D):Res D:=match g (Qb n ds) with
 | .rt d=>.ok d
 | .nx _=>.ok .non
 |_=>.stuck
theorem Km(w:WL W H)(r:HasL K W H ds vs):StHas K W H W H (L2.start N vs) (Qb N.length ds):=by
 have hl:=r.length
 have idx:∀ {α:Type} (l:List α) (j:Nat) (x:α) (m:Nat),(l.map some++replicate m none)[j]? =some (some x)->l[j]? =some x:=λl j x m e=>by
  by_cases hj:j<l.length
  .rw[List.getElem?_append_left (by simpa using hj),getElem?_map]at e
   cases q:l[j]? with
   |none=>rw[q]at e;cases e
   |some z=>rw[q]at e;cases e;rfl
  .rw[List.getElem?_append_right (by simpa using hj),List.getElem?_replicate]at e
   split at e<;>cases e
 have eS:Qb N.length ds=(ds.map S.d).map some++replicate (N.length-ds.length) none:=by
  unfold Qb;rw[map_map];rfl
 refine⟨⟨Same.refl _,λ_ z=>z,w,w⟩,?_,λi s e=>?_,λi j s1 s2 u u' a _ e1 _ _ _ os _=>?_⟩
 .unfold L2.start Qb;simp[hl]
 .rw[eS]at e
  have e':=idx _ _ _ _ e
  rw[getElem?_map]at e'
  cases q:ds[i]? with
  |none=>rw[q]at e';cases e'
  |some d=>
   rw[q]at e'
   cases e'
   obtain⟨x,h1,h2⟩:=r.get q
   refine⟨x,?_,h2⟩
   unfold L2.start
   have hi:i<vs.length:=(List.getElem?_eq_some_iff.mp h1).1
   rw[List.getElem?_append_left (by simpa using hi),getElem?_map,h1];rfl
 .rw[eS]at e1
  have e':=idx _ _ _ _ e1
  rw[getElem?_map]at e'
  cases q:ds[i]? with
  |none=>rw[q]at e';cases e'
  |some d=>rw[q]at e';cases e';exact os
theorem YR{fa:Addr}(F:Fun K x qual st fa fd)(S:FnScope N ps (Da st))(hm:mg x=some (.ref fa))(hb:Binds K fd ps [])(body:∀ (cdv:Value) (A:Around) (outer:List Env) (s:Shared) (H:Hp) (E:XK),Room k (A.deeper (envOfC qual (Da st) s.heap.objs.size fa cdv))->
   CQ (Vk Co P w K mg base N qual (Da st) fa cdv A outer s H E).nox Jq (Xa st) g):Fn P w K mg base (k+1) x ps.length (Df N.length g):=by
 refine⟨fa,fd,ps,F.ok S (λvs H Q E h=>h.1) (λcdv A outer s H vs Q E hr h=>?_),hm,F.kp,hb⟩
 obtain⟨hl,W,ds,hw,hd,q⟩:=h
 refine⟨_,body cdv A outer s H E hr,W,H,W,Qb N.length ds,Km hw hd,?_⟩
 unfold Df at q
 cases h:g (Qb N.length ds) with
 |rt d=>rw[h]at q;exact λv H' k hv=>q v H' k hv
 |nx δ=>rw[h]at q;exact λW' H' σ' k st'=>q .non H' st'.fr.ext (by rw[Has])
 |bk δ=>rw[h]at q;exact q.elim
 |ct δ=>rw[h]at q;exact q.elim
 |ex c fs=>rw[h]at q;exact q.elim
 |stuck=>rw[h]at q;exact q.elim
def La(n:Nat)(m:List D->Res D)(ds:List D):Res D:=if ds.length=n then noex (m ds) else .stuck
theorem ZQ{a:Expr}{fs:Ga->Res (List D)}{p:Pos}(F:Fn X.prog X.w X.K X.mg X.base k x n m)(hr:Room k X.A)(ha:DA X xw (a::es) fs)(hg:Gl X x:=by rfl)(hdb:(x==("__debug__":Str))=false:=by decide)(he:starEach (a::es) X.env=(false,eval a X.env)::starEach es X.env:=by rfl)(hpl:(backTo pos (starEach es X.env)).any (·.1)=false:=by rfl):
  DE X xw (.Call (.Name x p) (a::es) [] pos) (λδ=>(fs δ).bind λds=>La n m ds):=by
 obtain⟨fa,fd,ps,G,hm,hk,hb⟩:=F.ex
 refine PE.weak (Yx G hr hg hm hk hb .nil EW ha hdb he hpl) λσ H Q ⟨W₀,H₀,W,δ,st,q⟩=>?_
 refine Gj st q λH2 ds vs k w st2 hv _ q2=>?_
 unfold La at q2
 split at q2
 .rename_i hn
  rw[append_nil]
  refine⟨by rw[<-hv.length];exact hn,W,ds,w,hv,?_⟩
  cases h:m ds with
  |ok d=>rw[h]at q2;exact q2
  |ex c fs=>rw[h]at q2;exact q2
  |stuck=>rw[h]at q2;exact q2
 .exact q2.elim
theorem Lp{a:Expr}{fa:Ga->Res D}{id:String}{p:Pos}(hc:CallR X (.builtin id) r)(hop:∀ W H d v Q,WL W H->HasT X.K W H d v->RE X.K xw W H (op d) Q->r [v] H Q)(hm:X.mg x=none)(hv:bootBuiltins x=some (.builtin id))(ha:DP X xw a fa)(hg:Gl X x)(hn:x≠"__name__")(hdb:(x==("__debug__":Str))=false)(he:starEach [a] X.env=(false,eval a X.env)::starEach [] X.env)(hpl:(backTo pos (starEach [] X.env)).any (·.1)=false):DE X xw (.Call (.Name x p) [a] [] pos) (λδ=>(fa δ).bind op):=
 PE.weak (Vo hc hg hm hv (Sd ha Eh he) hn hdb he hpl) λσ H Q ⟨W₀,H₀,W,δ,st,q⟩=>Rg st q λH2 d v k w st2 hv _ q2=>hop W H2 d v Q w hv q2
theorem Mp{a:Expr}{fa:Ga->Res D}{id:String}{p:Pos}(hc:CallR X (.type id) r)(hop:∀ W H d v Q,WL W H->HasT X.K W H d v->RE X.K xw W H (op d) Q->r [v] H Q)(hm:X.mg x=none)(hv:bootBuiltins x=some (.type id))(ha:DP X xw a fa)(hg:Gl X x)(hn:x≠"__name__")(hdb:(x==("__debug__":Str))=false)(he:starEach [a] X.env=(false,eval a X.env)::starEach [] X.env)(hpl:(backTo pos (starEach [] X.env)).any (·.1)=false):DE X xw (.Call (.Name x p) [a] [] pos) (λδ=>(fa δ).bind op):=
 PE.weak (Xv hc hg hm hv (Sd ha Eh he) hn hdb he hpl) λσ H Q ⟨W₀,H₀,W,δ,st,q⟩=>Rg st q λH2 d v k w st2 hv _ q2=>hop W H2 d v Q w hv q2
def Pc:D->Res D
 | .tup ds=>.ok (.int ds.length)
 | .lst ds=>.ok (.int ds.length)
 | .str z=>@ite (Res D) (z.length<=sizeLine) (propDecidable _) (.ok (.int z.length)) .stuck
 |_=>.stuck
variable {p:Pos}
theorem DX(hm:X.mg "len"=none)(ha:DP X xw a fa)(hg:Gl X "len":=by rfl)(he:starEach [a] X.env=(false,eval a X.env)::starEach [] X.env:=by rfl)(hpl:(backTo pos (starEach [] X.env)).any (·.1)=false:=by rfl):
  DE X xw (.Call (.Name "len" p) [a] [] pos) (λδ=>(fa δ).bind Pc):=
 Lp CK (λW H d v Q w hv q=>by
  unfold Pc at q
  split at q
  .obtain⟨p,xs,e,sq,r⟩:=hv.tup
   rw[e]
   exact⟨_,xs.length,rfl,.inr ⟨xs,sq,rfl⟩,by rw[<-r.length];exact q.int⟩
  .obtain⟨p,xs,e,sq,r⟩:=hv.lst
   rw[e]
   exact⟨_,xs.length,rfl,.inl ⟨xs,sq,rfl⟩,by rw[<-r.length];exact q.int⟩
  .split at q
   .rename_i hz
    rw[hv.str]
    exact⟨_,_,rfl,⟨hz,rfl⟩,q.int⟩
   .exact q.elim
  .exact q.elim) hm PySem.boot_len ha hg (by decide) (by decide) he hpl
def Au:D->Option String
 | .non=>some "NoneType"
 | .bl _=>some "bool"
 | .int _=>some "int"
 | .str _=>some "str"
 | .tup _=>some "tuple"
 | .lst _=>some "list"
 | .dct _ _=>some "dict"
 | .exc _ _=>none
 | .obj _ _ _=>none
def Ks(T C:String):Bool:=T==C||(T=="bool"&&C=="int")
def Yd(C:String)(d:D):Res D:=match Au d with
 |some T=>.ok (.bl (Ks T C))
 |none=>.stuck
def Ls(C:String):Prop:=∀ (K:Frag),∀ T∈ ["NoneType","bool","int","str","tuple","list","dict"],kitOne K (.type T) (.type C)=some (Ks T C)
theorem AF:Ls "int":=by intro K T hT;simp only[mem_cons,not_mem_nil,or_false]at hT;rcases hT with rfl|rfl|rfl|rfl|rfl|rfl|rfl<;>kernel_rfl
theorem Rz:Ls "bool":=by intro K T hT;simp only[mem_cons,not_mem_nil,or_false]at hT;rcases hT with rfl|rfl|rfl|rfl|rfl|rfl|rfl<;>kernel_rfl
theorem Qr:Ls "str":=by intro K T hT;simp only[mem_cons,not_mem_nil,or_false]at hT;rcases hT with rfl|rfl|rfl|rfl|rfl|rfl|rfl<;>kernel_rfl
theorem WH:Ls "tuple":=by intro K T hT;simp only[mem_cons,not_mem_nil,or_false]at hT;rcases hT with rfl|rfl|rfl|rfl|rfl|rfl|rfl<;>kernel_rfl
theorem BK(hC:Ls C):CallR X (.builtin "isinstance") (λxs H Q=>∃ W d x T,xs= [x,.ty C]/\HasT X.K W H d x/\Au d=some T/\Q (.bl (Ks T C)) H):=by
 intro pins s σ H xs us Q I r h
 obtain⟨W,d,x,T,rfl,hd,ht,q⟩:=h
 obtain⟨u,u2,rfl,rx,rc⟩:=r.two
 obtain rfl:u2=Value.type C:=rc
 have hk:=hC X.K T (by cases d<;>cases ht<;>simp)
 have fin:∀ tk,EP X pins σ Q (.bool (Ks T C)) {s with toks:=tk}:=λtk=>⟨.bl _,H,I.tok tk,rfl,q⟩
 cases d with
 |non=>
  cases ht
  have:=hd.non;subst this
  cases (show u=Value.none from rx)
  exact kia_one PySem.W.kitx_none I.kIn True.intro hk (λz=>nomatch z) fin
 |bl b=>
  cases ht
  have:=hd.bl;subst this
  cases (show u=Value.bool b from rx)
  exact kia_one PySem.W.kitx_bool I.kIn True.intro hk (λz=>nomatch z) fin
 |int b=>
  cases ht
  have:=hd.int;subst this
  obtain⟨t,rfl⟩:=(show ∃ t,u=Value.int b t from rx)
  exact kia_one PySem.W.kitx_int I.kIn True.intro hk (λz=>nomatch z) fin
 |str b=>
  cases ht
  have:=hd.str;subst this
  obtain⟨t,rfl⟩:=(show ∃ t,u=Value.str b t from rx)
  exact kia_one PySem.W.kitx_str I.kIn True.intro hk (λz=>nomatch z) fin
 |tup ds=>
  cases ht
  obtain⟨a,xs,rfl,sq,_⟩:=hd.tup
  cases (show u=Value.ref a from rx)
  obtain⟨its,_,⟨o,h1,h2,_⟩,_⟩:=I.tuple sq
  exact kia_one PySem.W.kitx_tuple I.kIn ⟨o,h1,h2⟩ hk (λz=>nomatch z) fin
 |lst ds=>
  cases ht
  obtain⟨a,xs,rfl,sq,_⟩:=hd.lst
  cases (show u=Value.ref a from rx)
  obtain⟨its,_,⟨o,n,h1,h2,_⟩,_⟩:=I.list sq
  exact kia_one PySem.W.kitx_list I.kIn ⟨o,h1,h2⟩ hk (λz=>nomatch z) fin
 |dct ks ds=>
  cases ht
  rcases hd with hd|⟨_,_,_,z,_⟩
  .rw[Has]at hd
   obtain⟨a,kvs,rfl,⟨ob,ea⟩,_⟩:=hd
   cases (show u=Value.ref a from rx)
   obtain⟨_,_,_,vs,_,p⟩:=(show ObjOk X.prog X.w H s.heap a (.frz ob (.dK kvs)) from I.hok a _ ea)
   obtain⟨o,es,ep,h1,h2,_⟩:=p
   exact kia_one PySem.W.kitx_dict I.kIn ⟨o,h1,h2.1⟩ hk (λz=>nomatch z) fin
  .cases z
 |exc c ds=>cases ht
 |obj c k ds=>cases ht
theorem BX{c:Str}(hC:Ls C)(hbc:bootBuiltins c=some (.type C))(hm:X.mg "isinstance"=none)(hmc:X.mg c=none)(ha:DP X xw a fa)(hg:Gl X "isinstance":=by rfl)(hgc:Gl X c:=by rfl)(hcn:c≠"__name__":=by decide)(hcd:(c==("__debug__":Str))=false:=by decide)(he:starEach [a, .Name c p2] X.env=(false,eval a X.env)::starEach [.Name c p2] X.env:=by rfl)(he2:starEach [.Name c p2] X.env=(false,eval (.Name c p2) X.env)::starEach [] X.env:=by rfl)(hpl:(backTo pos (starEach [.Name c p2] X.env)).any (·.1)=false:=by rfl):
  DE X xw (.Call (.Name "isinstance" p) [a, .Name c p2] [] pos) (λδ=>(fa δ).bind (Yd C)):=
 PE.weak (Vo (BK hC) hg hm (by decide +kernel) (Sd ha (Sd (JF (v:=.ty C) hgc hmc hbc rfl hcn hcd) Eh he2) he) (by decide) (by decide) he hpl) λσ H Q ⟨W₀,H₀,W,δ,st,q⟩=>Rg st q λH2 d v k w st2 hv _ q2=>by
  unfold Yd at q2
  split at q2
  .rename_i T hT
   exact⟨W,d,v,T,rfl,hv,hT,q2.bl⟩
  .exact q2.elim
def Mb:List D->Option (List Bool)
 | []=>some []
 | .bl b::r=>(Mb r).map (b:: ·)
 |_=>none
def On:D->Res D
 | .lst ds=>match Mb ds with
  |some bs=>.ok (.bl (bs.all id))
  |none=>.stuck
 |_=>.stuck
theorem Zk:∀ {ds:List D} {bs:List Bool} {i:Nat} {d:D},Mb ds=some bs->ds[i]? =some d->∃ b,d=.bl b/\bs[i]? =some b
 | [],_,_,_,_,e=>by simp at e
 | .bl b::r,bs,i,d,h,e=>by
  rw[Mb]at h
  obtain⟨bs',h1,rfl⟩:=map_eq_some_iff.mp h
  cases i with
  |zero=>simp at e;subst e;exact⟨b,rfl,rfl⟩
  |succ i=>
   obtain⟨b',e1,e2⟩:=Zk h1 (by simpa using e)
   exact⟨b',e1,by simpa using e2⟩
 | .non::_,_,_,_,h,_=>by simp[Mb]at h
 | .int _::_,_,_,_,h,_=>by simp[Mb]at h
 | .str _::_,_,_,_,h,_=>by simp[Mb]at h
 | .tup _::_,_,_,_,h,_=>by simp[Mb]at h
 | .lst _::_,_,_,_,h,_=>by simp[Mb]at h
 | .dct _ _::_,_,_,_,h,_=>by simp[Mb]at h
 | .exc _ _::_,_,_,_,h,_=>by simp[Mb]at h
 | .obj _ _ _::_,_,_,_,h,_=>by simp[Mb]at h
theorem Al:∀ {ds:List D} {bs:List Bool},Mb ds=some bs->bs.length=ds.length
 | [],_,h=>by rw[Mb]at h;cases h;rfl
 | .bl b::r,bs,h=>by
  rw[Mb]at h
  obtain⟨bs',h1,rfl⟩:=map_eq_some_iff.mp h
  rw[List.length_cons,List.length_cons,Al h1]
 | .non::_,_,h=>by simp[Mb]at h
 | .int _::_,_,h=>by simp[Mb]at h
 | .str _::_,_,h=>by simp[Mb]at h
 | .tup _::_,_,h=>by simp[Mb]at h
 | .lst _::_,_,h=>by simp[Mb]at h
 | .dct _ _::_,_,h=>by simp[Mb]at h
 | .exc _ _::_,_,h=>by simp[Mb]at h
 | .obj _ _ _::_,_,h=>by simp[Mb]at h
theorem OI(bs:List Bool):(range bs.length).all (λi=>bs.getD i false)=bs.all id:=by
 induction bs with
 |nil=>rfl
 |cons b bs ih=>
  rw[List.length_cons,List.range_succ_eq_map,all_cons,all_map,all_cons,<-ih]
  rfl
theorem RG(hc:X.calm=true):CallR X (.builtin "all") (λxs H Q=>∃ W ds bs v,xs= [v]/\HasT X.K W H (.lst ds) v/\Mb ds=some bs/\Q (.bl (bs.all id)) H):=by
 intro pins s σ H xs us Q I r h
 obtain⟨W,ds,bs,v,rfl,hd,hb,q⟩:=h
 obtain⟨u,rfl,rx⟩:=Kn r
 obtain⟨a,ys,rfl,sq,rl⟩:=hd.lst
 cases (show u=Value.ref a from rx)
 obtain⟨its,rv,pl,hz⟩:=I.list sq
 have hlt:a<s.heap.objs.size:=by obtain⟨_,e,_⟩:=pl.isList;exact lt_size e
 have hh:X.A.in1.handled=none:=I.ok.hd hc
 refine call_all_walk (wpAny_pyIter_list pl.isList ?_)
 refine⟨s.heap.objs.size,_,_,_,_,_,λi=>bs.getD i false,rfl,Walks.list hh s.heap.objs.size a (ne_of_lt hlt) its.toArray,⟨⟨_,get?_push_size _ rfl,rfl,rfl⟩,pl.isList.push _⟩,λi v s' Q' E' hP hQ'=>?_,λh' tk hk=>?_⟩
 .have hi:its[i]? =some v:=by simpa using hP
  have hil:i<ys.length:=by rw[rv.length];exact(List.getElem?_eq_some_iff.mp hi).1
  obtain⟨x,e1⟩:∃ x,ys[i]? =some x:=⟨_,getElem?_eq_getElem hil⟩
  obtain⟨d,e2,hx⟩:=rl.at' e1
  obtain⟨b,rfl,e3⟩:=Zk hb e2
  rw[Has]at hx
  subst hx
  obtain⟨w',e4,rw'⟩:=rv.get e1
  rw[hi]at e4;cases e4
  cases (show v=Value.bool b from rw')
  refine wpAny_truthy_bool ?_
  have:bs.getD i false=b:=by rw[List.getD_eq_getElem?_getD,e3];rfl
  dsimp only at hQ'
  rw[this]at hQ'
  exact hQ'
 .have e:its.toArray.size=bs.length:=by rw[size_toArray,Al hb,rl.length,rv.length]
  rw[e,OI]
  refine⟨.bl _,H,?_,rfl,q⟩
  refine I.kept (λb o e=>hk b o ?_ (get?_push_of_some _ e))
  intro z
  have:b=s.heap.objs.size:=by simpa using z
  exact absurd (lt_size e) (by rw[this];exact lt_irrefl _)
theorem WW(hc:X.calm=true)(hm:X.mg "all"=none)(ha:DP X xw a fa)(hg:Gl X "all":=by rfl)(he:starEach [a] X.env=(false,eval a X.env)::starEach [] X.env:=by rfl)(hpl:(backTo pos (starEach [] X.env)).any (·.1)=false:=by rfl):
  DE X xw (.Call (.Name "all" p) [a] [] pos) (λδ=>(fa δ).bind On):=
 Lp (RG hc) (λW H d v Q w hv q=>by
  unfold On at q
  split at q
  .split at q
   .rename_i hb
    exact⟨W,_,_,v,rfl,hv,hb,q.bl⟩
   .exact q.elim
  .exact q.elim) hm PyProof.Rows.boot_all ha hg (by decide) (by decide) he hpl
end
def kD(d:D):Ga->Res D:=λ_=>.ok d
def b1(op:α->Res β)(f:Ga->Res α):Ga->Res β:=λδ=>(f δ).bind op
def b2(op:D->D->Res D)(f g:Ga->Res D):Ga->Res D:=λδ=>(f δ).bind λx=>(g δ).bind λy=>op x y
def b3(op:D->Option Int->Option Int->Res β)(f:Ga->Res D)(g h:Ga->Res (Option Int)):Ga->Res β:=λδ=>(f δ).bind λx=>(g δ).bind λl=>(h δ).bind λu=>op x l u
def NG(op op':D->D->Res D)(fa fb fc:Ga->Res D):Ga->Res D:=λδ=>(fa δ).bind λx=>(fb δ).bind λy=>Oi op op' x y (fc δ)
def tR(f:Ga->Res D):Ga->Res Bool:=λδ=>(f δ).bind Ho
def Jn(a b:Ga->Res Bool):Ga->Res Bool:=λδ=>MW (a δ) (b δ)
def Xe(a b:Ga->Res Bool):Ga->Res Bool:=λδ=>S8 (a δ) (b δ)
def Cc(a:Ga->Res Bool):Ga->Res Bool:=λδ=>(a δ).bind λk=>.ok (!k)
def Yl(a b:Ga->Res D):Ga->Res D:=λδ=>NW (a δ) (b δ)
def HQ(a b:Ga->Res D):Ga->Res D:=λδ=>T8 (a δ) (b δ)
def GQ(c:Ga->Res Bool)(a b:Ga->Res D):Ga->Res D:=λδ=>(c δ).bind λk=>if k=true then a δ else b δ
def Ka:Ga->Res (List D):=λ_=>.ok []
def Aa(f:Ga->Res D)(fs:Ga->Res (List D)):Ga->Res (List D):=λδ=>JE (f δ) (fs δ)
def Vc:Ga->Res (Option Int):=λ_=>.ok none
def Zc(f:Ga->Res (List D)):Ga->Res D:=λδ=>(f δ).bind λds=>.ok (.lst ds)
def Xd(n:Nat)(t:D->Ga->Res Ga)(gc:Ga->Res Bool)(fe:Ga->Res D)(fi:Ga->Res (List D)):Ga->Res (List D):=λδ=>(fi δ).bind λds=>Rf n t gc fe δ ds
def Sa(g1 g2:Ga->Out):Ga->Out:=λδ=>Tt (g1 δ) g2
def Nb(i:Nat)(f:Ga->Res D):Ga->Out:=λδ=>Wk (f δ) λd=>.nx (δ.set i (some (.d d)))
def Of(i:Nat)(f:Ga->Res (List D)):Ga->Out:=λδ=>Wk (f δ) λds=>.nx (δ.set i (some (.o ds)))
def Xj(c:Ga->Res Bool)(a b:Ga->Out):Ga->Out:=λδ=>A7 (c δ) (a δ) (b δ)
def Om(t:D->Ga->Res Ga)(g:Ga->Out)(fi:Ga->Res (List D)):Ga->Out:=λδ=>Wk (fi δ) λds=>Xf t g ds δ
def Pt(n:Nat)(c:Ga->Res Bool)(g:Ga->Out):Ga->Out:=λδ=>XD c g n δ
def Xn(i:Nat)(f:Ga->Res D):Ga->Out:=λδ=>OB i δ (f δ)
def Pb(f:Ga->Res D):Ga->Out:=λδ=>Wk (f δ) λd=>.rt d
def WA:Ga->Out:=λ_=>.rt .non
def QA(f:Ga->Res D):Ga->Out:=λδ=>Wk (f δ) λ_=>.nx δ
def X7(t:D->Ga->Res Ga)(δ:Ga)(d:D):Out:=match t d δ with
 | .ok δ'=>.nx δ'
 |_=>.stuck
def GO(t:D->Ga->Res Ga)(f:Ga->Res D):Ga->Out:=λδ=>Wk (f δ) (X7 t δ)
section
variable {p:Pos}{t:D->Ga->Res Ga}{fs:Ga->Res (List D)}
theorem MK(hm:∃ t,X.mg x=some (.int i t))(hg:Gl X x:=by rfl)(hdb:(x==("__debug__":Str))=false:=by decide):DE X xw (.Name x pos) (kD (.int i)):=by
 obtain⟨t,hm⟩:=hm
 exact Ww (v:=.int i) hm ⟨t,rfl⟩ (λW H=>by rw[Has]) hg hdb
theorem NK{y:Str}(hm:∃ t,X.mg x=some (.str y t))(hg:Gl X x:=by rfl)(hdb:(x==("__debug__":Str))=false:=by decide):DE X xw (.Name x pos) (kD (.str y)):=by
 obtain⟨t,hm⟩:=hm
 exact Ww (v:=.str y) hm ⟨t,rfl⟩ (λW H=>by rw[Has]) hg hdb
theorem JI{op:D->Res (List D)}(st:StHas X.K W₀ H₀ W H σ δ)(q:RF X.K xw W H ((fa δ).bind op) Q)(h:∀ H2 d v,Same H H2->WL W H2->StHas X.K W₀ H₀ W H2 σ δ->HasT X.K W H2 d v->fa δ= .ok d->RF X.K xw W H2 (op d) Q->R v H2):
  IJ X.K xw fa σ H λx H1=>R x H1:=by
 refine⟨W₀,H₀,W,δ,st,?_⟩
 cases h1:fa δ with
 |stuck=>rw[h1]at q;exact q
 |ex c fs=>rw[h1]at q;exact q
 |ok d=>
  rw[h1]at q
  intro v H1 k1 hv
  exact h H1 d v k1 (st.fr.wl.same k1) (st.same k1) hv h1 (RF.same (r:=op d) q k1)
def Ei:D->Res (List D)
 | .tup ds=>.ok ds
 | .lst ds=>.ok ds
 |_=>.stuck
theorem GH(hm:X.mg "list"=none)(ha:DP X xw a fa)(hg:Gl X "list":=by rfl)(he:starEach [a] X.env=(false,eval a X.env)::starEach [] X.env:=by rfl)(hpl:(backTo pos (starEach [] X.env)).any (·.1)=false:=by rfl):
  DF X xw (.Call (.Name "list" p) [a] [] pos) (b1 Ei fa):=
 PE.weak (Xv Pw hg hm (by decide +kernel) (Sd ha Eh he) (by decide) (by decide) he hpl) λσ H Q ⟨W₀,H₀,W,δ,st,q⟩=>JI st q λH2 d v k w st2 hv _ q2=>by
  unfold Ei at q2
  split at q2
  .obtain⟨p,xs,e,sq,r⟩:=hv.tup
   rw[e]
   exact⟨p,xs,rfl,.inr sq,λl hl=>q2 l xs H2 (Same.refl _) hl r⟩
  .obtain⟨p,xs,e,sq,r⟩:=hv.lst
   rw[e]
   exact⟨p,xs,rfl,.inl sq,λl hl=>q2 l xs H2 (Same.refl _) hl r⟩
  .exact q2.elim
def Ao:D->Res D
 | .tup ds=>.ok (.tup ds)
 | .lst ds=>.ok (.tup ds)
 |_=>.stuck
theorem PK(hm:X.mg "tuple"=none)(ha:DP X xw a fa)(hg:Gl X "tuple":=by rfl)(he:starEach [a] X.env=(false,eval a X.env)::starEach [] X.env:=by rfl)(hpl:(backTo pos (starEach [] X.env)).any (·.1)=false:=by rfl):
  DE X xw (.Call (.Name "tuple" p) [a] [] pos) (b1 Ao fa):=
 Mp Hu (λW H d v Q w hv q2=>by
  unfold Ao at q2
  split at q2
  .obtain⟨p,xs,e,sq,r⟩:=hv.tup
   rw[e]
   exact⟨p,xs,rfl,.inr ⟨sq,q2 _ H (Same.refl _) (by rw[Has];exact⟨p,xs,rfl,sq,r⟩)⟩⟩
  .obtain⟨p,xs,e,sq,r⟩:=hv.lst
   rw[e]
   exact⟨p,xs,rfl,.inl ⟨sq,λl hl=>q2.newT w hl r⟩⟩
  .exact q2.elim) hm (by decide +kernel) ha hg (by decide) (by decide) he hpl
def O8:List D->Res D
 | [.int i,.int j]=>.ok (.int (max i j))
 |_=>.stuck
def P8:List D->Res D
 | [.int i,.int j]=>.ok (.int (min i j))
 |_=>.stuck
def V7:D->Res D
 | .int i=>.ok (.int (if i<0 then -i else i))
 |_=>.stuck
def slD(d:D)(lo hi:Option Int):Res D:=match d with
 | .tup ds=>if whole ds.length lo hi then .stuck else .ok (.tup (cutD ds lo hi))
 | .lst ds=>.ok (.lst (cutD ds lo hi))
 |_=>.stuck
def L8(K:Frag)(tl:TE):TI:=λσ H R=>tl σ H λx H1=>∃ a,x=.ref a/\(((∃ xs,SqL K H1 a xs)/\R (O7 K a) H1)\/((∃ xs,SqT K H1 a xs)/\R (P7 K a) H1))
theorem U0{l:Expr}{tl:TE}(hl:PE X l tl):PI X tg l (L8 X.K tl):=by
 intro pins s σ H R I h
 refine thn (hl pins s σ H _ I h) λv s1 ⟨x,H1,I1,r1,q1⟩=>?_
 obtain⟨a,e,q1⟩:=q1
 subst e
 cases r1
 rcases q1 with⟨⟨xs,hq⟩,q⟩|⟨⟨xs,hq⟩,q⟩
 .obtain⟨its,rv,p,hz⟩:=I1.list hq
  refine wpAny_pyIter_list p.isList ?_
  refine⟨s1.heap.objs.size,[s1.heap.objs.size],_,_,H1,rfl,I1.kept (t':=s1.toks) λb o e=>get?_push_of_some _ e,KJ a _,⟨_,get?_push_size _ rfl,rfl,rfl⟩,λb hb=>?_,q⟩
  have e:b=s1.heap.objs.size:=by simpa using hb
  subst e
  exact I1.fpOk (le_refl _) (I1.hok.fresh (le_refl _))
 .obtain⟨its,rv,p,hz⟩:=I1.tuple hq
  refine wpAny_pyIter_tuple (show s1.heap.IsTuple a its.toArray from p) ?_
  refine⟨s1.heap.objs.size,[s1.heap.objs.size],_,_,H1,rfl,I1.kept (t':=s1.toks) λb o e=>get?_push_of_some _ e,UD a _,⟨_,get?_push_size _ rfl,rfl,rfl⟩,λb hb=>?_,q⟩
  have e:b=s1.heap.objs.size:=by simpa using hb
  subst e
  exact I1.fpOk (le_refl _) (I1.hok.fresh (le_refl _))
theorem RX(h:DE X xw e f):DI X xw tg e (b1 Ei f):=PI.weak (U0 h) λσ H R ⟨W₀,H₀,W,δ,st,q⟩=>by
 refine⟨W₀,H₀,W,δ,st,?_⟩
 simp only[b1]at q
 cases h1:f δ with
 |stuck=>rw[h1]at q;exact q
 |ex c fs=>rw[h1]at q;exact q
 |ok d=>
  rw[h1]at q
  intro v H1 k1 hv
  cases d with
  |lst ds=>
   rw[Has]at hv
   obtain⟨a,xs,e,sq,r⟩:=hv
   exact⟨a,e,.inl ⟨⟨xs,sq.sq⟩,q _ H1 k1 (VY (st.fr.wl.same k1) sq r)⟩⟩
  |tup ds=>
   rw[Has]at hv
   obtain⟨a,xs,e,sq,r⟩:=hv
   exact⟨a,e,.inr ⟨⟨xs,sq⟩,q _ H1 k1 (YY (st.fr.wl.same k1) sq r)⟩⟩
  |_=>exact q.elim
theorem SK(h:Heap)(hb:sysModules<h.objs.size):ObjOk P w H (h.push {cls:=.type "dict",data:=.dict #[]}) h.objs.size (.dK []):=
 ⟨zero_le _,beq_eq_false_iff_ne.mpr (Ne.symm (ne_of_lt hb)),[],.nil,Heap.DictOf.new h⟩
end
theorem Lo(hr:Room k A):A.units+40<cLine:=by have:=hr.units;omega
theorem ML{fa:Addr}(F:Fun K x qual st fa fd)(S:FnScope N ps (Da st))(body:∀ (cdv:Value) (A:Around) (outer:List Env) (s:Shared) (H:Hp) (E:XK),Room k (A.deeper (envOfC qual (Da st) s.heap.objs.size fa cdv))->
   CQ (Vk Co P w K mg base N qual (Da st) fa cdv A outer s H E).nox Jq (Xa st) g):FnOk P w K mg base Co (k+1) fa fd ps (K2 K ps.length (Df N.length g)):=by
 refine F.ok S (λvs H Q E h=>h.1) (λcdv A outer s H vs Q E hr h=>?_)
 obtain⟨hl,W,ds,hw,hd,q⟩:=h
 refine⟨_,body cdv A outer s H E hr,W,H,W,Qb N.length ds,Km hw hd,?_⟩
 unfold Df at q
 cases h:g (Qb N.length ds) with
 |rt d=>rw[h]at q;exact λv H' k hv=>q v H' k hv
 |nx δ=>rw[h]at q;exact λW' H' σ' k st'=>q .non H' st'.fr.ext (by rw[Has])
 |bk δ=>rw[h]at q;exact q.elim
 |ct δ=>rw[h]at q;exact q.elim
 |ex c fs=>rw[h]at q;exact q.elim
 |stuck=>rw[h]at q;exact q.elim
def ZF(K:Frag):Sp:=λvs H Q _=>∃ (a:Addr) (ns:List Int),vs= [.ref a]/\SqL K H a (ns.map V.int)/\ns.length<=63/\∀ H',Q (.bl true) H'
theorem MZ{f:Addr}(G:FnOk P w K mg base Co k f fd ps (K2 K 1 m))(h:∀ ns:List Int,ns.length<=63->m [.lst (ns.map D.int)]=.ok (.bl true)):FnOk P w K mg base Co k f fd ps (ZF K):=by
 refine G.imp λvs H Q E q=>?_
 obtain⟨a,ns,rfl,sq,hl,q⟩:=q
 refine⟨rfl,λ_=>False,[.lst (ns.map D.int)],λb z=>z.elim,HasL.cons ?_ HasL.nil,?_⟩
 .rw[Has]
  refine⟨a,_,rfl,?_,HasL.ints⟩
  rcases sq with(z|z)|z
  .exact .inl ⟨z,λz=>z⟩
  .exact .inr (.inl z)
  .exact .inr (.inr z)
 .rw[h ns hl]
  intro v H' k hv
  rw[Has]at hv
  rw[hv]
  exact q H'
end L3
namespace L3
open PySem
variable{prog:Program}{w:World}{A:Around}{E Q:Value->Shared->Prop}{s:Shared}{it:Addr}{i:Nat}{items:Array Value}{x:Value}
theorem QC{t:Addr}(hi:s.heap.IsTupleIter it t i)(ht:s.heap.IsTuple t items)(hx:items[i]? =some x)(hQ:∀ h',h'.IsTupleIter it t (i+1)->SameBut it s.heap h'->Q x {s with heap:=h'}):wpAny (model prog w) A (Builtin.SmallTypes.nextOf (.ref it)) Q E s:=by
 obtain⟨o,h1,h2,h3⟩:=id hi
 obtain⟨u,g1,g2,m,g3⟩:=ht
 unfold Builtin.SmallTypes.nextOf
 refine wpAny_bind (wpAny_callSpecial?_slot (name:=Str.ofString "__next__") hi.typeIs F.slot_tuple_iterator_next (wpAny_call_entry F.slot_tuple_iterator_next hi.typeIs F.entry_tuple_iterator_next ?_ (F.args_tuple_iterator_next_1 _)))
 show wpAny _ _ (field (.ref it) 0 >>= _) _ _ s;refine wpAny_bind (wpAny_field h1 h3 (x:=.ref t) rfl ?_)
 show wpAny _ _ (if(Value.ref t==Value.none)=true then _ else _) _ _ s;rw[if_neg (show ¬ ((Value.ref t==Value.none)=true) from Bool.false_ne_true)]
 show wpAny _ _ (field (.ref it) 1 >>= _) _ _ s;refine wpAny_bind (wpAny_field h1 h3 (x:=.int i 0) rfl ?_)
 show wpAny _ _ (seqItems? (.ref t) >>= _) _ _ s;refine wpAny_bind (wpAny_seqItems g1 g3 ?_)
 simp only[Int.toNat_natCast,hx]
 refine wpAny_bind (wpAny_setField h1 h3 (by simp) (wpAny_pure ⟨x,rfl,wpAny_pure (hQ _ ⟨_,get?_update_self _ h1 (Obj.isFreed_of_fields (Obj.data_mapFields h3 _)),(Obj.cls_mapFields ..).trans h2,?_⟩ (SameBut.update ..))⟩))
 rw[Obj.data_mapFields h3];simp[rawInt]
theorem GI{t:Addr}(hh:A.handled=none)(hi:s.heap.IsTupleIter it t i)(ht:s.heap.IsTuple t items)(hx:items[i]? =none)(hE:∀ h' e,Heap.ExtBut it s.heap h'->(∃ o,h'.get? e=some o/\o.cls=.type "StopIteration")->E (.ref e) {s with heap:=h'}):wpAny (model prog w) A (Builtin.SmallTypes.nextOf (.ref it)) Q E s:=by
 obtain⟨o,h1,h2,h3⟩:=id hi
 obtain⟨u,g1,g2,m,g3⟩:=ht
 unfold Builtin.SmallTypes.nextOf
 refine wpAny_bind (wpAny_callSpecial?_slot (name:=Str.ofString "__next__") hi.typeIs F.slot_tuple_iterator_next (wpAny_call_entry F.slot_tuple_iterator_next hi.typeIs F.entry_tuple_iterator_next ?_ (F.args_tuple_iterator_next_1 _)))
 show wpAny _ _ (field (.ref it) 0 >>= _) _ _ s;refine wpAny_bind (wpAny_field h1 h3 (x:=.ref t) rfl ?_)
 show wpAny _ _ (if(Value.ref t==Value.none)=true then _ else _) _ _ s;rw[if_neg (show ¬ ((Value.ref t==Value.none)=true) from Bool.false_ne_true)]
 show wpAny _ _ (field (.ref it) 1 >>= _) _ _ s;refine wpAny_bind (wpAny_field h1 h3 (x:=.int i 0) rfl ?_)
 show wpAny _ _ (seqItems? (.ref t) >>= _) _ _ s;refine wpAny_bind (wpAny_seqItems g1 g3 ?_)
 simp only[Int.toNat_natCast,hx]
 refine wpAny_bind (wpAny_rule (wpAny_bind (wpAny_setField h1 h3 (by simp) ?_)));show wpAny _ _ (newExc (.type "StopIteration") [] >>= _) _ _ _
 refine wpAny_bind ?_;simp only[newExc,newTuple]
 refine wpAny_bind (wpAny_newObj_type ?_ (by size_fits));refine wpAny_bind (m:=firstArgMember _ _) (wpAny_of_eq (a:=Value.none) (by first|rfl|(simp only[firstArgMember];rfl)) ?_)
 refine wpAny_newObj_type ?_ (by size_fits);simp only[raiseNew]
 refine wpAny_bind (wpAny_handled ?_);first|rw[show A.in1.handled=none from hh]|rw[hh]
 refine wpAny_bind (wpAny_pure (wpAny_throw (hE _ _ (((SameBut.update ..).extBut.push _).push _) ⟨_,get?_push_size _ rfl,rfl⟩)))
theorem TX(hh:A.handled=none)(it t:Addr)(hne:t≠it)(items:Array Value):Draws prog w A it [it,t] items.size (λi v=>items[i]? =some v) (λi h=>h.IsTupleIter it t i/\h.IsTuple t items) where
 live:=λ_ _ st=>let ⟨o,ho,_⟩:=st.1;⟨o,ho⟩
 frame:=λ_ _ _ st hk=>⟨let ⟨o,e,r⟩:=st.1;⟨o,hk it (by simp) o e,r⟩,let ⟨o,e,r⟩:=st.2;⟨o,hk t (by simp) o e,r⟩⟩
 item:=λi s Q E hi st hQ=>QC st.1 st.2 (x:=items[i]) (by simp[hi]) λh' z hs=>hQ _ h' s.toks (by simp[hi]) ⟨z,let ⟨o,e,r⟩:=st.2;⟨o,hs.extBut _ _ hne e,r⟩⟩ hs
 done:=λs Q E st hE=>GI hh st.1 st.2 (by simp) hE
structure ZA(z TI TO i1 i2:Addr)(f1 f2:List Addr):Prop where
 a1:TI≠z
 a2:TO≠z
 a3:TI≠TO
 m1:i1∈f1
 m2:i2∈f2
 z1:z∉f1
 z2:z∉f2
 o1:TO∉f1
 o2:TO∉f2
 t1:TI∉f1
 t2:TI∉f2
 x1:i2∉f1
 x2:i1∉f2
variable{z i1 i2:Addr}{k:Nat}{a b:Value}
section
variable {TI TO:Addr}{f1 f2:List Addr}{n1 n2:Nat}{P1 P2:Nat->Value->Prop}{S1 S2:Nat->Heap->Prop}
end
def IsSq(tup:Bool)(h:Heap)(l:Addr)(xs:Array Value):Prop:=match tup with
 |true=>h.IsTuple l xs
 |false=>h.IsList l xs
def D7(tup:Bool)(l:Addr):Obj:=match tup with
 |true=> {cls:=.type "tuple_iterator",data:=.fields #[.ref l,.int 0 0]}
 |false=> {cls:=.type "list_iterator",data:=.fields #[.ref l,.int 0 0]}
def SqI(tup:Bool)(h:Heap)(i l:Addr)(k:Nat):Prop:=match tup with
 |true=>h.IsTupleIter i l k
 |false=>h.IsListIter i l k
variable{i l:Addr}{h':Heap}
theorem SqI.at'{tup:Bool}{h:Heap}(q:SqI tup h i l k)(f:∀ o,h.get? i=some o->h'.get? i=some o):SqI tup h' i l k:=by
 cases tup with
 |true=>obtain⟨o,e,r⟩:=q;exact⟨o,f o e,r⟩
 |false=>obtain⟨o,e,r⟩:=q;exact⟨o,f o e,r⟩
theorem SqI.rec{tup:Bool}{h:Heap}(q:SqI tup h i l k):∃ o vs,h.get? i=some o/\o.data=.fields vs:=by
 cases tup with
 |true=>obtain⟨o,e,_,r⟩:=q;exact⟨o,_,e,r⟩
 |false=>obtain⟨o,e,_,r⟩:=q;exact⟨o,_,e,r⟩
variable{xs:Array Value}
theorem IsSq.lt{tup:Bool}{h:Heap}(q:IsSq tup h l xs):l<h.objs.size:=by
 cases tup with
 |true=>obtain⟨o,e,_⟩:=q;exact lt_size e
 |false=>obtain⟨o,e,_⟩:=q;exact lt_size e
theorem TK(hh:A.handled=none)(tup:Bool)(it l:Addr)(hne:l≠it)(xs:Array Value):Draws prog w A it [it,l] xs.size (λi v=>xs[i]? =some v) (λi h=>SqI tup h it l i/\IsSq tup h l xs):=by
 cases tup with
 |true=>exact TX hh it l hne xs
 |false=>exact Draws.list hh it l hne xs
theorem Py{tup:Bool}(q:IsSq tup s.heap l xs)(h:Q (.ref s.heap.objs.size) {s with heap:=s.heap.push (D7 tup l)}):
  wpAny (model prog w) A (pyIter (.ref l)) Q E s:=by
 cases tup with
 |true=>exact wpAny_pyIter_tuple q h
 |false=>exact wpAny_pyIter_list q h
section
variable {TI TO l1 l2:Addr}{t1 t2:Bool}{ys:Array Value}{y:Value}
end
open PySem.Spec PyProof.Rows L2
def WV(t:Bool)(K:Frag)(H:Hp)(l:Addr)(xs:List V):Prop:=match t with
 |true=>SqT K H l xs
 |false=>SqL K H l xs
variable{xs:List V}{X:Cx}{H:Hp}{t':Nat}{ch:List Addr}
section
variable {pins:List (Addr×Obj)}{σ:L2.St}
theorem JC(I:Inv X pins σ H s){t:Bool}(h:WV t X.K H l xs):∃ its:List Value,Vals xs its/\IsSq t s.heap l its.toArray/\xs.length<=sizeLine:=by
 cases t with
 |true=>obtain⟨its,r,p,z⟩:=I.tuple h;exact⟨its,r,p,z⟩
 |false=>obtain⟨its,r,p,z⟩:=I.list h;exact⟨its,r,p.isList,z⟩
theorem KC(I:Inv X pins σ H s){t:Bool}{ys:List V}(h:WV t X.K H l xs)(h':WV t X.K H l ys):xs=ys:=by
 cases t with
 |true=>exact I.tuple_inj h h'
 |false=>exact I.list_inj h h'
theorem SH{n:Addr}{its:List Value}(I:Inv X pins σ H s)(hf:∀ b∈ch,Mn X pins H b)(k:∀ b o,b∉ch->s.heap.get? b=some o->h'.get? b=some o)(hn:s.heap.objs.size<=n)(r:Vals xs its)(hz:xs.length<=sizeLine)(new:IsTup h' n its.toArray):Inv X pins σ (Ib H n (.tup xs)) {s with heap:=h',toks:=t'}:=by
 have hfree:=I.hok.fresh hn
 have nch:∀ b u,H b=some u->b∉ch:=λb u e m=>by rw[(hf b m).1]at e;cases e
 have nn:∀ b o,s.heap.get? b=some o->b≠n:=λb o e=>ne_of_lt (lt_of_lt_of_le (lt_size e) hn)
 refine I.step (g':=s.gens) (d':=s.drawn) (ch:=ch) (λb hb=>⟨(hf b hb).2.2.2.1,(hf b hb).2.1,(hf b hb).2.2.2.2.1,(hf b hb).2.2.2.2.2⟩) (λb o _ _ hc e _=>k b o hc e) (λb o _ _ hc e _=>⟨o.slots,k b o hc e⟩)
  (λb o hc e q=>by rw[Ea (nn b o e)];exact q) (λb o hc e=>⟨o,k b o hc e⟩) (λb ys e=>by rw[Ea (Pa e hfree)];exact e) (λb o u e=>by rw[Ea (Pa e hfree)];exact e)
  (λb ps e=>⟨#[],by rw[Ea (Pa e hfree),e];simp⟩) (λm hm=>?_) (λb u e=>?_) I.bare
 .obtain⟨o,es,ep,ho,q⟩:=hm
  exact⟨o,es,ep,k _ o (λz=>(hf _ z).2.1 rfl) ho,q⟩
 .by_cases hb:b=n
  .subst hb
   rw[Ra]at e;cases e
   exact⟨hz,its,r,new⟩
  .rw[Ea hb]at e
   refine(I.hok b u e).stay (λc v hc q=>k c v ?_ q) (λc q=>by rw[Ea (Pa q hfree)];exact q) λc ys q=>by rw[Ea (Pa q hfree)];exact q
   rcases hc with z|z
   .rw[z];exact nch b u e
   .exact nch c _ z
theorem TH(I:Inv X pins σ H s)(hf:∀ b∈ch,Mn X pins H b)(k:∀ b o,b∉ch->s.heap.get? b=some o->h'.get? b=some o):Inv X pins σ H {s with heap:=h',toks:=t'}:=by
 have nch:∀ b u,H b=some u->b∉ch:=λb u e m=>by rw[(hf b m).1]at e;cases e
 refine I.step (g':=s.gens) (d':=s.drawn) (ch:=ch) (λb hb=>⟨(hf b hb).2.2.2.1,(hf b hb).2.1,(hf b hb).2.2.2.2.1,(hf b hb).2.2.2.2.2⟩) (λb o _ _ hc e _=>k b o hc e) (λb o _ _ hc e _=>⟨o.slots,k b o hc e⟩)
  (λ_ _ _ _ q=>q) (λb o hc e=>⟨o,k b o hc e⟩) (λ_ _ e=>e) (λ_ _ _ e=>e) (λb ps e=>⟨#[],by rw[e];simp⟩) (λm hm=>?_) (λb u e=>?_) I.bare
 .obtain⟨o,es,ep,ho,q⟩:=hm
  exact⟨o,es,ep,k _ o (λz=>(hf _ z).2.1 rfl) ho,q⟩
 .refine(I.hok b u e).stay (λc v hc q=>k c v ?_ q) (λ_ q=>q) λ_ _ q=>q
  rcases hc with z|z
  .rw[z];exact nch b u e
  .exact nch c _ z
end
variable{a b:Expr}{xw:XW}{pos:Pos}{K:Frag}
section
variable {elts:List Expr}{kt:Nat}{pt p:Pos}{fs:Ga->Res (List D)}
def DM:D->Option (List D)
 | .tup ds=>some ds
 | .lst ds=>some ds
 |_=>none
theorem M2{W:WS}{d:D}{v:V}{ds:List D}(w:WL W H)(h:Has K W H d v)(e:DM d=some ds):
  ∃ t l xs,v=.ref l/\HasL K W H ds xs/\∀ W' H2,Step W H W' H2->WV t K H2 l xs:=by
 cases d with
 |tup es=>
  cases e
  rw[Has]at h
  obtain⟨a,xs,e1,sq,r⟩:=h
  exact⟨true,a,xs,e1,r,λW' H2 k=>Wt k.keep w sq⟩
 |lst es=>
  cases e
  rw[Has]at h
  obtain⟨a,xs,e1,sq,r⟩:=h
  exact⟨false,a,xs,e1,r,λW' H2 k=>(sq.keep k.keep w k.new).sq⟩
 |_=>cases e
end
variable{i:Int}{α:Type}
section
variable {β:Type}
theorem Cb(a:α)(k:α->Out):Wk (.ok a) k=k a:=rfl
theorem Zs(c:Str)(fs:List D)(k:α->Out):Wk (.ex c fs) k=.ex c fs:=rfl
theorem Uj(k:α->Out):Wk .stuck k=.stuck:=rfl
theorem Ma(δ:Ga)(g:Ga->Out):Tt (.nx δ) g=g δ:=rfl
theorem Rh(d:D)(g:Ga->Out):Tt (.rt d) g=.rt d:=rfl
theorem seqO_ex(c:Str)(fs:List D)(g:Ga->Out):Tt (.ex c fs) g=.ex c fs:=rfl
theorem Ui(g:Ga->Out):Tt .stuck g=.stuck:=rfl
theorem Hk(c:Bool)(a b:Out):A7 (.ok c) a b=if c=true then a else b:=rfl
theorem Aj(c:Bool)(y:Res Bool):MW (.ok c) y=if c=true then y else .ok false:=rfl
theorem Td(c:Bool)(y:Res Bool):S8 (.ok c) y=if c=true then .ok true else y:=rfl
theorem Gi(c:Bool)(y:Res D):NW (.ok (.bl c)) y=if c=true then y else .ok (.bl false):=by cases c<;>rfl
theorem Vn(c:Bool)(y:Res D):T8 (.ok (.bl c)) y=if c=true then .ok (.bl true) else y:=by cases c<;>rfl
theorem Ab(c:Bool):Ho (.bl c)=.ok c:=rfl
theorem Ro(c:Bool):DN (.bl c)=.ok (.bl (!c)):=rfl
theorem Qi(i j:Int):Mm (.int i) (.int j)=.ok (.bl (i==j)):=by simp[Mm,Fe,Zj]
theorem Nl(i j:Int):Px (.int i) (.int j)=.ok (.bl (!(i==j))):=by simp[Px,Fe,Zj]
theorem Es(i j:Bool):Mm (.bl i) (.bl j)=.ok (.bl (i==j)):=by simp[Mm,Fe,Zj]
theorem Ll(i j:Int):EQ (.int i) (.int j)=.ok (.bl (decide (i<j))):=rfl
theorem Kl(i j:Int):Qv (.int i) (.int j)=.ok (.bl (decide (i<=j))):=rfl
theorem Rn(i j:Int):BW (.int i) (.int j)=.ok (.bl (decide (j<i))):=rfl
theorem Qp(i j:Int):OY (.int i) (.int j)=.ok (.bl (decide (j<=i))):=rfl
theorem Ph(i j:Int):Gb (.int i) (.int j)=.ok (.int (i+j)):=rfl
theorem MQ(xs ys:List D):Gb (.tup xs) (.tup ys)=@ite (Res D) (xs.length+ys.length<=sizeLine) (propDecidable _) (.ok (.tup (xs++ys))) .stuck:=rfl
theorem Mi(xs ys:List D)(h:xs.length+ys.length<=1000):Gb (.tup xs) (.tup ys)=.ok (.tup (xs++ys)):=by
 rw[MQ,if_pos (le_trans h Jl)]
theorem Bp(i j:Int):WO (.int i) (.int j)=.ok (.int (i-j)):=rfl
theorem Vs(i:Int):R8 (.int i)=.ok (.int (-i)):=rfl
theorem Em(i j:Int):Dh (.int i) (.int j)=@ite (Res D) (0<j) (propDecidable _) (.ok (.int (i%j))) .stuck:=rfl
theorem Lj(i j:Int):Um (.int i) (.int j)=@ite (Res D) (0<j/\j<1073741824) (propDecidable _) (.ok (.int (i / j))) .stuck:=rfl
theorem Po(i j:Int):O8 [.int i,.int j]=.ok (.int (max i j)):=rfl
theorem Qo(i j:Int):P8 [.int i,.int j]=.ok (.int (min i j)):=rfl
theorem Wr(i:Int):V7 (.int i)=.ok (.int (if i<0 then -i else i)):=rfl
theorem Up(ds:List D):Pc (.tup ds)=.ok (.int ds.length):=rfl
theorem Af(ds:List D):Pc (.lst ds)=.ok (.int ds.length):=rfl
theorem Zp(ds:List D):Ei (.tup ds)=.ok ds:=rfl
theorem Lk(ds:List D):Ei (.lst ds)=.ok ds:=rfl
theorem Xl(ds:List D):Ao (.tup ds)=.ok (.tup ds):=rfl
theorem Wl(ds:List D):Ao (.lst ds)=.ok (.tup ds):=rfl
theorem Ce(i:Int):Ue (.int i)=.ok (some i):=rfl
theorem Oa(d:D)(ds:List D):JE (.ok d) (.ok ds)=.ok (d::ds):=rfl
theorem Fm(a:α):noex (.ok a)=.ok a:=rfl
theorem GB(ds:List D)(lo hi:Option Int):slD (.lst ds) lo hi=.ok (.lst (cutD ds lo hi)):=rfl
theorem Va(x:D)(l:Ga):Qa 0 (some (.d x)::l)=.ok x:=rfl
theorem Ob(n:Nat)(a:Option S)(l:Ga):Qa (n+1) (a::l)=Qa n l:=by simp[Qa]
theorem Na(x:D)(l:Ga):Ca 0 (some (.d x)::l)=.ok x:=rfl
theorem Uf(x:List D)(l:Ga):Ca 0 (some (.o x)::l)=.ok (.lst x):=rfl
theorem Kb(n:Nat)(a:Option S)(l:Ga):Ca (n+1) (a::l)=Ca n l:=by simp[Ca]
theorem Eb(n:Nat)(m:List D->Res D)(ds:List D)(d:D)(h:m ds=.ok d)(hn:ds.length=n):La n m ds=.ok d:=by
 unfold La;rw[if_pos hn,h];rfl
theorem Rq(ds:List D)(i:Int)(d:D)(h:Lw ds i=some d):Ae (.lst ds) (.int i)=.ok d:=by show(match Lw ds i with|some d=>Res.ok d|none=>Res.stuck)=_;rw[h]
theorem Kr{xs:List α}{d:α}(h0:0<=i)(h:xs[i.toNat]? =some d):Lw xs i=some d:=by
 have hl:=(List.getElem?_eq_some_iff.mp h).1
 unfold Lw ZY
 rw[if_pos h0,if_pos (by omega)]
 exact h
theorem PB{xs:List α}(h0:0<=i)(h1:i<xs.length):∃ d,Lw xs i=some d/\d∈xs:=by
 have hl:i.toNat<xs.length:=by omega
 exact⟨xs[i.toNat],Kr h0 (getElem?_eq_getElem hl),getElem_mem hl⟩
end
section
variable {t:D->Ga->Res Ga}{body:Ga->Out}
theorem Pp(d:D)(ds:List D)(δ δ':Ga)(h:t d δ= .ok δ'):Xf t body (d::ds) δ=(match body δ' with
   | .nx δ2=>Xf t body ds δ2
   | .ct δ2=>Xf t body ds δ2
   | .bk δ2=>.nx δ2
   | .rt d=>.rt d
   | .ex c fs=>.ex c fs
   | .stuck=>.stuck):=by
 rw[Xf,h]
 first|done|rfl|dsimp only
end
variable{fe:Ga->Res D}
section
variable {c:Ga->Res Bool}
theorem Bs(t:D->Ga->Res Ga)(d:D)(ds:List D)(δ δ':Ga)(h:t d δ= .ok δ'):Kg t c fe (d::ds) δ=((noex (c δ')).bind λk=>if k=true then(noex (fe δ')).bind λx=>(Kg t c fe ds δ').bind λr=>.ok (x::r) else Kg t c fe ds δ'):=by
 rw[Kg]
 rw[h]
theorem Qq(p:D->Bool)(f:D->D)(δ:Ga):∀ (ds:List D) (x:Option S),(∀ d∈ds,c (some (.d d)::δ)=.ok (p d)/\(p d=true->fe (some (.d d)::δ)=.ok (f d)))->Kg (Yc 0) c fe ds (x::δ)=.ok ((ds.filter p).map f)
 | [],_,_=>rfl
 |d::ds,x,h=>by
  obtain⟨h1,h2⟩:=h d mem_cons_self
  rw[Bs (Yc 0) d ds (x::δ) (some (.d d)::δ) rfl,h1]
  have ih:=Qq p f δ ds (some (.d d)) λy hy=>h y (mem_cons_of_mem _ hy)
  rw[ih]
  cases hp:p d with
  |false=>rw[List.filter_cons_of_neg (by rw[hp];exact Bool.false_ne_true)];rfl
  |true=>rw[List.filter_cons_of_pos hp,h2 hp];rfl
theorem He(f:D->D)(δ:Ga)(ds:List D)(x:Option S)(h:∀ d∈ds,fe (some (.d d)::δ)=.ok (f d)):Kg (Yc 0) (λ_=>.ok true) fe ds (x::δ)=.ok (ds.map f):=by
 rw[Qq (λ_=>true) f δ ds x λd hd=>⟨rfl,λ_=>h d hd⟩]
 rw[List.filter_eq_self.mpr λ_ _=>rfl]
end
theorem Uy(f:α->Bool)(xs:List α):Mb (xs.map λx=>D.bl (f x))=some (xs.map f):=by
 induction xs with
 |nil=>rfl
 |cons x xs ih=>simp[Mb,ih]
theorem Xr(f:α->Bool)(xs:List α):On (.lst (xs.map λx=>D.bl (f x)))=.ok (.bl (xs.all f)):=by
 show(match Mb (xs.map λx=>D.bl (f x)) with|some bs=>Res.ok (D.bl (bs.all id))|none=>Res.stuck)=_
 rw[Uy]
 simp[all_map]
theorem FP(i:Str):(Au (.str i)=none)=False:=by simp[Au]
def isI:D->Bool
 | .int _=>true
 |_=>false
def C7:D->Bool
 | .bl _=>true
 |_=>false
def isS:D->Bool
 | .str _=>true
 |_=>false
def isT:D->Bool
 | .tup _=>true
 |_=>false
theorem CM(d:D)(h:Au d≠none):Yd "int" d=.ok (.bl (isI d||C7 d)):=by cases d<;>first|exact absurd rfl h|(simp[Yd,Au,Ks,isI,C7])
theorem VH(d:D)(h:Au d≠none):Yd "bool" d=.ok (.bl (C7 d)):=by cases d<;>first|exact absurd rfl h|(simp[Yd,Au,Ks,C7])
theorem Og(d:D)(h:Au d≠none):Yd "str" d=.ok (.bl (isS d)):=by cases d<;>first|exact absurd rfl h|(simp[Yd,Au,Ks,isS])
theorem Fl(i j k:Int):Oi Qv Qv (.int i) (.int j) (.ok (.int k))=.ok (.bl (decide (i<=j/\j<=k))):=by
 unfold Oi
 rw[Kl]
 by_cases h:i<=j
 .rw[decide_eq_true h]
  show Qv (.int j) (.int k)=_
  rw[Kl];simp[h]
 .rw[decide_eq_false h]
  simp[h,Res.bind]
theorem Pi(i j k:Int):Oi Qv EQ (.int i) (.int j) (.ok (.int k))=.ok (.bl (decide (i<=j/\j<k))):=by
 unfold Oi
 rw[Kl]
 by_cases h:i<=j
 .rw[decide_eq_true h]
  show EQ (.int j) (.int k)=_
  rw[Ll];simp[h]
 .rw[decide_eq_false h]
  simp[h,Res.bind]
def Hl:Out->Res D
 | .rt d=>.ok d
 | .nx _=>.ok .non
 |_=>.stuck
theorem Zb(n:Nat)(g:Ga->Out)(ds:List D):Df n g ds=Hl (g (Qb n ds)):=by
 unfold Df Hl
 cases g (Qb n ds)<;>rfl
theorem Yb(d:D):Hl (.rt d)=.ok d:=rfl
theorem Ko(δ:Ga):Hl (.nx δ)=.ok .non:=rfl
theorem cutD_to(xs:List D)(n:Nat):cutD xs none (some (n:Int))=xs.take n:=by
 unfold cutD
 rw[HT.sIx_nat]
 show(xs.drop 0).take (min n xs.length-0)=_
 rw[List.drop_zero,Nat.sub_zero,List.take_eq_take_iff]
 omega
open SeqAt
structure XE(X:Cx)(xw:XW)(e:Expr)(f:Ga->Res D):Prop where
 h:DE X xw e f
structure XP(X:Cx)(xw:XW)(e:Expr)(f:Ga->Res D):Prop where
 h:DP X xw e f
structure XF(X:Cx)(xw:XW)(e:Expr)(f:Ga->Res (List D)):Prop where
 h:DF X xw e f
structure XT(X:Cx)(xw:XW)(e:Expr)(f:Ga->Res Bool):Prop where
 h:DT X xw e f
structure XW'(X:Cx)(xw:XW)(e:Expr)(f:Ga->Res Bool):Prop where
 h:DW X xw e f
structure XA(X:Cx)(xw:XW)(e:List Expr)(f:Ga->Res (List D)):Prop where
 h:DA X xw e f
structure XO(X:Cx)(xw:XW)(e:Option Expr)(f:Ga->Res (Option Int)):Prop where
 h:DO X xw e f
structure XG(X:Cx)(e:Expr)(f:D->Ga->Res Ga):Prop where
 h:DG X e f
structure XGs(X:Cx)(e:List Expr)(f:List D->Ga->Res Ga):Prop where
 h:N3 X e f
structure XTs(X:Cx)(e:List Expr)(f:Ga->Res Bool):Prop where
 h:M7 X e f
structure XS(X:Cx)(xw:XW)(e:Stmt)(f:Ga->Out):Prop where
 h:DS X xw e f
structure XSs(X:Cx)(xw:XW)(e:List Stmt)(f:Ga->Out):Prop where
 h:CQ X xw e f
structure XI(X:Cx)(xw:XW)(tg e:Expr)(f:Ga->Res (List D)):Prop where
 h:DI X xw tg e f
variable{x:Str}{n:Nat}{st:Stmt}{g:Ga->Out}{tgs:List Expr}{ts:List D->Ga->Res Ga}{o o':CmpOp}{op op':D->D->Res D}{pos':Pos}
section
variable {e c:Expr}{f fa fb fc:Ga->Res D}{p p2:Pos}{sts as bs:List Stmt}{tg iter elt:Expr}{t:D->Ga->Res Ga}{fs:Ga->Res (List D)}{es rest:List Expr}{ga gb gc:Ga->Res Bool}{g1 g2:Ga->Out}{lo hi:Option Expr}{fl fh:Ga->Res (Option Int)}{fi:Ga->Res (List D)}{scope:Scope}{ifs:List Expr}
theorem Fb(i:Nat)(hN:X.N[i]? =some x:=by rfl)(hv:Jw X.env.scope x:=by first|exact Or.inl rfl|exact Or.inr (Or.inl rfl)|exact Or.inr (Or.inr rfl))(hd:(x==("__debug__":Str))=false:=by decide)(hcd:(x==("__classdict__":Str))=false:=by decide):XE X xw (.Name x pos) (Qa i):=⟨NX i hN hv hd hcd⟩
theorem Ha(i:Nat)(hN:X.N[i]? =some x:=by rfl)(hv:Jw X.env.scope x:=by first|exact Or.inl rfl|exact Or.inr (Or.inl rfl)|exact Or.inr (Or.inr rfl))(hd:(x==("__debug__":Str))=false:=by decide)(hcd:(x==("__classdict__":Str))=false:=by decide):XP X xw (.Name x pos) (Ca i):=⟨SX i hN hv hd hcd⟩
theorem Fa(h:XE X xw e f):XP X xw e f:=⟨DE.p h.h⟩
theorem Lm(hm:∃ t,X.mg x=some (.int i t))(hg:Gl X x:=by rfl)(hdb:(x==("__debug__":Str))=false:=by decide):XE X xw (.Name x pos) (kD (.int i)):=⟨MK hm hg hdb⟩
theorem IG{y:Str}(hm:∃ t,X.mg x=some (.str y t))(hg:Gl X x:=by rfl)(hdb:(x==("__debug__":Str))=false:=by decide):XE X xw (.Name x pos) (kD (.str y)):=⟨NK hm hg hdb⟩
theorem Ar{op}(h:XE X xw a fa):XE X xw (.BoolOp op [a] pos) fa:=⟨HX h.h⟩
theorem T2(ha:XT X xw a ga):XW' X xw (.BoolOp .And [a] pos) ga:=⟨NR ha.h⟩
theorem Ln(ha:XT X xw a ga):XW' X xw (.BoolOp .Or [a] pos) ga:=⟨CY ha.h⟩
theorem AQ(h:XW' X xw e ga):XT X xw e ga:=⟨DW.t h.h⟩
theorem Hz(hm:X.mg "list"=none)(ha:XP X xw a fa)(hg:Gl X "list":=by rfl)(he:starEach [a] X.env=(false,eval a X.env)::starEach [] X.env:=by rfl)(hpl:(backTo pos (starEach [] X.env)).any (·.1)=false:=by rfl):
  XF X xw (.Call (.Name "list" p) [a] [] pos) (b1 Ei fa):=⟨GH hm ha.h hg he hpl⟩
theorem OV(hm:X.mg "tuple"=none)(ha:XP X xw a fa)(hg:Gl X "tuple":=by rfl)(he:starEach [a] X.env=(false,eval a X.env)::starEach [] X.env:=by rfl)(hpl:(backTo pos (starEach [] X.env)).any (·.1)=false:=by rfl):
  XE X xw (.Call (.Name "tuple" p) [a] [] pos) (b1 Ao fa):=⟨PK hm ha.h hg he hpl⟩
theorem Xm(h:XE X xw e f):XI X xw tg e (b1 Ei f):=⟨RX h.h⟩
theorem Ye(i:Nat)(hN:X.N.Nodup)(hi:X.N[i]? =some x:=by rfl)(hx:UJ X.env.scope x:=by first|exact Or.inl rfl|exact Or.inr rfl)(hf:X.fn x=true\/X.env.scope.names.lookup x=some .local:=by first|exact .inl rfl|exact .inr rfl|assumption):
  XG X (.Name x pos) (Yc i):=⟨DR i hN hi hx hf⟩
theorem ZV:XGs X [] Yq:=⟨ER⟩
theorem Bx(h1:XG X tg t)(h2:XGs X tgs ts)(hs:(assignEach (tg::tgs) X.env).map (·.2)=assign tg X.env::(assignEach tgs X.env).map (·.2):=by rfl):XGs X (tg::tgs) (Nh t ts):=⟨QK h1.h h2.h hs⟩
theorem AW(hc:X.calm=true)(h:XGs X tgs ts)(hn:(assignEach tgs X.env).length=n:=by rfl)(hst:(assignEach tgs X.env).findIdx? (·.1)=none:=by rfl):XG X (.Tuple tgs k pos) (Zq n ts):=⟨QX hc h.h hn hst⟩
theorem Vl:XTs X [] (λ_=>.ok true):=⟨MR⟩
theorem Jc:XSs X xw [] .nx:=⟨JR⟩
theorem Ya(h1:XS X xw st g1):XSs X xw [st] g1:=⟨KR h1.h⟩
theorem Wa{j}:XE X xw (.Constant (.int i) j pos) (kD (.int i)):=⟨AX⟩
theorem AE{i:Bool}{j}:XE X xw (.Constant (.bool i) j pos) (kD (.bl i)):=⟨F4⟩
theorem Ia{i:Str}{j}:XE X xw (.Constant (.str i) j pos) (kD (.str i)):=⟨JX⟩
theorem Zl{j}:XE X xw (.Constant .none j pos) (kD .non):=⟨FX⟩
theorem Za(ha:XP X xw a fa)(hb:XP X xw b fb):XE X xw (.BinOp a .Add b pos) (b2 Gb fa fb):=⟨VW ha.h hb.h⟩
theorem R6(ha:XP X xw a fa)(hb:XP X xw b fb):XE X xw (.BinOp a .Sub b pos) (b2 WO fa fb):=⟨LX ha.h hb.h⟩
theorem Xi(ha:XP X xw a fa)(hb:XP X xw b fb):XE X xw (.BinOp a .Mod b pos) (b2 Dh fa fb):=⟨EX ha.h hb.h⟩
theorem Eu(ha:XP X xw a fa)(hb:XP X xw b fb):XE X xw (.BinOp a .FloorDiv b pos) (b2 Um fa fb):=⟨AR ha.h hb.h⟩
theorem Q6(ha:XP X xw a fa)(hb:XP X xw b fb):XE X xw (.BinOp a .Pow b pos) (b2 XN fa fb):=⟨IX ha.h hb.h⟩
theorem O6(ha:XE X xw a fa):XE X xw (.UnaryOp .Not a pos) (b1 DN fa):=⟨GX ha.h⟩
theorem Ew(ha:XE X xw a fa)(hb:XE X xw (.BoolOp .And (b::rest) pos) fb):XE X xw (.BoolOp .And (a::b::rest) pos) (Yl fa fb):=⟨YW ha.h hb.h⟩
theorem P6(ha:XE X xw a fa)(hb:XE X xw (.BoolOp .Or (b::rest) pos) fb):XE X xw (.BoolOp .Or (a::b::rest) pos) (HQ fa fb):=⟨K4 ha.h hb.h⟩
theorem Du(hc:CmpR X xw o op)(ha:XP X xw a fa)(hb:XP X xw b fb):XE X xw (.Compare a [o] [b] pos) (b2 op fa fb):=⟨ZW hc ha.h hb.h⟩
theorem Uk(hc:CmpR X xw o op)(ha:XP X xw a fa)(hb:XP X xw b fb):XT X xw (.Compare a [o] [b] pos) (tR (b2 op fa fb)):=⟨YX hc ha.h hb.h⟩
theorem Ry(hc:CmpR X xw o op)(hc':CmpR X xw o' op')(ha:XP X xw a fa)(hb:XP X xw b fb)(hcc:XP X xw c fc)(hm:lastMarks [o,o'] [b,c]=false:=by with_unfolding_all rfl):
  XE X xw (.Compare a [o,o'] [b,c] pos) (NG op op' fa fb fc):=⟨LK hc hc' ha.h hb.h hcc.h hm⟩
theorem Sy(hc:CmpR X xw o op)(hc':CmpR X xw o' op')(ha:XP X xw a fa)(hb:XP X xw b fb)(hcc:XP X xw c fc)(hm:lastMarks [o,o'] [b,c]=false:=by with_unfolding_all rfl):
  XT X xw (.Compare a [o,o'] [b,c] pos) (tR (NG op op' fa fb fc)):=⟨YK hc hc' ha.h hb.h hcc.h hm⟩
theorem V6{j pos'}(ha:XP X xw a fa):XT X xw (.Compare a [.Is] [.Constant .none j pos'] pos) (tR (b1 Er fa)):=⟨ZX ha.h⟩
theorem Vg(h:XE X xw e f)(he:∀ whole,isTrue e X.env whole=(do let v <-whole;standAt e.pos;holding [v] (truthy v)):=by intro _;rfl):XT X xw e (tR f):=⟨DE.t h.h he⟩
theorem Xh(ha:XT X xw a ga):XT X xw (.UnaryOp .Not a pos) (Cc ga):=⟨AY ha.h⟩
theorem M6(ha:XT X xw a ga)(hb:XW' X xw (.BoolOp .And (b::rest) pos) gb):XW' X xw (.BoolOp .And (a::b::rest) pos) (Jn ga gb):=⟨BY ha.h hb.h⟩
theorem Cu(ha:XT X xw a ga)(hb:XW' X xw (.BoolOp .Or (b::rest) pos) gb):XW' X xw (.BoolOp .Or (a::b::rest) pos) (Xe ga gb):=⟨N4 ha.h hb.h⟩
theorem Ea0(hc:XT X xw c ga)(ha:XE X xw a fa)(hb:XE X xw b fb):XE X xw (.IfExp c a b pos) (GQ ga fa fb):=⟨G4 hc.h ha.h hb.h⟩
theorem Ua:XA X xw [] Ka:=⟨UW⟩
theorem Ba(ha:XE X xw a fa)(hr:XA X xw es fs)(hs:starEach (a::es) X.env=(false,eval a X.env)::starEach es X.env:=by rfl):XA X xw (a::es) (Aa fa fs):=⟨WQ ha.h hr.h hs⟩
theorem UP{x1}(h:XA X xw es fs):XE X xw (.Tuple es x1 pos) (b1 Zn fs):=⟨MX h.h⟩
theorem Te(h:XA X xw es fs):XF X xw (.List es pos) (b1 Sc fs):=⟨OX h.h⟩
theorem Ac(h:XF X xw e fs):XE X xw e (Zc fs):=⟨DF.de h.h⟩
theorem Qf(ha:XP X xw a fa)(hb:XP X xw b fb)(hs:Oh b:=by intro _ _;rfl):XE X xw (.Subscript a b pos) (b2 Ae fa fb):=⟨J4 ha.h hb.h hs⟩
theorem Kk:XO X xw none Vc:=⟨GR⟩
theorem Ti(h:XE X xw e f):XO X xw (some e) (b1 Ue f):=⟨HR h.h⟩
theorem Fs(ha:XP X xw a fa)(hl:XO X xw lo fl)(hh:XO X xw hi fh):XF X xw (.Subscript a (.Slice lo hi none p2) pos) (b3 Vr fa fl fh):=⟨PX ha.h hl.h hh.h⟩
theorem Wg(hm:X.mg "len"=none)(ha:XP X xw a fa)(hg:Gl X "len":=by rfl)(he:starEach [a] X.env=(false,eval a X.env)::starEach [] X.env:=by rfl)(hpl:(backTo pos (starEach [] X.env)).any (·.1)=false:=by rfl):
  XE X xw (.Call (.Name "len" p) [a] [] pos) (b1 Pc fa):=⟨DX hm ha.h hg he hpl⟩
theorem CG(hc:X.calm=true)(hm:X.mg "all"=none)(ha:XP X xw a fa)(hg:Gl X "all":=by rfl)(he:starEach [a] X.env=(false,eval a X.env)::starEach [] X.env:=by rfl)(hpl:(backTo pos (starEach [] X.env)).any (·.1)=false:=by rfl):
  XE X xw (.Call (.Name "all" p) [a] [] pos) (b1 On fa):=⟨WW hc hm ha.h hg he hpl⟩
theorem Ip{C:String}{c:Str}{p2:Pos}(hC:Ls C)(hbc:bootBuiltins c=some (.type C))(hm:X.mg "isinstance"=none)(hmc:X.mg c=none)(ha:XP X xw a fa)(hg:Gl X "isinstance":=by rfl)(hgc:Gl X c:=by rfl)(hcn:c≠"__name__":=by decide)(hcd:(c==("__debug__":Str))=false:=by decide)(he:starEach [a, .Name c p2] X.env=(false,eval a X.env)::starEach [.Name c p2] X.env:=by rfl)(he2:starEach [.Name c p2] X.env=(false,eval (.Name c p2) X.env)::starEach [] X.env:=by rfl)(hpl:(backTo pos (starEach [.Name c p2] X.env)).any (·.1)=false:=by rfl):
  XE X xw (.Call (.Name "isinstance" p) [a, .Name c p2] [] pos) (b1 (Yd C) fa):=⟨BX hC hbc hm hmc ha.h hg hgc hcn hcd he he2 hpl⟩
theorem Ub{m:List D->Res D}(F:Fn X.prog X.w X.K X.mg X.base k x n m)(hr:Room k X.A)(ha:XA X xw (a::es) fs)(hg:Gl X x:=by rfl)(hdb:(x==("__debug__":Str))=false:=by decide)(he:starEach (a::es) X.env=(false,eval a X.env)::starEach es X.env:=by rfl)(hpl:(backTo pos (starEach es X.env)).any (·.1)=false:=by rfl):
  XE X xw (.Call (.Name x p) (a::es) [] pos) (b1 (La n m) fs):=⟨ZQ F hr ha.h hg hdb he hpl⟩
theorem Ri(Nc Nx:List Str)(c:CompOk X scope Nc Nx)(hcalm:X.calm=true)(hi:XI X xw tg iter fi)(hY:∀ (C:Addr) (fp:List Addr) (pins:List (Addr×Obj)) (s:Shared) (H:Hp),XG (Ad X scope Nc Nx C fp pins s H) tg t/\XTs (Ad X scope Nc Nx C fp pins s H) ifs gc/\XE (Ad X scope Nc Nx C fp pins s H) Jq elt fe)(hs:∀ x,foldedSetIterable iter X.env x=pure x:=by intro _;rfl):
  XF X xw (.ListComp elt [⟨tg,iter,ifs,0⟩] scope pos) (Xd Nc.length t gc fe fi):=⟨BR Nc Nx c hcalm hi.h (λC fp pins s H=>⟨(hY C fp pins s H).1.h,(hY C fp pins s H).2.1.h,(hY C fp pins s H).2.2.h⟩) hs⟩
theorem Js(hm:X.mg "range"=none)(ha:XA X xw [a] fs)(hg:Gl X "range":=by rfl)(hs:starEach [a] X.env= [(false,eval a X.env)]:=by rfl):XI X xw tg (.Call (.Name "range" p) [a] [] pos) (b1 Ol fs):=⟨IH hm ha.h hg hs⟩
theorem Ja(h1:XS X xw st g1)(h2:XSs X xw sts g2):XSs X xw (st::sts) (Sa g1 g2):=⟨WK h1.h h2.h⟩
theorem Vb(he:XE X xw e f):XS X xw (.Return (some e) pos) (Pb f):=⟨WX he.h⟩
theorem Y1(i:Nat)(hN:X.N[i]? =some x:=by rfl)(hv:Jw X.env.scope x:=by first|exact Or.inl rfl|exact Or.inr (Or.inl rfl)|exact Or.inr (Or.inr rfl))(hd:(x==("__debug__":Str))=false:=by decide)(hcd:(x==("__classdict__":Str))=false:=by decide):XS X xw (.Return (some (.Name x pos')) pos) (Pb (Ca i)):=⟨IR i hN hv hd hcd⟩
theorem Wc(i:Nat)(hN:X.N.Nodup)(he:XE X xw e f)(hi:X.N[i]? =some x:=by rfl)(hx:UJ X.env.scope x:=by first|exact Or.inl rfl|exact Or.inr rfl)(hs:swapsWith e (some (.Name x pos')) pos.line X.env=pure false:=by rfl)(hf:X.fn x=true\/X.env.scope.names.lookup x=some .local:=by first|exact .inl rfl|exact .inr rfl|assumption):XS X xw (.Assign [.Name x pos'] e pos) (Nb i f):=⟨XX i hN he.h hi hx hs hf⟩
theorem Wh(i:Nat){ff:Ga->Res (List D)}(hN:X.N.Nodup)(he:XF X xw e ff)(hi:X.N[i]? =some x:=by rfl)(hx:UJ X.env.scope x:=by first|exact Or.inl rfl|exact Or.inr rfl)(hs:swapsWith e (some (.Name x pos')) pos.line X.env=pure false:=by rfl)(hf:X.fn x=true\/X.env.scope.names.lookup x=some .local:=by first|exact .inl rfl|exact .inr rfl|assumption):XS X xw (.Assign [.Name x pos'] e pos) (Of i ff):=⟨VX i hN he.h hi hx hs hf⟩
theorem Di(hc:XT X xw c ga)(ha:XSs X xw as g1)(hb:XSs X xw bs g2):XS X xw (.If c as bs pos) (Xj ga g1 g2):=⟨M4 hc.h ha.h hb.h⟩
theorem UF(hp:PassesOwn (model X.prog X.w) X.A X.env X.xe)(hc:X.calm=true)(hi:XI X xw tg iter fi)(hg:XG X tg t)(hb:XSs X xw sts g)(hs:∀ x,foldedSetIterable iter X.env x=pure x:=by intro _;rfl):XS X xw (.For tg iter sts [] pos) (Om t g fi):=⟨UX hp hc hi.h hg.h hb.h hs⟩
theorem Ql(i:Nat){p1 p2 p3:Pos}(he:XE X xw e f)(hN:X.N[i]? =some x:=by rfl)(hv:Jw X.env.scope x:=by first|exact Or.inl rfl|exact Or.inr (Or.inl rfl)|exact Or.inr (Or.inr rfl))(hd:(x==("__debug__":Str))=false:=by decide)(hcd:(x==("__classdict__":Str))=false:=by decide)(hsE:starEach [e] X.env=(false,eval e X.env)::starEach [] X.env:=by rfl)(hbase:attributeBase (.Name x p1) "append" X.env (eval (.Name x p1) X.env)=eval (.Name x p1) X.env:=by rfl)(hfew:((backTo p3 (starEach [e] X.env)).all (λx=> !x.1)&&(backToKw p3 (keywordEach [] X.env)).all (λx=>x.1.isSome)
   &&decide (([e]:List Expr).length+([]:List Keyword).length+(if([]:List Keyword).isEmpty then 0 else 1)<30))=true:=by rfl)(hline:(p2.endLine==p3.line)=true:=by rfl)(hplain:(backTo p3 (starEach [] X.env)).any (·.1)=false:=by rfl)(hsw:swapsWith (.Call (.Attribute (.Name x p1) "append" p2) [e] [] p3) none pos.line X.env=pure false:=by rfl):
  XS X xw (.Expr (.Call (.Attribute (.Name x p1) "append" p2) [e] [] p3) pos) (Xn i f):=⟨JH i he.h hN hv hd hcd hsE hbase hfew hline hplain hsw⟩
end
variable{fa:Addr}{P:Program}{mg:Str->Option Value}{base:Heap}{qual:Str}{fd:FuncData}{N ps:List Str}
theorem Mc(F:Fun K x qual st fa fd)(S:FnScope N ps (Da st))(hm:mg x=some (.ref fa))(hb:Binds K fd ps [])(body:∀ (cdv:Value) (A:Around) (outer:List Env) (s:Shared) (H:Hp) (E:XK),Room k (A.deeper (envOfC qual (Da st) s.heap.objs.size fa cdv))->
   XSs (Vk Co P w K mg base N qual (Da st) fa cdv A outer s H E).nox Jq (Xa st) g):Fn P w K mg base (k+1) x ps.length (Df N.length g):=
 YR F S hm hb λcdv A outer s H E hr=>(body cdv A outer s H E hr).h
theorem KY(F:Fun K x qual st fa fd)(S:FnScope N ps (Da st))(body:∀ (cdv:Value) (A:Around) (outer:List Env) (s:Shared) (H:Hp) (E:XK),Room k (A.deeper (envOfC qual (Da st) s.heap.objs.size fa cdv))->
   XSs (Vk Co P w K mg base N qual (Da st) fa cdv A outer s H E).nox Jq (Xa st) g):FnOk P w K mg base Co (k+1) fa fd ps (K2 K ps.length (Df N.length g)):=
 ML F S λcdv A outer s H E hr=>(body cdv A outer s H E hr).h
end L3
namespace L3
open PySem PySem.Spec PyProof.Rows L2
section
variable {t:D->Ga->Res Ga}{body:Ga->Out}
theorem Ax(I:Nat->Ga->Prop)(ds:List D)(δ:Ga)(hb:∀ i d δ,ds[i]? =some d->I i δ->∃ δ',t d δ= .ok δ'/\∃ δ2,(body δ'=.nx δ2\/body δ'=.ct δ2)/\I (i+1) δ2)(h:I 0 δ):∃ δ2,Xf t body ds δ= .nx δ2/\I ds.length δ2:=by
 induction ds generalizing I δ with
 |nil=>exact⟨δ,rfl,h⟩
 |cons d ds ih=>
  obtain⟨δ',e1,δ2,e2,h2⟩:=hb 0 d δ rfl h
  obtain⟨δ3,e3,h3⟩:=ih (λi=>I (i+1)) δ2 (λi x δ hx hI=>hb (i+1) x δ (by simpa using hx) hI) h2
  refine⟨δ3,?_,h3⟩
  rw[Pp d ds δ δ' e1]
  rcases e2 with e2|e2<;> · rw[e2];exact e3
end
variable{n:Nat}
section
variable {fe:Ga->Res D}{c:Ga->Res Bool}
abbrev un2:D->Ga->Res Ga:=Zq 2 (Nh (Yc 0) (Nh (Yc 1) Yq))
theorem Dd{t:D->Ga->Res Ga}{δ:Ga}{ds r:List D}(h:Kg t c fe ds (replicate n none++δ)=.ok r)(hl:ds.length<=100000):Rf n t c fe δ ds=.ok r:=by
 unfold Rf
 rw[if_pos hl,h];rfl
end
theorem ED(j:Int)(h0:0<=j)(h:j<100000):Ol [.int j]=.ok (Wn 0 j.toNat):=by
 unfold Ol
 simp only
 rw[if_pos (by omega)]
theorem Nt{lo:Int}{i:Nat}{d:D}(h:(Wn lo n)[i]? =some d):i<n/\d=.int (lo+i):=by
 unfold Wn at h
 rw[getElem?_map]at h
 have hi:i<n:=by
  refine Nat.lt_of_not_le λz=>?_
  rw[List.getElem?_eq_none (by simpa using z)]at h;cases h
 rw[List.getElem?_range hi]at h
 exact⟨hi,(Option.some.inj h).symm⟩
theorem Ot(lo:Int)(n:Nat):(Wn lo n).length=n:=by simp[Wn]
theorem Jr(i:Nat)(δ:Ga)(ds:List D)(d:D)(h:δ[i]? =some (some (.o ds)))(hl:ds.length<=100000):OB i δ (.ok d)=.nx (δ.set i (some (.o (ds++ [d])))):=by
 unfold OB
 rw[h]
 show(@ite Out (ds.length<=100000) (propDecidable _) _ _)=_
 rw[if_pos hl];rfl
end L3
namespace L3
open PySem
theorem EV:fillsNumberSlot (.type "tuple") "mul"=pure false:=fillsNumberSlot_seq (id:="tuple.__mul__") (r:=some (.builtin "tuple.__rmul__")) F.slot_tuple_mul.lookup (by decide +kernel) F.slot_tuple_rmul.lookup (by decide +kernel)
theorem O2:seqRepeat? (.type "tuple")=pure (some (.builtin "tuple.__mul__")):=by
 unfold seqRepeat?
 rw[seqSlot_of (T:="tuple") (name:="__mul__") (id:="tuple.__mul__") F.slot_tuple_mul.lookup (by decide +kernel),seqSlot_of (T:="tuple") (name:="__rmul__") (id:="tuple.__rmul__") F.slot_tuple_rmul.lookup (by decide +kernel)];rfl
theorem L6(a:Int)(t:Tok)(l:Addr)(items:Array Value)(n:Nat)(dd:Option Addr)(sl:Array (Option Value)):
  Meets (Builtin.«int.__rmul__» ⟨[.int a t,.ref l],[]⟩) (λ_ R s=>s.heap.get? l=some {cls:=.type "tuple",dict:=dd,data:=.seq items n,slots:=sl}/\R (.ok (.ret Value.notImplemented)) s):=
 .of_wp λprog w A R s h=>by
  obtain⟨hp,g,d,tk,os⟩:=s
  obtain⟨hl,h⟩:=h
  wp_walk
  exact⟨_,rfl,h⟩
theorem N2(l:Addr)(items:Array Value)(n:Nat)(dd:Option Addr)(sl:Array (Option Value))(u:Tok):
  Meets (Builtin.«tuple.__mul__» ⟨[.ref l,.int 1 u],[]⟩) (λ_ R s=>s.heap.get? l=some {cls:=.type "tuple",dict:=dd,data:=.seq items n,slots:=sl}/\R (.ok (.ret (Value.ref l))) s):=
 .of_wp λprog w A R s h=>by
  obtain⟨hp,g,d,tk,os⟩:=s
  obtain⟨hl,h⟩:=h
  wp_walk
  exact⟨_,rfl,h⟩
theorem FV(l:Addr)(items:Array Value)(n:Nat)(dd:Option Addr)(sl:Array (Option Value))(k:Int)(u:Tok)(h0:(decide (k< -2^63)||decide (k>=2^63))=false)(h1:(items.isEmpty||k==1)=false)(h2:(decide (k<=0)||items.isEmpty)=false)(h3:¬ (items.size*k>(2^63-1) / 8))(h4:Builtin.Tuple.tupleTooMany (items.size*k)=false)(h5:((replicate k.toNat items).foldl (· ++ ·) #[]).size<=sizeLine):
  Meets (Builtin.«tuple.__mul__» ⟨[.ref l,.int k u],[]⟩) (λ_ R s=>s.heap.get? l=some {cls:=.type "tuple",dict:=dd,data:=.seq items n,slots:=sl}/\R (.ok (.ret (Value.ref s.heap.objs.size))) {s with heap:=s.heap.push {cls:=.type "tuple",data:=.seq ((replicate k.toNat items).foldl (· ++ ·) #[])}}):=
 .of_wp λprog w A R s h=>by
  obtain⟨hp,g,d,tk,os⟩:=s
  obtain⟨hl,h⟩:=h
  wp_walk
  refine wpAny_ite_false (by rw[h0];rfl) ?_
  wp_walk
  refine wpAny_ite_false (decide_eq_false h3) ?_
  wp_walk
  exact⟨_,rfl,h⟩
open PySem.Spec PyProof.Rows L2 SeqAt
variable{X:Cx}{xw:XW}{a b:Expr}{fa fb:Ga->Res D}{pos:Pos}{K:Frag}{W:WS}{H:Hp}{ds:List D}{k:Nat}
section
variable {p:Pos}
theorem UT:OpR X (binaryOp .Mult) (λx y H Q=>∃ l k xs,x=.ref l/\y=.int k/\SqT X.K H l xs/\xs≠ []/\1<=k/\k<=1000/\xs.length<=1000/\(k=1->Q (.ref l) H)/\(k≠1->∀ p,H p=none->Q (.ref p) (Ib H p (.tup (replicate k.toNat xs).flatten)))):=by
 intro pins s σ H x y v u Q I rx ry h
 obtain⟨l,k,xs,rfl,rfl,sq,hne,h1,h2,hl,q1,q2⟩:=h
 cases rx
 obtain⟨t,rfl⟩:=ry
 obtain⟨its,r,⟨⟨cls,dd,data,sl⟩,ho,hc,n,hd⟩,hz⟩:=I.tuple sq
 simp only at hc hd
 subst hc hd
 have hlen:=r.length
 have hi:its≠ []:=λe=>hne (by rw[e]at hlen;exact List.eq_nil_of_length_eq_zero hlen)
 have he:its.toArray.isEmpty=false:=by cases its with
  |nil=>exact absurd rfl hi
  |cons=>simp
 have hsz:(its.toArray.size:Int)*k<=1000000:=by
  rw[size_toArray,<-hlen]
  have h3:(xs.length:Int)*k<=1000*1000:=Int.mul_le_mul (by omega) h2 (by omega) (by decide)
  omega
 have hsz':(its.length:Int)*k<=1000000:=by simpa using hsz
 refine wpAny_binaryOp_repeat_ref (T:="tuple") (U:="int") (by decide) ⟨_,ho,rfl⟩ (λs'=>typeIs_int s' k t) EV F.fills_int_mul F.slot_int_rmul O2 F.slot_int_index.lookup
  (call_meets F.slot_int_rmul (typeIs_int s k t) F.entry_int_rmul (F.args_int_rmul_2 _ _) (L6 k t l its.toArray n dd sl) ⟨ho,rfl,⟨_,ho,rfl⟩,?_⟩)
 by_cases hk:k=1
 .subst hk
  exact call_meets F.slot_tuple_mul ⟨_,ho,rfl⟩ F.entry_tuple_mul (F.args_tuple_mul_2 _ _) (N2 l its.toArray n dd sl t) ⟨ho,⟨.ref l,H,I,rfl,q1 rfl⟩⟩
 .have hfl:(replicate k.toNat its.toArray).foldl (λx1 x2=>x1++x2) #[]=(replicate k.toNat its).flatten.toArray:=by
   have:=Kv its k.toNat []
   rw[nil_append]at this
   exact this
  have hfz:(replicate k.toNat its).flatten.length<=sizeLine:=by
   rw[EF,sizeLine_eq]
   have h3:its.length*k.toNat<=1000*1000:=Nat.mul_le_mul (by omega) (by omega)
   rw[Nat.mul_comm];omega
  refine call_meets F.slot_tuple_mul ⟨_,ho,rfl⟩ F.entry_tuple_mul (F.args_tuple_mul_2 _ _) (FV l its.toArray n dd sl k t ?_ ?_ ?_ ?_ ?_ ?_) ⟨ho,?_⟩
  .simp only[Bool.or_eq_false_iff,decide_eq_false_iff_not];omega
  .rw[he];simpa using hk
  .rw[he];simp;omega
  .omega
  .unfold Builtin.Tuple.tupleTooMany
   have:((sizeLine:Nat):Int)=16777216:=by rw[sizeLine_eq];rfl
   rw[this];simp;omega
  .rw[hfl,size_toArray];exact hfz
  .rw[hfl]
   refine⟨.ref s.heap.objs.size,_,I.laid (a:=s.heap.objs.size) (o:=.tup (replicate k.toNat xs).flatten) (t':=s.toks) (λ_ _ e=>get?_push_of_some _ e) (le_refl _) ⟨?_,_,r.rep k.toNat,IsTup.new _ _⟩,rfl,q2 hk _ I.fresh⟩
   rw[EF,sizeLine_eq]
   have h3:xs.length*k.toNat<=1000*1000:=Nat.mul_le_mul (by omega) (by omega)
   rw[Nat.mul_comm];omega
def Mx:D->D->Res D
 | .int i,.int j=>Z4 (.int i) (.int j)
 | .tup xs,.int k=>@ite (Res D) (xs≠ []/\1<=k/\k<=1000/\xs.length<=1000) (propDecidable _) (.ok (.tup (replicate k.toNat xs).flatten)) .stuck
 |_,_=>.stuck
theorem Dj(i j:Int):Mx (.int i) (.int j)=@ite (Res D) ((-18446744073709551616<i/\i<18446744073709551616)\/(-18446744073709551616<j/\j<18446744073709551616)) (propDecidable _) (.ok (.int (i*j))) .stuck:=rfl
theorem HasL.rep{xs:List V}(h:HasL K W H ds xs):∀ k:Nat,HasL K W H (replicate k ds).flatten (replicate k xs).flatten
 |0=>by simp[HasL]
 |k+1=>by
  rw[replicate_succ,flatten_cons,replicate_succ,flatten_cons]
  exact h.append (HasL.rep h k)
theorem BE(ha:XP X xw a fa)(hb:XP X xw b fb):XE X xw (.BinOp a .Mult b pos) (b2 Mx fa fb):=⟨by
 refine Np (YZ.or UT) (λW H d e v u Q w hv hu q=>?_) ha.h hb.h
 unfold Mx at q
 split at q
 .unfold Z4 at q
  dsimp only at q
  split at q
  .rename_i hj
   exact .inl ⟨_,_,hv.int,hu.int,hj,q.int⟩
  .exact q.elim
 .split at q
  .rename_i xs k hj
   obtain⟨l,ys,e,sq,r⟩:=hv.tup
   refine .inr ⟨l,k,ys,e,hu.int,sq,?_,hj.2.1,hj.2.2.1,by rw[<-r.length];exact hj.2.2.2,λhk=>?_,λ_ p hp=>q.newT w hp (r.rep _)⟩
   .intro z
    subst z
    exact hj.1 (List.eq_nil_of_length_eq_zero (by simpa using r.length))
   .subst hk
    refine q _ H (Same.refl _) ?_
    rw[Has]
    exact⟨l,ys,rfl,sq,by simpa using r⟩
  .exact q.elim
 .exact q.elim⟩
def Ah:List D->Option (List Int)
 | []=>some []
 | .int i::r=>(Ah r).map (i:: ·)
 |_=>none
theorem Mv:∀ {ds:List D} {ns:List Int},Ah ds=some ns->ds=ns.map D.int
 | [],ns,h=>by rw[Ah]at h;cases h;rfl
 | .int i::r,ns,h=>by
  rw[Ah]at h
  obtain⟨ms,h1,rfl⟩:=map_eq_some_iff.mp h
  rw[map_cons,Mv h1]
 | .non::_,_,h=>by simp[Ah]at h
 | .bl _::_,_,h=>by simp[Ah]at h
 | .str _::_,_,h=>by simp[Ah]at h
 | .tup _::_,_,h=>by simp[Ah]at h
 | .lst _::_,_,h=>by simp[Ah]at h
 | .dct _ _::_,_,h=>by simp[Ah]at h
 | .exc _ _::_,_,h=>by simp[Ah]at h
 | .obj _ _ _::_,_,h=>by simp[Ah]at h
def ZO(ns:List Int):Str:=(PyData.tuple (ns.map PyData.int)).shown
theorem Bn{h:Heap}:∀ {us:List Value} {ns:List Int},IntsAre us ns->ReadsAll h us (ns.map PyData.int) []
 |_,_,.nil=>.nil
 |_,_,.cons n t r=>.cons (.int n t) (Bn r)
theorem YG(hr:Room k X.A):CallR X (.type "str") (λxs H Q=>∃ a ns,xs= [.ref a]/\SqT X.K H a (ns.map V.int)/\(PyData.tuple (ns.map PyData.int)).showable=true/\(ZO ns).length<=sizeLine/\Q (.str (ZO ns)) H):=by
 intro pins s σ H xs us Q I r h
 obtain⟨a,ns,rfl,sq,hs,hz,q⟩:=h
 obtain⟨u,rfl,rx⟩:=Kn r
 cases (show u=Value.ref a from rx)
 obtain⟨its,rv,⟨o,ho,hc,n,hd⟩,_⟩:=I.tuple sq
 have hI:IntsAre its ns:=IC rv
 have rd:Reads s.heap (.ref a) (.tuple (ns.map PyData.int)) []:=.tuple ho hc hd (by simpa using Bn hI)
 have hdict:∀ ms:List Int,PyData.hasDictAll (ms.map PyData.int)=false:=λms=>by
  induction ms with
  |nil=>rfl
  |cons m ms ih=>rw[map_cons,PyData.hasDictAll,ih];rfl
 have hdep:∀ ms:List Int,PyData.depthAll (ms.map PyData.int)<=1:=λms=>by
  induction ms with
  |nil=>simp[PyData.depthAll]
  |cons m ms ih=>rw[map_cons,PyData.depthAll];simp[PyData.depth];omega
 refine str_of_reads rd hs (λz=>by rw[PyData.hasDict,hdict]at z;cases z) hr.gd ?_ (λ_ _ e=>e) (λh' u tk hk=>⟨.str (ZO ns),H,I.kept (t':=tk) hk,⟨u,rfl⟩,q⟩) hz
 have:=hr.units
 have:=hdep ns
 rw[PyData.depth]
 omega
def HJ:D->Res D
 | .int i=>@ite (Res D) (i.natAbs.log2<1920) (propDecidable _) (.ok (.str (toString i))) .stuck
 | .tup ds=>match Ah ds with
  |some ns=>@ite (Res D) ((PyData.tuple (ns.map PyData.int)).showable=true/\(ZO ns).length<=sizeLine) (propDecidable _) (.ok (.str (ZO ns))) .stuck
  |none=>.stuck
 |_=>.stuck
theorem NV(hr:Room k X.A)(hm:X.mg "str"=none)(ha:XP X xw a fa)(hg:Gl X "str":=by rfl)(he:starEach [a] X.env=(false,eval a X.env)::starEach [] X.env:=by rfl)(hpl:(backTo pos (starEach [] X.env)).any (·.1)=false:=by rfl):
  XE X xw (.Call (.Name "str" p) [a] [] pos) (b1 HJ fa):=⟨
 Mp (Qw.or (YG hr)) (λW H d v Q w hv q=>by
  unfold HJ at q
  split at q
  .split at q
   .rename_i i hi
    exact .inl ⟨i,by rw[hv.int],hi,q.str⟩
   .exact q.elim
  .split at q
   .rename_i ns hn
    split at q
    .rename_i hz
     obtain⟨a,xs,e,sq,r⟩:=hv.tup
     rw[Mv hn]at r
     have ex:xs=ns.map V.int:=by
      clear sq q hz hn
      induction ns generalizing xs with
      |nil=>rw[map_nil,HasL]at r;exact r
      |cons n ns ih=>
       rw[map_cons,HasL]at r
       obtain⟨x,r',rfl,h1,h2⟩:=r
       rw[Has]at h1
       rw[h1,ih _ h2];rfl
     rw[ex]at sq
     exact .inr ⟨a,ns,by rw[e],sq,hz.1,hz.2,q.str⟩
    .exact q.elim
   .exact q.elim
  .exact q.elim) hm (by decide +kernel) ha.h hg (by decide) (by decide) he hpl⟩
end
variable{W₀:WS}{H₀ H':Hp}{σ:L2.St}{δ:Ga}
theorem StHas.freeze{i:Nat}{a:Addr}(h:StHas K W₀ H₀ W H σ δ)(hi:δ[i]? =some (some (.o ds)))(hs:σ[i]? =some (some (.ref a))):
  StHas K W₀ H₀ (λb=>W b/\b≠a) H σ (δ.set i (some (.d (.lst ds))))/\Has K (λb=>W b/\b≠a) H (.lst ds) (.ref a):=by
 obtain⟨v,h1,b,xs,e',hW,h0,h3,h4⟩:=h.at' i _ hi
 rw[hs]at h1
 cases h1
 cases e'
 have hd:Has K (λb=>W b/\b≠a) H (.lst ds) (.ref a):=by
  rw[Has]
  exact⟨a,xs,rfl,.inl ⟨h3,λz=>z.2 rfl⟩,HasL.keep (λ_ _ e _=>e) h.fr.wl (λb z=>.inl z.1) h4⟩
 exact⟨h.freezeG (V8 ds) hi hs hd,hd⟩
variable{p2:Pos}{tg c:Expr}
section
variable {p:Pos}{fs:Ga->Res (List D)}
def Bl(op:D->D->Res (List D))(f g:Ga->Res D):Ga->Res (List D):=λδ=>(f δ).bind λx=>(g δ).bind λy=>op x y
def Xg:D->D->Res (List D)
 | .lst xs,.lst ys=>@ite (Res (List D)) (xs.length+ys.length<=sizeLine) (propDecidable _) (.ok (xs++ys)) .stuck
 |_,_=>.stuck
theorem MT:OpR X (binaryOp .Add) (λx y H Q=>∃ l b xs zs,x=.ref l/\y=.ref b/\SqL X.K H l xs/\SqL X.K H b zs/\xs.length+zs.length<=sizeLine/\∀ p,H p=none->Q (.ref p) (Ib H p (.lst (xs++zs)))):=by
 intro pins s σ H x y v u Q I rx ry h
 obtain⟨l,b,xs,zs,rfl,rfl,hH,hB,hz,q⟩:=h
 cases rx
 cases ry
 obtain⟨its,r,⟨⟨cls,dd,data,sl⟩,n,e,hc,hd,hs⟩,hz1⟩:=I.list hH
 obtain⟨its2,r2,⟨⟨cls2,dd2,data2,sl2⟩,n2,e2,hc2,hd2,hs2⟩,hz2⟩:=I.list hB
 simp only at hc hd hs hc2 hd2 hs2
 subst hc hd hs hc2 hd2 hs2
 have hl:=r.length
 have hl2:=r2.length
 refine concat_meets ⟨_,e,rfl⟩ ⟨_,e2,rfl⟩ noFill_list_add seq_list_add PySem.F.slot_list_add PySem.F.entry_list_add (PySem.F.args_list_add_2 _ _) (list_addW l b its.toArray its2.toArray n n2 none none sl sl2 (by rw[size_toArray,size_toArray];omega)) ⟨e,e2,?_⟩
 have ea:its.toArray++its2.toArray=(its++its2).toArray:=by simp
 rw[ea]
 exact⟨.ref _,_,I.lnew (t':=s.toks) (r.append r2) (by rw[length_append];omega),rfl,q _ I.fresh⟩
theorem NJ{op:D->D->Res (List D)}{Q:VK}{R:V->V->Hp->Prop}(st:StHas X.K W₀ H₀ W H σ δ)(q:RF X.K xw W H ((fa δ).bind λx=>(fb δ).bind λy=>op x y) Q)(h:∀ H2 d e v u,Same H H2->WL W H2->HasT X.K W H2 d v->HasT X.K W H2 e u->RF X.K xw W H2 (op d e) Q->R v u H2):
  IJ X.K xw fa σ H λx H1=>IJ X.K xw fb σ H1 λy H2=>R x y H2:=by
 refine⟨W₀,H₀,W,δ,st,?_⟩
 cases h1:fa δ with
 |stuck=>rw[h1]at q;exact q
 |ex c fs=>rw[h1]at q;exact q
 |ok d=>
  rw[h1]at q
  intro v H1 k1 hv
  refine⟨W₀,H₀,W,δ,st.same k1,?_⟩
  have q':RF X.K xw W H ((fb δ).bind λy=>op d y) Q:=q
  cases h2:fb δ with
  |stuck=>rw[h2]at q';exact q'
  |ex c fs=>rw[h2]at q';exact λH2 k2=>q' H2 (k1.trans k2)
  |ok e=>
   rw[h2]at q'
   intro u H2 k2 hu
   have q2:RF X.K xw W H (op d e) Q:=q'
   exact h H2 d e v u (k1.trans k2) (st.fr.wl.same (k1.trans k2)) (hv.same k2 (st.fr.wl.same k1)) hu (RF.same q2 (k1.trans k2))
theorem Sh(ha:XP X xw a fa)(hb:XP X xw b fb):XF X xw (.BinOp a .Add b pos) (Bl Xg fa fb):=
 ⟨PE.weak (FW MT ha.h hb.h) λσ H Q ⟨W₀,H₀,W,δ,st,q⟩=>NJ st q λH2 d e v u k w hv hu q2=>by
  unfold Xg at q2
  split at q2
  .split at q2
   .rename_i hz
    obtain⟨a1,xs,e1,s1,r1⟩:=hv.lst
    obtain⟨a2,ys,e2,s2,r2⟩:=hu.lst
    exact⟨a1,a2,xs,ys,e1,e2,s1,s2,by rw[<-r1.length,<-r2.length];exact hz,λp hp=>q2 p _ H2 (Same.refl _) hp (r1.append r2)⟩
   .exact q2.elim
  .exact q2.elim⟩
end
def Bj:D->Bool
 | .non=>true
 | .bl _=>true
 | .int _=>true
 | .str _=>true
 |_=>false
variable{d:D}{v:V}
theorem Gs(h:Has K W H d v)(f:Bj d=true):Vm v=true:=by
 cases d with
 |non=>rw[Has]at h;subst h;rfl
 |bl b=>rw[Has]at h;subst h;rfl
 |int i=>rw[Has]at h;subst h;rfl
 |str x=>rw[Has]at h;subst h;rfl
 |_=>cases f
theorem EY{e:D}{u:V}(h:Has K W H d v)(g:Has K W H e u)(f:Bj d=true)(f2:Bj e=true):ME v u=Zj d e:=by
 cases d with
 |non=>rw[Has]at h;subst h;cases e<;>first|exact absurd (show false=true from f2) Bool.false_ne_true|(rw[Has]at g;subst g;simp[ME,Zj])
 |bl b=>rw[Has]at h;subst h;cases e<;>first|exact absurd (show false=true from f2) Bool.false_ne_true|(rw[Has]at g;subst g;simp[ME,Zj])
 |int i=>rw[Has]at h;subst h;cases e<;>first|exact absurd (show false=true from f2) Bool.false_ne_true|(rw[Has]at g;subst g;simp[ME,Zj])
 |str x=>rw[Has]at h;subst h;cases e<;>first|exact absurd (show false=true from f2) Bool.false_ne_true|(rw[Has]at g;subst g;simp[ME,Zj])
 |_=>cases f
theorem HC{d:D}{v:V}(h:Has K W H d v)(f:Bj d=true):∀ {ds:List D} {xs:List V},HasL K W H ds xs->ds.all Bj=true->xs.all Vm=true/\B7 v xs=ds.any (λy=>Zj y d)
 | [],_,r,_=>by rw[HasL]at r;subst r;exact⟨rfl,rfl⟩
 |e::ds,_,r,fs=>by
  rw[HasL]at r
  obtain⟨x,q,rfl,hx,hq⟩:=r
  rw[all_cons,and_eq_true]at fs
  obtain⟨h1,h2⟩:=HC h f hq fs.2
  refine⟨by rw[all_cons,Gs hx fs.1,h1];rfl,?_⟩
  show(ME x v||B7 v q)=(Zj e d||ds.any λy=>Zj y d)
  rw[EY hx h fs.1 f,h2]
def ND(i j:Str):Bool:= !(Builtin.Str.occurrences j i 0 j.length 1).isEmpty
def inB(d:D)(ds:List D):Bool:=ds.any λy=>Zj y d
def inR:D->D->Res D
 | .str i,.str j=>.ok (.bl (ND i j))
 |d,.tup ds=>if(Bj d&&ds.all Bj)=true then .ok (.bl (inB d ds)) else .stuck
 |d,.lst ds=>if(Bj d&&ds.all Bj)=true then .ok (.bl (inB d ds)) else .stuck
 |_,_=>.stuck
variable{P:Program}{w:World}
section
variable {p:Pos}{e:Expr}{f:Ga->Res D}{fs:Ga->Res (List D)}
theorem QE(h:HasT K W H d v)(f:Bj d=true):Has K W H d v:=by
 rcases h with h|⟨ds,_,_,rfl,_⟩
 .exact h
 .cases f
theorem HN:U3 X xw (λx y H Q=>(∃ i j,x=.str i/\y=.str j/\Q (.bl (!(Builtin.Str.occurrences j i 0 j.length 1).isEmpty)) H)\/rIn X.K false x y H Q) inR:=by
 intro W H d e v u Q w hv hu q
 unfold inR at q
 split at q
 .exact .inl ⟨_,_,hv.str,hu.str,q.bl⟩
 .split at q
  .rename_i hf
   rw[and_eq_true]at hf
   obtain⟨a1,xs,e1,sq,r⟩:=hu.tup
   obtain⟨h1,h2⟩:=HC (QE hv hf.1) hf.1 r hf.2
   exact .inr ⟨a1,xs,e1,.inr sq,Gs (QE hv hf.1) hf.1,h1,by rw[if_neg Bool.false_ne_true,h2];exact q.bl⟩
  .exact q.elim
 .split at q
  .rename_i hf
   rw[and_eq_true]at hf
   obtain⟨a1,xs,e1,sq,r⟩:=hu.lst
   obtain⟨h1,h2⟩:=HC (QE hv hf.1) hf.1 r hf.2
   exact .inr ⟨a1,xs,e1,.inl sq,Gs (QE hv hf.1) hf.1,h1,by rw[if_neg Bool.false_ne_true,h2];exact q.bl⟩
  .exact q.elim
 .exact q.elim
theorem Fa0(ha:XP X xw a fa)(hb:XP X xw b fb)(hm:behindInMarks .In b=false:=by rfl):XE X xw (.Compare a [.In] [b] pos) (b2 inR fa fb):=
 ⟨PE.weak (LF (Vv.or Uv) ha.h hb.h hm) λσ H Q ⟨W₀,H₀,W,δ,st,q⟩=>Wi st q λH2 d e v u k w hv hu _ _ q2=>HN W H2 d e v u Q w hv hu q2⟩
theorem U6(ha:XP X xw a fa)(hb:XP X xw b fb)(hm:behindInMarks .In b=false:=by rfl):XT X xw (.Compare a [.In] [b] pos) (tR (b2 inR fa fb)):=
 ⟨DE.t_of (f:=b2 inR fa fb) (PT.weak (Ay (Vv.or Uv) ha.h hb.h hm) λσ H Q ⟨W₀,H₀,W,δ,st,q⟩=>Wi st q λH2 d e v u k w hv hu _ _ q2=>HN W H2 d e v u _ w hv hu q2)⟩
def D3(x:Str):It:=⟨λi _=>i<x.cps.size,λi H v H'=>H'=H/\∃ c,x.cps[i]? =some c/\v=.str ⟨#[c]⟩,λi _=>i=x.cps.size⟩
theorem LJ{tg:Expr}(it:Addr)(x:Str)(t:Tok):Turn P w K tg (D3 x) [it] it (λi h=>h.IsStrIter it "str_ascii_iterator" x t i) where
 mem:=by simp
 obj:=λi h st b hb=>by
  have e:b=it:=by simpa using hb
  subst e
  obtain⟨o,e,c,d⟩:=st
  exact⟨o,e,λv z=>by rw[d]at z;cases z⟩
 keep:=λi h h' st k=>let ⟨o,ho,r⟩:=st;⟨o,k it (by simp) o ho,r⟩
 item:=by
  intro X hP hw hK hc i pins s σ H E I hf st hg
  subst hP hw hK
  obtain⟨f0,f1,f2,f3,f4,f5⟩:=hf it (by simp)
  have W:=Walks.strAscii (prog:=X.prog) (w:=X.w) (I.ok.hd hc) it x t
  refine W.item i s _ _ hg st λv h' tk hv st' kk=>?_
  obtain⟨c,u,hcx,rfl⟩:=hv
  have I1:Inv X pins σ H {s with heap:=h',toks:=tk}:=I.turned (λb o hb e=>kk b o (by simpa using hb) e) f0 f1 f3 f4 f5
  obtain⟨o,e,cc,d⟩:=id st'
  exact⟨_,rfl,Nz (s:= {s with heap:=h',toks:=tk}) e cc d (by decide) ⟨.str ⟨#[c]⟩,H,I1,⟨u,rfl⟩,⟨rfl,c,hcx,rfl⟩,st',λb hb=>(hf b hb).1⟩⟩
 done:=by
  intro X hP hw hK hc i pins s σ H E I hf st hg
  subst hP hw hK
  have hi:i=x.cps.size:=hg
  subst hi
  obtain⟨f0,f1,f2,f3,f4,f5⟩:=hf it (by simp)
  have W:=Walks.strAscii (prog:=X.prog) (w:=X.w) (I.ok.hd hc) it x t
  exact W.done s _ _ st λh' tk eb=>⟨rfl,I.turned (λb o hb e=>eb b o (by simpa using hb) e) f0 f1 f3 f4 f5⟩
 self:=λ_ _ _ _ _ st h=>wpAny_pyIter_striter_ascii st h
theorem MJ{tg:Expr}(it:Addr)(x:Str)(t:Tok):Turn P w K tg (D3 x) [it] it (λi h=>h.IsStrIter it "str_iterator" x t i) where
 mem:=by simp
 obj:=λi h st b hb=>by
  have e:b=it:=by simpa using hb
  subst e
  obtain⟨o,e,c,d⟩:=st
  exact⟨o,e,λv z=>by rw[d]at z;cases z⟩
 keep:=λi h h' st k=>let ⟨o,ho,r⟩:=st;⟨o,k it (by simp) o ho,r⟩
 item:=by
  intro X hP hw hK hc i pins s σ H E I hf st hg
  subst hP hw hK
  obtain⟨f0,f1,f2,f3,f4,f5⟩:=hf it (by simp)
  have W:=Walks.strWide (prog:=X.prog) (w:=X.w) (I.ok.hd hc) it x t
  refine W.item i s _ _ hg st λv h' tk hv st' kk=>?_
  obtain⟨c,u,hcx,rfl⟩:=hv
  have I1:Inv X pins σ H {s with heap:=h',toks:=tk}:=I.turned (λb o hb e=>kk b o (by simpa using hb) e) f0 f1 f3 f4 f5
  obtain⟨o,e,cc,d⟩:=id st'
  exact⟨_,rfl,Nz (s:= {s with heap:=h',toks:=tk}) e cc d (by decide) ⟨.str ⟨#[c]⟩,H,I1,⟨u,rfl⟩,⟨rfl,c,hcx,rfl⟩,st',λb hb=>(hf b hb).1⟩⟩
 done:=by
  intro X hP hw hK hc i pins s σ H E I hf st hg
  subst hP hw hK
  have hi:i=x.cps.size:=hg
  subst hi
  obtain⟨f0,f1,f2,f3,f4,f5⟩:=hf it (by simp)
  have W:=Walks.strWide (prog:=X.prog) (w:=X.w) (I.ok.hd hc) it x t
  exact W.done s _ _ st λh' tk eb=>⟨rfl,I.turned (λb o hb e=>eb b o (by simpa using hb) e) f0 f1 f3 f4 f5⟩
 self:=λ_ _ _ _ _ st h=>wpAny_pyIter_striter_wide st h
def M8(tl:TE):TI:=λσ H R=>tl σ H λv H1=>∃ x,v=.str x/\R (D3 x) H1
theorem V0{l:Expr}{tl:TE}(hl:PE X l tl):PI X tg l (M8 tl):=by
 intro pins s σ H R I h
 refine thn (hl pins s σ H _ I h) λv s1 ⟨x,H1,I1,r1,q1⟩=>?_
 obtain⟨y,e,q⟩:=q1
 subst e
 obtain⟨t,rfl⟩:=r1
 have key:∀ (T:String) (o:Obj),(s1.heap.push o).IsStrIter s1.heap.objs.size T y t 0->Turn X.prog X.w X.K tg (D3 y) [s1.heap.objs.size] s1.heap.objs.size (λi h=>h.IsStrIter s1.heap.objs.size T y t i)->R7 X pins σ tg R (.ref s1.heap.objs.size) {s1 with heap:=s1.heap.push o}:=λT o h1 h2=>by
  refine⟨s1.heap.objs.size,[s1.heap.objs.size],_,_,H1,rfl,I1.kept (t':=s1.toks) λb o e=>get?_push_of_some _ e,h2,h1,λb hb=>?_,q⟩
  have e:b=s1.heap.objs.size:=by simpa using hb
  subst e
  exact I1.fpOk (le_refl _) (I1.hok.fresh (le_refl _))
 cases ha:y.cps.all (· <128)
 .exact wpAny_pyIter_wide ha (key _ _ ⟨_,get?_push_size _ rfl,rfl,rfl⟩ (MJ _ _ _))
 .exact wpAny_pyIter_ascii ha (key _ _ ⟨_,get?_push_size _ rfl,rfl,rfl⟩ (LJ _ _ _))
def We(x:Str):List D:=x.cps.toList.map λc=>D.str ⟨#[c]⟩
def WF:D->Res (List D)
 | .str x=>.ok (We x)
 |_=>.stuck
theorem XY(x:Str):XJ K W H (D3 x) (We x):=by
 intro W' H2 k w2
 unfold We
 refine⟨λi d e=>?_,by simp[D3]⟩
 rw[getElem?_map]at e
 obtain⟨c,hc,rfl⟩:=map_eq_some_iff.mp e
 have hc':x.cps[i]? =some c:=by simpa using hc
 have hi:i<x.cps.size:=by
  refine Nat.lt_of_not_le λz=>?_
  rw[Array.getElem?_eq_none z]at hc';cases hc'
 refine⟨hi,λv H3 z=>?_⟩
 obtain⟨rfl,c',e',rfl⟩:=z
 rw[hc']at e'
 cases e'
 exact⟨Same.refl _,by rw[Has]⟩
theorem W4(h:XE X xw e f):XI X xw tg e (b1 WF f):=⟨PI.weak (V0 h.h) λσ H R ⟨W₀,H₀,W,δ,st,q⟩=>by
 refine⟨W₀,H₀,W,δ,st,?_⟩
 unfold b1 at q
 cases h1:f δ with
 |stuck=>rw[h1]at q;exact q
 |ex c fs=>rw[h1]at q;exact q
 |ok d=>
  rw[h1]at q
  intro v H1 k1 hv
  cases d with
  |str x=>
   rw[Has]at hv
   exact⟨x,hv,q _ H1 k1 (XY x)⟩
  |_=>exact q.elim⟩
def B9:V->Option Int->Option Int->Hp->VK->Prop:=λx lo hi H Q=>∃ z,x=.str z/\z.length<=sizeLine/\Q (.str (PySem.Txt.slice z lo hi)) H
theorem IF{v:Value}{o:Option Int}(h:IsPart v o):∃ l:Option (Int×Tok),v=partValue l/\l.map (·.1)=o:=by
 cases h with
 |none=>exact⟨none,rfl,rfl⟩
 |int i t=>exact⟨some (i,t),rfl,rfl⟩
theorem B2:U7 X B9:=by
 intro pins s σ H x v vl vu lo hi sl Q I rx hs pl pu h
 obtain⟨z,rfl,hz,q⟩:=h
 obtain⟨t,rfl⟩:=rx
 obtain⟨l,rfl,rfl⟩:=IF pl
 obtain⟨u,rfl,rfl⟩:=IF pu
 refine⟨"str",_,F.slot_str_getitem.lookup,typeIs_str _ _ _,wpAny_getItem_str_slice (l:=l) (u:=u) (st:=none) hs rfl ?_⟩
 exact post_val_or_str ⟨le_trans (PySem.Txt.slice_le z _ _) hz,λt' k=>⟨.str _,H,I.tok _,⟨t',rfl⟩,q⟩⟩
def DJ(d:D)(lo hi:Option Int):Res D:=match d with
 | .str z=>@ite (Res D) (z.length<=sizeLine) (propDecidable _) (.ok (.str (PySem.Txt.slice z lo hi))) .stuck
 |_=>.stuck
variable {lo hi:Option Expr}{fl fh:Ga->Res (Option Int)}
theorem OP(ha:XP X xw a fa)(hl:XO X xw lo fl)(hh:XO X xw hi fh):XE X xw (.Subscript a (.Slice lo hi none p2) pos) (b3 DJ fa fl fh):=
 ⟨PE.weak (IA B2 ha.h hl.h hh.h) λσ H Q ⟨W₀,H₀,W,δ,st,q⟩=>YF (G:=λH r=>RE X.K xw W H r Q) st (λ_ _ _ q=>q) (λ_ q=>q) (λ_ _ _ k q=>RE.same q k) q λH2 d v l u k w hv q2=>by
  unfold DJ at q2
  split at q2
  .split at q2
   .rename_i hz
    exact⟨_,hv.str,hz,q2.str⟩
   .exact q2.elim
  .exact q2.elim⟩
theorem Gp(xs:List Str):HasL K W H (xs.map D.str) (xs.map V.str):=by
 induction xs with
 |nil=>exact HasL.nil
 |cons x xs ih=>exact HasL.cons (by rw[Has]) ih
structure GlobT(K:Frag)(mg:Str->Option Value)(x:Str)(xs:List Str):Prop where
 h:∃ (ad:Addr) (o:Obj) (its:Array Value) (n:Nat),mg x=some (.ref ad)/\K.lookup ad=some o/\o.cls=.type "tuple"/\o.data=.seq its n/\its.size<=sizeLine/\Vals (xs.map V.str) its.toList
theorem MV{x:Str}{xs:List Str}(hm:GlobT X.K X.mg x xs)(hg:Gl X x:=by rfl)(hdb:(x==("__debug__":Str))=false:=by decide):XE X xw (.Name x pos) (kD (.tup (xs.map D.str))):=by
 obtain⟨ad,o,its,n,h1,h2,h3,h4,h5,h6⟩:=hm.h
 refine⟨Ww (v:=.ref ad) h1 rfl (λW H=>?_) hg hdb⟩
 rw[Has]
 exact⟨ad,xs.map V.str,rfl,.inr ⟨o,its,n,h2,h3,h4,h5,h6⟩,Gp xs⟩
theorem Ur{k:Jd}{u:Value}(r:RelV (kV k) u):(Ef P w).is k u=true:=by
 cases k with
 |inl i=>obtain⟨t,rfl⟩:=r;exact Xz P w i t
 |inr x=>obtain⟨t,rfl⟩:=r;exact Uq P w x t
def SS:D->Option Jd
 | .str x=>some (.inr x)
 | .int i=>some (.inl i)
 |_=>none
theorem LL{W':WS}(h:Has K W H d v)(f:Bj d=true):Has K W' H' d v:=by
 cases d with
 |non=>rw[Has]at h ⊢;exact h
 |bl b=>rw[Has]at h ⊢;exact h
 |int i=>rw[Has]at h ⊢;exact h
 |str x=>rw[Has]at h ⊢;exact h
 |_=>cases f
end
end L3
namespace L3
open PySem PySem.Spec PyProof.Rows L2 SeqAt
open Builtin Builtin.Str
theorem Fj:∀ (tk:Nat) (xs:List Str),Vals (xs.map V.str) (strsFrom tk xs)
 |_,[]=>.nil
 |tk,x::r=>.cons ⟨tk,rfl⟩ (Fj (tk+1) r)
theorem Bw(x y:Str)(h:(partsBetween x (occurrences x y 0 x.length (x.length+1)) y.length).length<=1000):(PySem.Txt.split x y).length<=1000:=by
 unfold PySem.Txt.split
 split
 .simp
 .split
  .simp
  .exact h
section
variable {X:Cx}{xw:XW}{pos p p2 apos cpos:Pos}{tg a b c e o:Expr}{es:List Expr}{f fa fb:Ga->Res D}{fs:Ga->Res (List D)}
def K1:V->List V->Hp->VK->Prop:=λx vs H Q=>∃ z y,x=.str z/\vs= [.str y]/\(y.length==0)=false/\z.length<=1000/\(partsBetween z (occurrences z y 0 z.length (z.length+1)) y.length).length<=1000/\
 ∀ p,H p=none->Q (.ref p) (Ib H p (.lst ((PySem.Txt.split z y).map V.str)))
theorem VM:UV X "str.split" K1:=by
 intro pins s σ H x vs v us Q I rx rv h
 obtain⟨z,y,rfl,rfl,hy,hz,hp,q⟩:=h
 obtain⟨t,rfl⟩:=rx
 obtain⟨u',rfl,ru⟩:=rv.one
 obtain⟨u,rfl⟩:=ru
 have hz':z.length<=sizeLine:=le_trans hz Jl
 have hp':=le_trans hp Jl
 have hs:=le_trans (Bw z y hp) Jl
 have one:PySem.Txt.split z y= [z]->∀ tk,EP X pins σ Q (.ref s.heap.objs.size) {s with heap:=s.heap.push {cls:=.type "list",data:=.seq [Value.str z t].toArray},toks:=tk}:=λe tk=>by
  rw[e]at q
  exact⟨.ref _,_,I.lnew (t':=tk) (ys:= [.str z]) (its:= [.str z t]) (.cons ⟨t,rfl⟩ .nil) (by rw[sizeLine_eq,length_singleton];decide),rfl,q _ I.fresh⟩
 cases h1:(decide (z.length<y.length)||decide (strKind z<strKind y))
 .cases hf:(occurrences z y 0 z.length (z.length+1)).isEmpty
  .refine call_meets F.slot_str_split (typeIs_str _ _ _) F.entry_str_split (F.args_str_split_2 _ _) (meets_str_split_sep z y t u h1 hy hf hz' hp') ?_
   have e:PySem.Txt.split z y=partsBetween z (occurrences z y 0 z.length (z.length+1)) y.length:=(if_neg (ne_true_of_eq_false h1)).trans (if_neg (ne_true_of_eq_false hf))
   rw[e]at q hs
   exact⟨.ref _,_,I.lnew (Fj s.toks _) (by rw[length_map];exact hs),rfl,q _ I.fresh⟩
  .exact call_meets F.slot_str_split (typeIs_str _ _ _) F.entry_str_split (F.args_str_split_2 _ _) (meets_str_split_not_found z y t u h1 hy hf) (one ((if_neg (ne_true_of_eq_false h1)).trans (if_pos hf)) s.toks)
 .exact call_meets F.slot_str_split (typeIs_str _ _ _) F.entry_str_split (F.args_str_split_2 _ _) (meets_str_split_cannot_occur z y t u h1) (one (if_pos h1) s.toks)
def bM{α:Type}(op:Str->List D->Res α)(f:Ga->Res D)(g:Ga->Res (List D)):Ga->Res α:=λδ=>(f δ).bind λx=>match x with
 | .str z=>(g δ).bind (op z)
 |_=>.stuck
def Pf(z:Str):List D->Res (List D)
 | [.str y]=>@ite (Res (List D)) ((y.length==0)=false/\z.length<=1000/\(partsBetween z (occurrences z y 0 z.length (z.length+1)) y.length).length<=1000) (propDecidable _) (.ok ((PySem.Txt.split z y).map D.str)) .stuck
 |_=>.stuck
theorem SR(ho:XE X xw o f)(ha:XA X xw [e] fs)(hbase:attributeBase o "split" X.env (eval o X.env)=eval o X.env:=by rfl)(hfew:((backTo cpos (starEach [e] X.env)).all (λx=> !x.1)&&(backToKw cpos (keywordEach [] X.env)).all (λx=>x.1.isSome)
   &&decide (([e]:List Expr).length+([]:List Keyword).length+(if([]:List Keyword).isEmpty then 0 else 1)<30))=true:=by rfl)(hline:(apos.endLine==cpos.line)=true:=by rfl)(hs:starEach [e] X.env=(false,eval e X.env)::starEach [] X.env:=by rfl)(hplain:(backTo cpos (starEach [] X.env)).any (·.1)=false:=by rfl):
  XF X xw (.Call (.Attribute o "split" apos) [e] [] cpos) (bM Pf f fs):=
 ⟨PE.weak (Ft (T:="str") F.plainAttrs_str F.slot_str_split F.type_str_split VM ho.h ha.h hbase hfew hline hs hplain) λσ H Q ⟨W₀,H₀,W,δ,st,q⟩=>by
  unfold bM at q
  refine⟨W₀,H₀,W,δ,st,?_⟩
  cases h1:f δ with
  |stuck=>rw[h1]at q;exact q
  |ex c fs=>rw[h1]at q;exact q
  |ok d=>
   rw[h1]at q
   intro v H1 k1 hv
   cases d with
   |str z=>
    rw[Has]at hv
    subst hv
    have q':RF X.K xw W H ((fs δ).bind (Pf z)) Q:=q
    refine⟨rfl,W₀,H₀,W,δ,st.same k1,?_⟩
    cases h2:fs δ with
    |stuck=>rw[h2]at q';exact q'
    |ex c gs=>rw[h2]at q';exact λH2 k2=>q' H2 (k1.trans k2)
    |ok ds=>
     rw[h2]at q'
     intro vs H2 k2 hvs
     have q2:RF X.K xw W H (Pf z ds) Q:=q'
     unfold Pf at q2
     split at q2
     .rename_i y
      split at q2
      .rename_i hz
       rw[HasL]at hvs
       obtain⟨x,r,rfl,hx,hr⟩:=hvs
       rw[HasL]at hr
       subst hr
       rw[Has]at hx
       subst hx
       exact⟨z,y,rfl,rfl,hz.1,hz.2.1,hz.2.2,λp hp=>q2 p _ H2 (k1.trans k2) hp (Gp _)⟩
      .exact q2.elim
     .exact q2.elim
   |_=>exact False.elim q⟩
theorem Cw:∀ {xs:List Str} {us:List Value},Vals (xs.map V.str) us->∃ l:List (Str×Tok),us=strValues l/\l.map (·.1)=xs
 | [],_,.nil=>⟨[],rfl,rfl⟩
 |x::xs,_,.cons ⟨t,h⟩ r=>by
  obtain⟨l,e1,e2⟩:=Cw r
  refine⟨(x,t)::l,?_,by rw[map_cons,e2]⟩
  rw[h,e1];rfl
def R5(K:Frag):V->List V->Hp->VK->Prop:=λx vs H Q=>∃ z p xs,x=.str z/\vs= [.ref p]/\SqL K H p (xs.map V.str)/\JoinOk z xs=true/\Q (.str (PySem.Txt.join z xs)) H
theorem YS:UV X "str.join" (R5 X.K):=by
 intro pins s σ H x vs v us Q I rx rv h
 obtain⟨z,p,xs,rfl,rfl,hq,hok,q⟩:=h
 obtain⟨t,rfl⟩:=rx
 obtain⟨u',rfl,ru⟩:=rv.one
 cases ru
 obtain⟨its,r,pl,_⟩:=I.list hq
 obtain⟨l,e1,e2⟩:=Cw r
 subst e1
 exact PySem.SC.join pl.isList e2 hok λt' k=>⟨.str _,H,I.tok _,⟨t',rfl⟩,q⟩
def Pk:List D->Option (List Str)
 | []=>some []
 | .str x::ds=>(Pk ds).map (x:: ·)
 |_=>none
theorem Yn{K:Frag}{W:WS}{H:Hp}:∀ {ds:List D} {xs:List Str} {vs:List V},Pk ds=some xs->HasL K W H ds vs->vs=xs.map V.str
 | [],xs,vs,h,r=>by cases h;rw[HasL]at r;exact r
 |d::ds,xs,vs,h,r=>by
  cases d with
  |str x=>
   obtain⟨ys,h1,rfl⟩:=map_eq_some_iff.mp (show(Pk ds).map (x:: ·)=some xs from h)
   rw[HasL]at r
   obtain⟨v,q,rfl,hv,hq⟩:=r
   rw[Has]at hv
   rw[hv,Yn h1 hq];rfl
  |_=>cases h
def Tf(z:Str):List D->Res D
 | [.lst ds]=>match Pk ds with
  |some xs=>if JoinOk z xs=true then .ok (.str (PySem.Txt.join z xs)) else .stuck
  |none=>.stuck
 |_=>.stuck
theorem Iq(ho:XE X xw o f)(ha:XA X xw [e] fs)(hbase:attributeBase o "join" X.env (eval o X.env)=eval o X.env:=by rfl)(hfew:((backTo cpos (starEach [e] X.env)).all (λx=> !x.1)&&(backToKw cpos (keywordEach [] X.env)).all (λx=>x.1.isSome)
   &&decide (([e]:List Expr).length+([]:List Keyword).length+(if([]:List Keyword).isEmpty then 0 else 1)<30))=true:=by rfl)(hline:(apos.endLine==cpos.line)=true:=by rfl)(hs:starEach [e] X.env=(false,eval e X.env)::starEach [] X.env:=by rfl)(hplain:(backTo cpos (starEach [] X.env)).any (·.1)=false:=by rfl):
  XE X xw (.Call (.Attribute o "join" apos) [e] [] cpos) (bM Tf f fs):=
 ⟨PE.weak (Ft (T:="str") F.plainAttrs_str F.slot_str_join F.type_str_join YS ho.h ha.h hbase hfew hline hs hplain) λσ H Q ⟨W₀,H₀,W,δ,st,q⟩=>by
  unfold bM at q
  refine⟨W₀,H₀,W,δ,st,?_⟩
  cases h1:f δ with
  |stuck=>rw[h1]at q;exact q
  |ex c fs=>rw[h1]at q;exact q
  |ok d=>
   rw[h1]at q
   intro v H1 k1 hv
   cases d with
   |str z=>
    rw[Has]at hv
    subst hv
    have q':RE X.K xw W H ((fs δ).bind (Tf z)) Q:=q
    refine⟨rfl,W₀,H₀,W,δ,st.same k1,?_⟩
    cases h2:fs δ with
    |stuck=>rw[h2]at q';exact q'
    |ex c gs=>rw[h2]at q';exact λH2 k2=>q' H2 (k1.trans k2)
    |ok ds=>
     rw[h2]at q'
     intro vs H2 k2 hvs
     have q2:RE X.K xw W H2 (Tf z ds) Q:=RE.same (r:=Tf z ds) q' (k1.trans k2)
     unfold Tf at q2
     split at q2
     .rename_i es
      split at q2
      .rename_i xs hx
       split at q2
       .rename_i hok
        rw[HasL]at hvs
        obtain⟨x,r,rfl,hv,hr⟩:=hvs
        rw[HasL]at hr
        subst hr
        rw[Has]at hv
        obtain⟨p,ys,rfl,sq,r⟩:=hv
        have:=Yn hx r
        subst this
        exact⟨z,p,xs,rfl,rfl,sq.sq,hok,q2.str⟩
       .exact q2.elim
      .exact q2.elim
     .exact q2.elim
   |_=>exact False.elim q⟩
theorem VG:CallR X (.type "int") (λxs H Q=>∃ z n,xs= [.str z]/\PySem.intText? z=some n/\z.length<=640/\Q (.int n) H):=by
 intro pins s σ H xs us Q I r h
 obtain⟨z,n,rfl,hn,hl,q⟩:=h
 obtain⟨u,rfl,t,rfl⟩:=Kn r
 exact PySem.W.KIN.call_text hn hl ⟨.int n,H,I.tok _,⟨_,rfl⟩,q⟩
def VL:D->Res D
 | .int i=>.ok (.int i)
 | .bl k=>.ok (.int (if k then 1 else 0))
 | .str z=>match PySem.intText? z with
  |some n=>if z.length<=640 then .ok (.int n) else .stuck
  |none=>.stuck
 |_=>.stuck
theorem V2(hm:X.mg "int"=none)(ha:XP X xw a fa)(hg:Gl X "int":=by rfl)(he:starEach [a] X.env=(false,eval a X.env)::starEach [] X.env:=by rfl)(hpl:(backTo pos (starEach [] X.env)).any (·.1)=false:=by rfl):
  XE X xw (.Call (.Name "int" p) [a] [] pos) (b1 VL fa):=
 ⟨Mp (CallR.or UG VG) (λW H d v Q w hv q=>by
  unfold VL at q
  split at q
  .exact .inl (.inl ⟨_,by rw[hv.int],q.int⟩)
  .exact .inl (.inr ⟨_,by rw[hv.bl],q.int⟩)
  .split at q
   .rename_i hn
    split at q
    .rename_i hl
     exact .inr ⟨_,_,by rw[hv.str],hn,hl,q.int⟩
    .exact q.elim
   .exact q.elim
  .exact q.elim) hm (by decide +kernel) ha.h hg (by decide) (by decide) he hpl⟩
end
end L3
namespace L3
open PySem PySem.Spec PyProof.Rows L2 SeqAt
variable{X:Cx}{xw:XW}{pos:Pos}{a:Expr}{fa:Ga->Res D}
section
variable {p p2 apos cpos:Pos}{tg b c e o ie:Expr}{es:List Expr}{f fi fb:Ga->Res D}{fs:Ga->Res (List D)}
def F9(i:Nat)(δ:Ga)(ds:List D)(d ix:D):Out:=match ix with
 | .int k=>match ZY ds.length k with
  |some j=>.nx (δ.set i (some (.o (ds.set j d))))
  |none=>.stuck
 |_=>.stuck
def G9(i:Nat)(fi:Ga->Res D)(δ:Ga)(d:D):Out:=match δ[i]? with
 |some (some (.o ds))=>Wk (fi δ) (F9 i δ ds d)
 |_=>.stuck
def YA(i:Nat)(fi f:Ga->Res D):Ga->Out:=λδ=>Wk (f δ) (G9 i fi δ)
end
section
variable {p:Pos}
end
end L3
namespace HT
open PySem PyProof.Rows
section
open PySem.SeqAt
open PySem.AutoSeq1 (wpAny_loadPart')
open PySem.MeetsSeq PySem.MeetsSeq2 PySem.MeetsSeq3
end
section
variable {prog:Program}{w:World}{A:Around}{E:Value->Shared->Prop}{s:Shared}
end
end HT
namespace L3
open PySem PySem.Spec PyProof.Rows L2 SeqAt
section
variable {X:Cx}{xw:XW}
end
end L3
namespace L3
open PySem
def S7(xs:Array Nat):Prop:=xs.toList.Pairwise (λa b=>a<b)
structure TOk(txt:Bool)(t:SetTable):Prop where
 led:t.led= !txt
 ok:t.plain=true->S7 t.place/\t.dummies= #[]
def ddp(σ:List Int)(k:Int):List Int:=if k∈σ then σ else σ++ [k]
variable{prog:Program}{w:World}{A:Around}{E:Value->Shared->Prop}{s:Shared}
namespace F
end F
variable{I:Addr}{o:Obj}{es:Array (Int×Value)}{ep:Nat}
section
variable {S:Addr}{t:SetTable}
end
namespace F
end F
variable{T:Addr}{first:Value}{i:Nat}
section
variable {S:Addr}{t:SetTable}
end
structure SW(prog:Program)(w:World)(A:Around)(I:Addr)(fp:List Addr)(ord:List Value)(St:Nat->Heap->Prop):Prop where
 W:Walks prog w A I fp [I] ord.length (λi v=>ord[i]? =some v) St
 mem:I∈fp
variable{σ:List Int}
section
variable {S:Addr}{t:SetTable}
end
open Sem (wp)
section
variable {S:Addr}
end
def met(ns:List Int):List Int:=ns.foldl ddp []
section
variable {R:Result->Shared->Prop}{fp wr:List Addr}{G:Array GenState->Array GenState->Prop}{n:Nat}{P:Nat->Value->Prop}{St:Nat->Shared->Prop}
def Itr(prog:Program)(w:World)(l:Addr)(ol:Obj)(items:Array Value):Prop:=∀ (A:Around) (s':Shared) (Q:Value->Shared->Prop) (E:Value->Shared->Prop),s'.heap.get? l=some ol->
 (∀ I St h',(∀ A':Around,A'.handled=none->Walks prog w A' I [I,l] [I] items.size (λi v=>items[i]? =some v) St)->St 0 h'->I=s'.heap.objs.size->(∀ b o,s'.heap.get? b=some o->h'.get? b=some o)->Q (.ref I) {s' with heap:=h'})->
 wpAny (model prog w) A (pyIter (.ref l)) Q E s'
theorem EM{l:Addr}{ol:Obj}{items:Array Value}{nl:Nat}(hc:ol.cls=.type "list")(hd:ol.data=.seq items nl):Itr prog w l ol items:=λA s' Q E hl h=>by
 have hL:s'.heap.IsList l items:=⟨ol,hl,hc,nl,hd⟩
 have hne:l≠s'.heap.objs.size:=ne_of_lt (lt_size hl)
 exact wpAny_pyIter_list hL (h _ (λi h=>h.IsListIter s'.heap.objs.size l i/\h.IsList l items) _ (λA' hA=>Walks.list hA _ l hne items) ⟨⟨_,get?_push_size _ rfl,rfl,rfl⟩,hL.push _⟩ rfl λb o e=>get?_push_of_some _ e)
theorem QO(a:Value){Q₁:Value->Shared->Prop}(h:∀ led:Bool,led=(!w.params.followText "set-order")->Q₁ (.ref s.heap.objs.size) {s with heap:=s.heap.push {cls:=.type "set",dict:=none,data:=.set #[] 0 (.fresh 0 0 led)}}):
  codeAny (model prog w) A (.call (.builtin "set.__new__") ⟨[.type "set",a],[]⟩) (wants Q₁ E) s:=by
 refine codeAny_of_tree ?_
 show wpAny _ A.in1 (checkBuiltinCall "set.__new__" ⟨[.type "set",a],[]⟩ >>= λ_=>again (.builtin "set.__new__" ⟨[.type "set",a],[]⟩)) _ _ s
 refine wpAny_bind (wpAny_of_eq (PySem.F.newCall_set_1 a) (wpAny_pure ⟨plainId_quiet PySem.F.plain_set_new _,codeAny_builtin PySem.F.entry_set_new ?_⟩));rw[Around.under_plainId PySem.F.plain_set_new _]
 unfold Builtin.«set.__new__» Builtin.Frozenset.newClass
 have hsub:=sub_set_self
 obtain⟨hp,g,d,tk,os⟩:=s
 dsimp only;wp_walk
 refine wpAny_askSetting (wpAny_pure ?_)
 dsimp only;simp only[newObj]
 exact wpAny_bind (wpAny_alloc (wpAny_pure (wpAny_pure (h _ rfl))))
end
open PyProof.Rows
end L3
namespace L3
open PySem PySem.Spec PyProof.Rows L2
abbrev O4(t:Bool)(h:Heap)(l:Addr):Heap:=h.push (D7 t l)
variable{X:Cx}{xw:XW}{pos:Pos}{a:Expr}
section
variable {elts:List Expr}{kt:Nat}{pt p:Pos}{b:Expr}{fs:Ga->Res (List D)}
def Sf:Nat->List D->List D
 |_,[]=> []
 |k,x::xs=>.tup [.int k,x]::Sf (k+1) xs
theorem Fv:∀ {xs:List D} {k i:Nat} {d:D},(Sf k xs)[i]? =some d->∃ x,xs[i]? =some x/\d=.tup [.int ((k+i:Nat):Int),x]
 | [],_,_,_,e=>by simp[Sf]at e
 |x::xs,k,0,d,e=>by
  rw[Sf]at e
  simp at e
  exact⟨x,rfl,by simp[<-e]⟩
 |x::xs,k,i+1,d,e=>by
  rw[Sf]at e
  obtain⟨u,h1,h2⟩:=Fv (xs:=xs) (k:=k+1) (i:=i) (by simpa using e)
  exact⟨u,by simpa using h1,by rw[h2,show k+1+i=k+(i+1) by omega]⟩
theorem Gv:∀ (k:Nat) (xs:List D),(Sf k xs).length=xs.length
 |_,[]=>rfl
 |k,x::xs=>by rw[Sf,List.length_cons,Gv,List.length_cons]
end
open SeqAt
theorem vals_ints:∀ {us:List Value} {ns:List Int},IntsAre us ns->Vals (ns.map V.int) us
 |_,_,.nil=>.nil
 |_,_,.cons n t r=>.cons ⟨t,rfl⟩ (vals_ints r)
section
variable {p pos2 p2:Pos}{fa:Ga->Res D}{pins:List (Addr×Obj)}{σ:L2.St}{H:Hp}{s:Shared}
end
end L3
namespace HT
open PySem PyProof.Rows
section
variable {prog:Program}{w:World}{A:Around}{E:Value->Shared->Prop}{s:Shared}
end
end HT
namespace L3
open PySem PySem.Spec PyProof.Rows L2 SeqAt
section
variable {X:Cx}{xw:XW}{a:Expr}{lo hi:Option Expr}{fa:Ga->Res D}{fl fh:Ga->Res (Option Int)}{pos p2:Pos}
def slW(d:D)(lo hi:Option Int):Res D:=match d with
 | .tup ds=>.ok (.tup (cutD ds lo hi))
 | .lst ds=>.ok (.lst (cutD ds lo hi))
 |_=>.stuck
end
theorem HB(ds:List D)(lo hi:Option Int):slW (.lst ds) lo hi=.ok (.lst (cutD ds lo hi)):=rfl
end L3
namespace HT
open PySem PyProof.Rows
section
variable {prog:Program}{w:World}{A:Around}{E:Value->Shared->Prop}{s:Shared}
end
end HT
namespace L3
open PySem PySem.Spec PyProof.Rows L2 SeqAt
section
variable {X:Cx}{xw:XW}{a st:Expr}{fa:Ga->Res D}{pos p2:Pos}
end
end L3
namespace L3
open PySem PySem.Spec PyProof.Rows L2
variable{K:Frag}{xw:XW}{W₀ W W1:WS}{H₀ H:Hp}{Dn:Ends}
section
variable {H1:Hp}
def RSO(K:Frag)(xw:XW)(W₀:WS)(H₀:Hp)(W:WS)(H:Hp)(o:Out)(Dn:Ends):Prop:=match o with
 | .rt (.lst ds)=>∀ a xs H',Same H₀ H'->H₀ a=none->H' a=some (.lst xs)->HasL K (λb=>W₀ b\/b=a) H' ds xs->Dn.rt (.ref a) H'
 |o=>RS K xw W₀ H₀ W H o Dn
def P9(K:Frag)(xw:XW)(g:Ga->Out):TS:=λDn σ H=>∃ W₀ H₀ W δ,StHas K W₀ H₀ W H σ δ/\RSO K xw W₀ H₀ W H (g δ) Dn
end
structure NoL(g:Ga->Out):Prop where
 h:∀ δ ds,g δ≠ .rt (.lst ds)
variable{X:Cx}{st:Stmt}{pos:Pos}{a:Expr}
section
variable {sts:List Stmt}{g1 g2:Ga->Out}{p:Pos}{es:List Expr}
structure XSO(X:Cx)(xw:XW)(sts:List Stmt)(g:Ga->Out):Prop where
 h:PSs X sts (P9 X.K xw g)
def spO(K:Frag)(n:Nat)(m:List D->Res D):Sp:=λvs H Q _=>vs.length=n/\∃ W ds,WL W H/\HasL K W H ds vs/\match m ds with
 | .ok (.lst fs)=>∀ a xs H',Same H H'->H a=none->H' a=some (.lst xs)->HasL K (λb=>W b\/b=a) H' fs xs->Q (.ref a) H'
 | .ok d=>∀ v H',Same H H'->Has K W H' d v->Q v H'
 |_=>False
structure FnO(P:Program)(w:World)(K:Frag)(mg:Str->Option Value)(base:Heap)(k:Nat)(x:Str)(n:Nat)(m:List D->Res D):Prop where
 ex:∃ f fd ps,FnOk P w K mg base Co k f fd ps (spO K n m)/\mg x=some (.ref f)/\keepIn K (.ref f)=true/\Binds K fd ps []
def U8(i:Nat)(δ:Ga):D->Out
 | .lst ds=>.nx (δ.set i (some (.o ds)))
 |d=>.nx (δ.set i (some (.d d)))
def UA(i:Nat)(f:Ga->Res D):Ga->Out:=λδ=>Wk (f δ) (U8 i δ)
def TV(K:Frag)(W:WS)(H:Hp):List D->List V->Prop
 | [],xs=>xs= []
 |d::ds,xs=>∃ x r,xs=x::r/\HasT K W H d x/\TV K W H ds r
def RAP(K:Frag)(xw:XW)(W:WS)(H:Hp)(r:Res (List D))(Q:List V->Hp->Prop):Prop:=match r with
 | .ok ds=>∀ vs H',Same H H'->TV K W H' ds vs->Q vs H'
 | .ex c fs=>∀ H',Same H H'->xw c fs H'
 | .stuck=>False
structure XAP(X:Cx)(xw:XW)(es:List Expr)(f:Ga->Res (List D)):Prop where
 h:PA X es λσ H Q=>∃ W₀ H₀ W δ,StHas X.K W₀ H₀ W H σ δ/\RAP X.K xw W H (f δ) Q
end
open SeqAt
variable{α:Type}{k:Jd}
section
variable {β:Type}
def Cp(l:List (Jd×α))(k:Jd):Option α:=(l.find? λp=>decide (p.1=k)).map (·.2)
def U9(l:List (Jd×α))(k:Jd):Bool:=l.any λp=>decide (p.1=k)
def J6(l:List (Jd×α))(k:Jd)(y:α):List (Jd×α):=if U9 l k=true then l.map (λp=>if p.1=k then(p.1,y) else p) else l++ [(k,y)]
theorem Ep{p:Jd×α}{r:List (Jd×α)}(e:p.1=k):Cp (p::r) k=some p.2:=by simp[Cp,find?_cons,e]
theorem Dp{p:Jd×α}{r:List (Jd×α)}(e:¬ p.1=k):Cp (p::r) k=Cp r k:=by simp[Cp,find?_cons,e]
end
variable{kvs:List (Jd×V)}
theorem LZ{vs:List (Jd×Value)}(r:KV kvs vs)(k:Jd):(∀ v,Cp kvs k=some v->∃ u,valueAt vs k=some u/\RelV v u)/\(Cp kvs k=none->valueAt vs k=none):=by
 unfold KV at r
 induction r with
 |nil=>exact⟨(λv e=>by cases e),λ_=>rfl⟩
 |@cons p q ps qs h t ih=>
  obtain⟨h1,h2⟩:=h
  by_cases e:p.1=k
  .have b:valueAt (q::qs) k=some q.2:=by simp[valueAt,find?_cons,h1.symm.trans e]
   rw[Ep e,b]
   exact⟨λv z=>by cases z;exact⟨_,rfl,h2⟩,λz=>by cases z⟩
  .have e':¬ q.1=k:=λz=>e (h1.trans z)
   have b:valueAt (q::qs) k=valueAt qs k:=by simp[valueAt,find?_cons,e']
   rw[Dp e,b];exact ih
variable{ks:List Jd}{ds:List D}{H':Hp}
section
variable {K:Frag}{W:WS}{H:Hp}
def HasP(K:Frag)(W:WS)(H:Hp)(l:List (Jd×D))(kvs:List (Jd×V)):Prop:=kvs.map (·.1)=l.map (·.1)/\HasL K W H (l.map (·.2)) (kvs.map (·.2))
theorem HasP.nil:HasP K W H [] []:=⟨rfl,HasL.nil⟩
theorem HasP.cons{p:Jd×D}{l:List (Jd×D)}{kvs:List (Jd×V)}(h:HasP K W H (p::l) kvs):∃ v r,kvs=(p.1,v)::r/\Has K W H p.2 v/\HasP K W H l r:=by
 obtain⟨h1,h2⟩:=h
 cases kvs with
 |nil=>cases h1
 |cons q r=>
  rw[map_cons,map_cons]at h1 h2
  rw[HasL]at h2
  obtain⟨x,t,e,g1,g2⟩:=h2
  cases e
  have h3:=List.cons.inj h1
  exact⟨q.2,r,by rw[<-h3.1],g1,h3.2,g2⟩
theorem HasP.of(h1:kvs.map (·.1)=ks)(h2:HasL K W H ds (kvs.map (·.2))):HasP K W H (ks.zip ds) kvs/\(ks.zip ds).map (·.1)=ks/\(ks.zip ds).map (·.2)=ds:=by
 have hl:ks.length=ds.length:=by rw[<-h1,h2.length,length_map,length_map]
 have e1:(ks.zip ds).map (·.1)=ks:=by rw[<-List.unzip_fst,List.unzip_zip hl]
 have e2:(ks.zip ds).map (·.2)=ds:=by rw[<-List.unzip_snd,List.unzip_zip hl]
 exact⟨⟨by rw[e1,h1],by rw[e2];exact h2⟩,e1,e2⟩
theorem HasP.same{l:List (Jd×D)}(h:HasP K W H l kvs)(k:Same H H')(w:WL W H):HasP K W H' l kvs:=⟨h.1,h.2.same k w⟩
theorem HasP.get:∀ {l:List (Jd×D)} {kvs:List (Jd×V)},HasP K W H l kvs->∀ (k:Jd),(∀ d,Cp l k=some d->∃ v,Cp kvs k=some v/\Has K W H d v)/\(Cp l k=none->Cp kvs k=none)
 | [],kvs,h,k=>by
  obtain⟨h1,_⟩:=h
  cases kvs with
  |nil=>exact⟨(λd e=>by cases e),λ_=>rfl⟩
  |cons _ _=>cases h1
 |p::l,kvs,h,k=>by
  obtain⟨v,r,rfl,h1,h2⟩:=h.cons
  by_cases e:p.1=k
  .rw[Ep e,Ep (p:=(p.1,v)) e]
   exact⟨λd z=>by cases z;exact⟨v,rfl,h1⟩,λz=>by cases z⟩
  .rw[Dp e,Dp (p:=(p.1,v)) e];exact h2.get k
end
variable{b e:Expr}{fa fb f:Ga->Res D}{P:Program}{w:World}{fq:Ga->Res (List (Jd×D))}{σ:L2.St}{i:Nat}{o:Out}{g:Ga->Out}{s:Shared}
section
variable {ie:Expr}{p p1 p2:Pos}{fi:Ga->Res D}
theorem NC{u:Value}(r:RelV (kV k) u):(Ef P w).is k u=true:=Ur r
theorem S5{h:Heap}{a:Addr}(ok:HOk P w H h)(e:Rd H a (.dK kvs)):kvs.length<=sizeLine/\(a==sysModules)=false/\∃ vs,KV kvs vs/\h.DictOf (Ef P w) a vs:=by
 rcases e with e|⟨o,e⟩
 .exact ok a _ e
 .exact(show _/\_ from ok a _ e).2
theorem Rd.same{a:Addr}{u:HO}(h:Rd H a u)(k:Same H H'):Rd H' a u:=h.imp (k _ _) λ⟨o,e⟩=>⟨o,k _ _ e⟩
def Z8:R2:=λx y H Q=>∃ a kvs k v,x=.ref a/\Rd H a (.dK kvs)/\y=kV k/\Cp kvs k=some v/\Q v H
theorem MF{ta tb:TE}(ha:PE X a ta)(hb:PE X b tb)(hs:Oh b):PE X (.Subscript a b pos) (K3 Z8 ta tb):=by
 intro pins s σ H Q I h
 refine Subscript_ (AK ha hb I h λv u s2 x y H2 I2 rx ry q=>?_)
 obtain⟨d,kvs,k,z,rfl,hd,rfl,hg,q⟩:=q
 cases rx
 obtain⟨_,hS,vs,rel,dd⟩:=S5 I2.hok hd
 obtain⟨w',hw,rw'⟩:=(LZ rel k).1 z hg
 unfold subscriptTail
 refine wpAny_bind ?_
 rw[getitemInPython_of_ne dd.typeIs.not_modules]
 refine wpAny_bind (wpAny_specialOf dd.typeIs PySem.F.slot_dict_getitem.lookup ?_)
 have fin:wpAny (model X.prog X.w) X.A (subscripted b false (.ref d) u) (λr s₃=>wpAny (model X.prog X.w) X.A (letTemporaryGo a (.ref d) r >>= λ_=>pure r) (EP X pins σ Q) X.xe s₃) X.xe s2:=by
  rw[hs (.ref d) u]
  exact wpAny_operating (wpAny_getItem_of (NC ry) dd.mapOf hw (wpAny_bind (wpAny_letTemporaryGo (wpAny_pure ⟨z,H2,I2.tok _,rw',q⟩))))
 first
  |exact wpAny_pure (wpAny_bind fin)
  |exact wpAny_bind (wpAny_pure (wpAny_bind fin))
  |exact wpAny_bind fin
def RQ(K:Frag)(xw:XW)(W:WS)(H:Hp)(r:Res (List (Jd×D)))(Q:VK):Prop:=match r with
 | .ok l=>∀ a kvs H',Same H H'->Rd H' a (.dK kvs)->HasP K W H' l kvs->Q (.ref a) H'
 | .ex c fs=>∀ H',Same H H'->xw c fs H'
 | .stuck=>False
def tDQ(K:Frag)(xw:XW)(f:Ga->Res (List (Jd×D))):TE:=λσ H Q=>∃ W₀ H₀ W δ,StHas K W₀ H₀ W H σ δ/\RQ K xw W H (f δ) Q
structure XQ(X:Cx)(xw:XW)(e:Expr)(f:Ga->Res (List (Jd×D))):Prop where
 h:PE X e (tDQ X.K xw f)
def Gg(i:Nat):Ga->Res (List (Jd×D)):=λδ=>match δ[i]? with
 |some (some (.q ks ds))=>.ok (ks.zip ds)
 |some (some (.d (.dct ks ds)))=>.ok (ks.zip ds)
 |_=>.stuck
theorem Kt(i:Nat){x:Str}(hN:X.N[i]? =some x:=by rfl)(hv:Jw X.env.scope x:=by first|exact Or.inl rfl|exact Or.inr (Or.inl rfl)|exact Or.inr (Or.inr rfl))(hd:(x==("__debug__":Str))=false:=by decide)(hcd:(x==("__classdict__":Str))=false:=by decide):XQ X xw (.Name x pos) (Gg i):=
 ⟨PE.weak (Fh hN hv hd hcd) λσ H Q ⟨W₀,H₀,W,δ,st,q⟩=>by
  unfold Gg at q
  split at q
  .rename_i ks ds h
   obtain⟨v,e1,a,kvs,rfl,r2,r3,r4,r5,r6⟩:=st.at' i _ h
   exact⟨_,e1,q a kvs H (Same.refl H) (.inl r4) (HasP.of r5 r6).1⟩
  .rename_i ks ds h
   obtain⟨v,e1,r⟩:=st.at' i _ h
   have r':Has X.K W H (.dct ks ds) v:=r
   rw[Has]at r'
   obtain⟨a,kvs,rfl,r4,r5,r6⟩:=r'
   exact⟨_,e1,q a kvs H (Same.refl H) (.inr r4) (HasP.of r5 r6).1⟩
  .exact q.elim⟩
def C4(op:D->Res α)(f:Ga->Res D):Ga->Res α:=λδ=>(f δ).bind op
def Se(l:List (Jd×D))(d:D):Res D:=match SS d with
 |some k=>match Cp l k with
  |some x=>.ok x
  |none=>.stuck
 |none=>.stuck
def Br(op:List (Jd×D)->D->Res α)(f:Ga->Res (List (Jd×D)))(g:Ga->Res D):Ga->Res α:=λδ=>(f δ).bind λl=>(g δ).bind λd=>op l d
theorem Tz{d:D}{v:V}(h:HasT K W H d v)(e:SS d=some k):v=kV k:=by
 cases d with
 |int i=>cases e;exact h.int
 |str x=>cases e;exact h.str
 |_=>cases e
theorem Bo(ha:XQ X xw a fq)(hb:XP X xw b fb)(hs:Oh b:=by intro _ _;rfl):XE X xw (.Subscript a b pos) (Br Se fq fb):=
 ⟨PE.weak (MF ha.h hb.h hs) λσ H Q ⟨W₀,H₀,W,δ,st,q⟩=>by
  refine⟨W₀,H₀,W,δ,st,?_⟩
  unfold Br at q
  cases h1:fq δ with
  |stuck=>rw[h1]at q;exact q
  |ex c fs=>rw[h1]at q;exact q
  |ok l=>
   rw[h1]at q
   intro ad kvs H1 k1 hd hp
   refine⟨W₀,H₀,W,δ,st.same k1,?_⟩
   have q':RE X.K xw W H ((fb δ).bind λd=>Se l d) Q:=q
   cases h2:fb δ with
   |stuck=>rw[h2]at q';exact q'
   |ex c fs=>rw[h2]at q';exact λH2 k2=>q' H2 (k1.trans k2)
   |ok d=>
    rw[h2]at q'
    intro v H2 k2 hv
    have q2:RE X.K xw W H (Se l d) Q:=q'
    unfold Se at q2
    split at q2
    .rename_i k hk
     split at q2
     .rename_i x hx
      have hp2:=hp.same k2 (st.fr.wl.same k1)
      obtain⟨z,hz,hh⟩:=(hp2.get k).1 x hx
      exact⟨ad,kvs,k,z,rfl,Rd.same hd k2,Tz hv hk,hz,q2 z H2 (k1.trans k2) hh⟩
     .exact q2.elim
    .exact q2.elim⟩
def SA(i:Nat):Ga->Out:=λδ=>.nx (δ.set i (some (.q [] [])))
def W8(i:Nat)(δ:Ga)(l:List (Jd×D))(d ix:D):Out:=match SS ix with
 |some k=>if l.length<=1000 then .nx (δ.set i (some (.q ((J6 l k d).map (·.1)) ((J6 l k d).map (·.2))))) else .stuck
 |none=>.stuck
def X8(i:Nat)(fi:Ga->Res D)(δ:Ga)(d:D):Out:=match δ[i]? with
 |some (some (.q ks ds))=>Wk (fi δ) (W8 i δ (ks.zip ds) d)
 |_=>.stuck
def VA(i:Nat)(fi f:Ga->Res D):Ga->Out:=λδ=>Wk (f δ) (X8 i fi δ)
def NY(i:Nat)(δ:Ga):Ga:=match δ[i]? with
 |some (some (.q ks ds))=>δ.set i (some (.d (.dct ks ds)))
 |some (some (.o ds))=>δ.set i (some (.d (.lst ds)))
 |_=>δ
theorem StHas.frzQ{δ:Ga}{a:Addr}(o:Obj)(h:StHas K W₀ H₀ W H σ δ)(hi:δ[i]? =some (some (.q ks ds)))(hs:σ[i]? =some (some (.ref a)))(hW:W a)(h4:kvs.map (·.1)=ks)(h5:HasL K W H ds (kvs.map (·.2))):StHas K W₀ H₀ (λb=>W b/\b≠a) (Ib H a (.frz o (.dK kvs))) σ (δ.set i (some (.d (.dct ks ds)))):=by
 have kk:Zi W H (Ib H a (.frz o (.dK kvs))):=λb u e n=>by rw[Ea (λz=>n (by rw[z];exact hW))];exact e
 refine h.freezeH (owq ks ds) hi hs ?_
 rw[Has]
 exact⟨a,kvs,rfl,⟨o,Ra⟩,h4,HasL.keep kk h.fr.wl (λb z=>.inl z.1) h5⟩
theorem Step.less{W2:WS}{H2:Hp}(hw:∀ b,W1 b->W b)(k:Step W1 H W2 H2):Step W H W2 H2:=⟨λb o e n=>k.keep b o e λz=>n (hw b z),λb z=>(k.new b z).imp (hw b) id⟩
theorem RS.less{xw:XW}(hw:∀ b,W1 b->W b)(q:RS K xw W₀ H₀ W H o Dn):RS K xw W₀ H₀ W1 H o Dn:=by
 cases o with
 |nx δ=>exact λW' H' σ k s=>q W' H' σ (k.less hw) s
 |bk δ=>exact λW' H' σ k s=>q W' H' σ (k.less hw) s
 |ct δ=>exact λW' H' σ k s=>q W' H' σ (k.less hw) s
 |rt d=>exact q
 |ex c fs=>exact q
 |stuck=>exact q
def SU(i:Nat)(g:Ga->Out):Ga->Out:=λδ=>g (NY i δ)
theorem RS.note{xw:XW}{a:Addr}{ob:HO}(hW:W a)(q:RS K xw W₀ H₀ W H o Dn):RS K xw W₀ H₀ (λb=>W b/\b≠a) (Ib H a ob) o Dn:=by
 have st:∀ W' H',Step (λb=>W b/\b≠a) (Ib H a ob) W' H'->Step W H W' H':=λW' H' k=>⟨λb u e n=>by
   have hb:b≠a:=λz=>n (by rw[z];exact hW)
   exact k.keep b u (by rw[Ea hb];exact e) λz=>n z.1,λb z=>by
   rcases k.new b z with z|z
   .exact .inl z.1
   .by_cases hb:b=a
    .rw[hb,Ra]at z;cases z
    .rw[Ea hb]at z;exact .inr z⟩
 cases o with
 |nx δ=>exact λW' H' σ k s=>q W' H' σ (st _ _ k) s
 |bk δ=>exact λW' H' σ k s=>q W' H' σ (st _ _ k) s
 |ct δ=>exact λW' H' σ k s=>q W' H' σ (st _ _ k) s
 |rt d=>exact q
 |ex c fs=>exact q
 |stuck=>exact q
theorem NL{pins:List (Addr×Obj)}(I:Inv X pins σ H s)(h:CV X.K xw (SU i g) Dn σ H):∃ H',Inv X pins σ H' s/\CV X.K xw g Dn σ H':=by
 obtain⟨W₀,H₀,W,δ,st,q⟩:=h
 have q':RS X.K xw W₀ H₀ W H (g (NY i δ)) Dn:=q
 unfold NY at q'
 split at q'
 .rename_i ks ds h
  obtain⟨v,e,a,kvs,rfl,r2,r3,r4,r5,r6⟩:=st.at' i _ h
  have ok:=I.hok _ _ r4
  obtain⟨z,hS,vs,rel,dd⟩:=id ok
  obtain⟨o,es,ep,ho,_⟩:=dd
  refine⟨_,I.write (x:=a) (e:=a) (o:=.frz o (.dK kvs)) (h':=s.heap) (t':=s.toks) (by rw[r4];exact trivial) (.inl rfl) (λb' u hb hu=>hu) ⟨_,ho⟩ ⟨ho,ok⟩,W₀,H₀,_,_,st.frzQ o h e r2 r5 r6,RS.note r2 q'⟩
 .rename_i ds h
  obtain⟨v,e,a,xs,rfl,_⟩:=st.at' i _ h
  exact⟨H,I,W₀,H₀,_,_,(st.freeze h e).1,RS.less (λb z=>z.1) q'⟩
 .exact⟨H,I,W₀,H₀,W,δ,st,q'⟩
theorem U5(i:Nat)(h:XS X xw st g):XS X xw st (SU i g):=⟨λpins s σ H Dn I q=>let ⟨H',I',q'⟩:=NL I q;h.h pins s σ H' Dn I' q'⟩
end
variable{tg:Expr}{apos:Pos}
section
variable {elts:List Expr}{kt:Nat}{pt:Pos}
end
section
variable {p pos2:Pos}
end
variable{prog:Program}{A:Around}{E:Value->Shared->Prop}
section
variable {p:Pos}{fs:Ga->Res (List D)}
end
section
variable {KK:Type}[DecidableEq KK]{knd:KeyKind prog w KK}{R:Result->Shared->Prop}{I:Addr}{fp wr:List Addr}{G:Array GenState->Array GenState->Prop}{n:Nat}{P:Nat->Value->Prop}{St:Nat->Shared->Prop}
end
section
variable {p:Pos}
end
structure FunD(K:Frag)(x qual:Str)(st:Stmt)(f:Addr)(fd:FuncData)(dV:Value):Prop where
 ex:∃ (oc:Value) (od:Option Addr) (kV doc pm:Value) (an:Option Addr) (cdv ct:Value) (osl:Array (Option Value)),
  fd=fnOf x qual (Jb st) (Xa st) (Da st) dV kV doc pm an cdv ct/\K.lookup f=some ⟨oc,od,.func fd,osl⟩/\codeIn K cdv qual=true
 kp:keepIn K (.ref f)=true
section
variable {mg:Str->Option Value}{base:Heap}
end
section
variable {p:Pos}
end
structure FnL(P:Program)(w:World)(K:Frag)(mg:Str->Option Value)(base:Heap)(k:Nat)(x:Str)(n:Nat)(m:List D->Res D)(i:Int):Prop where
 ex:∃ (fa:Addr) (fd:FuncData) (ps:List Str) (v0:Value),FnOk P w K mg base Co k fa fd ps (K2 K n m)/\mg x=some (.ref fa)/\keepIn K (.ref fa)=true/\Binds K fd ps [v0]/\RelV (.int i) v0
end L3
namespace PySem
open Sem (wp)
def D2(o o':Obj):Prop:=o'.dict=o.dict/\∀ vs,o.data=.fields vs->∃ vs',o'.data=.fields vs'/\vs'[2]? =vs[2]?
theorem D2.refl(o:Obj):D2 o o:=⟨rfl,λvs e=>⟨vs,e,rfl⟩⟩
theorem D2.trans{a b c:Obj}(x:D2 a b)(y:D2 b c):D2 a c:=⟨y.1.trans x.1,λvs e=>by
 obtain⟨v1,e1,q1⟩:=x.2 vs e
 obtain⟨v2,e2,q2⟩:=y.2 v1 e1
 exact⟨v2,e2,q2.trans q1⟩⟩
def DK(h h':Heap):Prop:=∀ b o,h.get? b=some o->∃ o',h'.get? b=some o'/\D2 o o'
theorem DK.refl(h:Heap):DK h h:=λ_ o e=>⟨o,e,D2.refl o⟩
theorem DK.trans{h1 h2 h3:Heap}(x:DK h1 h2)(y:DK h2 h3):DK h1 h3:=λb o e=>
 let ⟨o1,e1,d1⟩:=x b o e
 let ⟨o2,e2,d2⟩:=y b o1 e1
 ⟨o2,e2,d1.trans d2⟩
theorem DK.push(h:Heap)(o:Obj):DK h (h.push o):=λb u e=>⟨u,get?_push_of_some o e,D2.refl u⟩
theorem DK.upd(h:Heap)(a:Addr)(f:Obj->Obj)(hd:∀ o,h.get? a=some o->D2 o (f o))(hf:∀ o,h.get? a=some o->(f o).isFreed=false):DK h (h.update a f):=λb u e=>by
 by_cases hb:a=b
 .subst hb
  exact⟨f u,get?_update_self f e (hf u e),hd u e⟩
 .exact⟨u,(Heap.get?_update_other h f hb).trans e,D2.refl u⟩
structure KeepD{α:Type}(t:Sem α):Prop where
 out:∀ (M:Model) (Γ:Ctx) (P:α->Pos->Shared->Prop) (Ee:Value->Pos->Shared->Prop) (p:Pos) (s:Shared),wp M Γ t P Ee p s->wp M Γ t (λa p' s'=>P a p' s'/\DK s.heap s'.heap) Ee p s
namespace KeepD
variable {α β:Type}
theorem now(a:α):KeepD (Pure.pure a:Sem α):=⟨λ_ _ _ _ _ _ h=>⟨h,DK.refl _⟩⟩
theorem off(w:String):KeepD (PySem.unsupported w:Sem α):=⟨λ_ _ _ _ _ _ h=>h⟩
theorem seq{m:Sem α}{f:α->Sem β}(hm:KeepD m)(hf:∀ a,KeepD (f a)):KeepD (m >>= f):=⟨λM Γ P Ee p s h=>by
 rw[Sem.wp_bind']at h ⊢
 refine Sem.wp_mono M Γ m (λa p1 s1 h1=>?_) (λ_ _ _ x=>x) p s (hm.out M Γ _ Ee p s h)
 exact Sem.wp_mono M Γ (f a) (λb p2 s2 h2=>⟨h2.1,h1.2.trans h2.2⟩) (λ_ _ _ x=>x) p1 s1 ((hf a).out M Γ P Ee p1 s1 h1.1)⟩
theorem cond{c:Prop}[Decidable c]{t u:Sem α}(ht:KeepD t)(hu:KeepD u):KeepD (if c then t else u):=by split<;>assumption
theorem ld(a:Addr):KeepD (PySem.load a):=⟨λM Γ P Ee p s h=>by
 unfold PySem.load at h ⊢
 rw[Sem.wp_load]at h ⊢
 obtain⟨o,e,q⟩:=h
 rw[Sem.wp_pure]at q
 exact⟨o,e,by rw[Sem.wp_pure];exact⟨q,DK.refl _⟩⟩⟩
theorem up(a:Addr)(f:Obj->Obj)(hd:∀ o,(f o).dict=o.dict)(he:∀ o,(f o).data=o.data):KeepD (PySem.update a f):=⟨λM Γ P Ee p s h=>by
 unfold PySem.update at h ⊢
 rw[Sem.wp_update]at h ⊢
 obtain⟨e,q⟩:=h
 rw[Sem.wp_pure]at q
 refine⟨e,?_⟩
 rw[Sem.wp_pure]
 refine⟨q,DK.upd _ _ _ (λo _=>⟨hd o,λvs e=>⟨vs,(he o).trans e,rfl⟩⟩) λo ho=>?_⟩
 have al:=((Heap.get?_eq_some _ _ _).1 ho).2
 have h1:=he o
 revert h1
 generalize f o=u
 intro h1
 obtain⟨c1,d1,t1,s1⟩:=u
 obtain⟨c2,d2,t2,s2⟩:=o
 dsimp only at h1
 subst h1
 cases t1<;>first|rfl|cases al⟩
theorem stk:KeepD PySem.stack:=⟨λM Γ P Ee p s h=>by
 unfold PySem.stack at h ⊢
 rw[Sem.wp_stack]at h ⊢
 rw[Sem.wp_pure]at h ⊢
 exact⟨h,DK.refl _⟩⟩
theorem new(o:Obj):KeepD (PySem.alloc o):=⟨λM Γ P Ee p s h=>by
 unfold PySem.alloc at h ⊢
 rw[Sem.wp_alloc,Sem.wp_pure]at h ⊢
 exact⟨h,DK.push _ _⟩⟩
theorem fld(v:Value)(i:Nat):KeepD (PySem.field v i):=⟨λM Γ P Ee p s h=>by
 rw[wp_field_iff]at h ⊢
 obtain⟨a,o,vs,x,e1,e2,e3,e4,q⟩:=h
 exact⟨a,o,vs,x,e1,e2,e3,e4,q,DK.refl _⟩⟩
theorem put(v:Value)(i:Nat)(x:Value)(hi:i≠2):KeepD (PySem.setField v i x):=⟨λM Γ P Ee p s h=>by
 rw[wp_setField_iff]at h ⊢
 obtain⟨a,o,vs,e1,e2,e3,e4,q⟩:=h
 refine⟨a,o,vs,e1,e2,e3,e4,q,DK.upd _ _ _ (λu hu=>⟨?_,λws ew=>⟨_,Obj.data_mapFields ew _,?_⟩⟩) λu hu=>?_⟩
 .unfold Obj.mapFields;split<;>rfl
 .exact Array.getElem?_setIfInBounds_ne hi
 .rw[e2]at hu;cases hu
  exact Obj.isFreed_of_fields (Obj.data_mapFields e3 _)⟩
end KeepD
local macro_rules| `(tactic| walk_at "keepd")=> `(tactic| repeat' with_reducible first
  |assumption
  |exact KeepD.now _
  |exact KeepD.off _
  |exact KeepD.fld _ _
  |exact KeepD.put _ _ _ (by decide)
  |exact KeepD.ld _
  |exact KeepD.stk
  |exact KeepD.new _
  |exact KeepD.up _ _ (λ_=>rfl) (λ_=>rfl)
  |apply KeepD.cond
  |apply KeepD.seq
  |intro _
  |split)
theorem EZ(env:Env)(outer:List Env):KeepD (behindIsImport env outer):=by
 unfold behindIsImport
 walk_at "keepd"
theorem XH:KeepD underTheClaimsCaller:=by
 unfold underTheClaimsCaller
 walk_at "keepd"
theorem OS(env:Env)(i:Bool)(l:List Env):KeepD (keptBack env i l):=by
 have:=XH
 cases l<;>unfold keptBack<;>walk_at "keepd"
theorem Sz:∀ l:List Env,KeepD (readyFrames l)
 | []=>KeepD.now _
 |env::outer=>by
  have r:=Sz outer
  have a:=EZ env outer
  have b:=λi=>OS env i outer
  unfold readyFrames
  walk_at "keepd"
  all_goals first|exact b _|skip
theorem KM(l:List Env):KeepD (frameObject l):=by
 cases l with
 |nil=>exact KeepD.now _
 |cons env outer=>
  have r:=Sz (env::outer)
  unfold frameObject
  walk_at "keepd"
theorem X4(env:Env):KeepD (frameOf env):=by
 have a:KeepD frameEnvs:=by unfold frameEnvs;walk_at "keepd"
 have b:=KM
 unfold frameOf
 walk_at "keepd"
 all_goals first|exact b _|skip
theorem LM(f:Addr)(b:Bool):KeepD (entryPlaceOf f b):=by
 unfold entryPlaceOf
 walk_at "keepd"
theorem JM(a b c d e:Value)(l:List Value):KeepD (EntryCells.newEntry a b c d e l):=by
 unfold EntryCells.newEntry newFields newObj newObjAsIs
 dsimp only
 walk_at "keepd"
theorem Ix(e:Value)(env:Env):KeepD (noteFrame e env):=by
 have a:=X4 env
 have b:=LM
 have c:=JM
 unfold noteFrame
 walk_at "keepd"
 all_goals first|exact b _ _|exact c _ _ _ _ _ _|skip
theorem Rj(e:Value)(f:Option Addr):KeepD (setFlight e f):=by
 unfold setFlight
 walk_at "keepd"
theorem Os(env:Env)(e:Value):KeepD (leaving env e):=by
 have a:=Ix e env
 have b:=Rj e none
 unfold leaving
 walk_at "keepd"
variable{α:Type}{M:Model}{A:Around}{E:Value->Shared->Prop}{s:Shared}
theorem KeepD.anyK{t:Sem α}(k:KeepD t){Q:α->Shared->Prop}(h:wpAny M A t Q E s):wpAny M A t (λv s'=>Q v s'/\DK s.heap s'.heap) E s:=
 λΓ p hΓ=>k.out M Γ _ _ p s (h Γ p hΓ)
theorem KeepD.thn{t:Sem α}(k:KeepD t){Q Q':α->Shared->Prop}(h:wpAny M A t Q E s)(g:∀ v s',Q v s'->DK s.heap s'.heap->Q' v s'):wpAny M A t Q' E s:=
 wpAny_mono (KeepD.anyK k h) (λv s' q=>g v s' q.1 q.2) λ_ _ z=>z
end PySem
namespace L3
open PySem PySem.Spec PyProof.Rows L2 SeqAt
def DcOk(dx:Dx)(o:Obj):Prop:=o.dict=dx.1/\(dx.2=true->∃ vs,o.data=.fields vs/\vs[2]? =some .none)
variable{dx:Dx}{o:Obj}
theorem DcOk.to{o':Obj}(h:DcOk dx o)(d:D2 o o'):DcOk dx o':=⟨d.1.trans h.1,λz=>by
 obtain⟨vs,e,q⟩:=h.2 z
 obtain⟨vs',e',q'⟩:=d.2 vs e
 exact⟨vs',e',q'.trans q⟩⟩
structure Fly(P:Program)(w:World)(l:List Env)(H:Hp)(s:Shared)(H':Hp)(a:Addr)(cls:Value)(dx:Dx)(h:Heap):Prop where
 un:Un (Re l) [] H H' s.heap h
 hok:HOk P w H' h
 frf:∀ b∈Re l,H' b=none
 new:s.heap.get? a=none
 nh:H' a=none
 dc:∃ o,h.get? a=some o/\DcOk dx o
 fl:∃ B a0,FlyingW B l a cls a0 h/\∀ b,b∉Re l->((H' b).isSome=true\/(s.heap.get? b).isSome=true)->(B.get? b).isSome=true
variable{P:Program}{w:World}{H:Hp}{a:Addr}
theorem To{h:Heap}{o:HO}(x:ObjOk P w H h a o):∃ u,h.get? a=some u:=by
 induction o with
 |lst xs=>obtain⟨_,_,_,_,e⟩:=x;exact⟨_,e⟩
 |tup xs=>obtain⟨_,_,_,ob,e,_⟩:=x;exact⟨_,e⟩
 |dK kvs=>obtain⟨_,_,_,_,ob,_,_,e,_⟩:=x;exact⟨_,e⟩
 |dT kvs=>obtain⟨_,_,_,_,ob,_,_,e,_⟩:=x;exact⟨_,e⟩
 |set S n=>obtain⟨ob,_,_,_,e,_⟩:=x;exact⟨_,e⟩
 |ins C dx fs=>obtain⟨_,_,_,e,_⟩:=x;exact⟨_,e⟩
 |own y=>exact x
 |xd fs=>obtain⟨_,⟨_,_,_,e,_⟩,_⟩:=x;exact⟨_,e⟩
 |rng lo hi=>obtain⟨_,_,_,e⟩:=x;exact⟨_,e⟩
 |frz ob u ih=>obtain⟨e,_⟩:=x;exact⟨_,e⟩
 |tbl ps=>exact⟨_,x⟩
 |met f y=>exact⟨_,x⟩
 |ext φ=>exact x.2.1
variable{H':Hp}{s:Shared}{cls a0:Value}{h' B:Heap}{b:Addr}
section
variable {l:List Env}{h:Heap}
theorem Nj(cov:∀ b,b∉Re l->((H' b).isSome=true\/(s.heap.get? b).isSome=true)->(B.get? b).isSome=true)(s1:B.StaysIn h)(s2:B.StaysIn h')(hb:b∉Re l)(q:(H' b).isSome=true\/(s.heap.get? b).isSome=true):h'.get? b=h.get? b:=by
 obtain⟨o,e⟩:=isSome_iff_exists.mp (cov b hb q)
 rw[s1 b o e,s2 b o e]
theorem Bm(f:FlyingW B l a cls a0 h)(up:h.UpToSlots h')(hb:b∈Re l)(e:h.get? b=some o):∃ sl,h'.get? b=some {o with slots:=sl}:=by
 obtain⟨_,o',e',nf⟩:=f.2.2.1.mem hb
 rw[e]at e'
 cases e'
 exact up b o e nf
theorem HY(un:Un (Re l) [] H H' s.heap h)(cov:∀ b,b∉Re l->((H' b).isSome=true\/(s.heap.get? b).isSome=true)->(B.get? b).isSome=true)(f:FlyingW B l a cls a0 h)(s2:B.StaysIn h')(up:h.UpToSlots h'):Un (Re l) [] H H' s.heap h' where
 keep:=λb o e n hb hx=>(Nj cov f.1 s2 hb (.inr (by rw[e];rfl))).trans (un.keep b o e n hb hx)
 slot:=λb o e n hb hx=>by
  obtain⟨sl,e1⟩:=un.slot b o e n hb hx
  obtain⟨sl',e2⟩:=Bm f up hb e1
  exact⟨sl',e2⟩
 free:=un.free
 there:=λb o e hx=>by
  obtain⟨o',e1⟩:=un.there b o e hx
  by_cases hb:b∈Re l
  .obtain⟨sl,e2⟩:=Bm f up hb e1
   exact⟨_,e2⟩
  .exact⟨o',(Nj cov f.1 s2 hb (.inr (by rw[e];rfl))).trans e1⟩
 tups:=un.tups
 frzs:=un.frzs
 tbls:=un.tbls
theorem VE(hok:HOk P w H' h)(frf:∀ b∈Re l,H' b=none)(cov:∀ b,b∉Re l->((H' b).isSome=true\/(s.heap.get? b).isSome=true)->(B.get? b).isSome=true)(s1:B.StaysIn h)(s2:B.StaysIn h'):HOk P w H' h':=λb u e=>by
 have tr:∀ c v,H' c=some v->c∉Re l:=λc v q z=>by rw[frf c z]at q;cases q
 refine(hok b u e).stay (λc v hc q=>?_) (λ_ q=>q) λ_ _ q=>q
 rcases hc with rfl|hc
 .exact(Nj cov s1 s2 (tr c u e) (.inl (by rw[e];rfl))).trans q
 .exact(Nj cov s1 s2 (tr c _ hc) (.inl (by rw[hc];rfl))).trans q
end
def Ty(P:Program)(w:World):Fw:=λl H s E e s'=>∃ a cls dx H',e=.ref a/\s'.os=s.os/\AllBare s'.gens/\Fly P w l H s H' a cls dx s'.heap/\E cls dx H'
variable{X:Cx}{pins:List (Addr×Obj)}{σ:L2.St}{s':Shared}{M:Model}{Ex:Value->Shared->Prop}{E:XK}{Q:Unit->Shared->Prop}
theorem Oj(hst:X.stack=X.env::X.outer)(hfr:X.env.frame=some X.env.locals):Re X.stack=X.env.locals::Re X.outer:=by
 rw[hst];unfold Re;rw[List.filterMap_cons,hfr]
theorem Cm(I:Inv X pins σ H s)(os:s'.os=s.os)(bare:AllBare s'.gens)(x:Fly X.prog X.w X.stack H s H' a cls dx s'.heap):Inv X pins σ H' s':=
 I.call' (ch:= []) os x.un x.hok bare λb z=>absurd z (by simp)
theorem JY(I:Inv X pins σ H s)(hex:X.ex= [])(hst:X.stack=X.env::X.outer)(hfr:X.env.frame=some X.env.locals)(os:s'.os=s.os)(bare:AllBare s'.gens)(x:Fly X.prog X.w X.stack H s H' a cls dx s'.heap)(hE:E cls dx H')(hQ:∀ s'',Ty X.prog X.w X.outer X.H₀ X.s₀ E (.ref a) s''->Q () s''):wpAny M X.A (leaving X.env (.ref a)) Q Ex s':=by
 have I':=Cm I os bare x
 obtain⟨B,a0,f,cov⟩:=x.fl
 have es:=Oj hst hfr
 have noex:∀ b,b∉X.ex:=λb=>by rw[hex];simp
 have f2:FlyingW B (X.env::X.outer) a cls a0 s'.heap:=by rw[<-hst];exact f
 have nl:∀ b,b∉Re X.outer->((H' b).isSome=true\/(X.s₀.heap.get? b).isSome=true)->b∉Re X.stack:=λb hb h z=>by
  rw[es]at z
  rcases mem_cons.mp z with z|z
  .rw[z]at h
   rcases h with h|h
   .rw[I'.free]at h;cases h
   .obtain⟨o,e⟩:=isSome_iff_exists.mp h
    exact absurd (lt_of_lt_of_le (lt_size e) I.ok.above) (lt_irrefl _)
  .exact hb z
 have old:∀ b,((H' b).isSome=true\/(X.s₀.heap.get? b).isSome=true)->((H' b).isSome=true\/(s.heap.get? b).isSome=true):=λb h=>by
  rcases h with h|h
  .exact .inl h
  .obtain⟨o,e⟩:=isSome_iff_exists.mp h
   obtain⟨o',e'⟩:=I.base.there b o e (noex b)
   exact .inr (by rw[e'];rfl)
 refine(Os X.env (.ref a)).thn (Q:=λ_ s''=>∃ h',s''= {s' with heap:=h'}/\FlyingW B X.outer a cls a0 h'/\s'.heap.UpToSlots h') (wpAny_leaves_onW (by rw[<-hst];exact I.ok.frames) hfr f2 λh' f' up=>⟨h',rfl,f',up⟩) λ_ s'' ⟨h',e'',f',up⟩ dk=>?_
 subst e''
 obtain⟨od,ed,dd⟩:=x.dc
 obtain⟨od',ed',dd'⟩:=dk a od ed
 refine hQ _ ⟨a,cls,dx,H',rfl,?_,bare,⟨⟨λb o e n hb hx=>?_,λb o e n hb hx=>?_,λb o e n hx=>I'.base.free b o e n (noex b),λb o e hx=>?_,I'.base.tups,I'.base.frzs,I'.base.tbls⟩,?_,λb hb=>x.frf b (by rw[es];exact mem_cons_of_mem _ hb),?_,x.nh,⟨od',ed',dd.to dd'⟩,B,a0,f',λb hb h=>cov b (nl b hb h) (old b h)⟩,hE⟩
 .exact os.trans I.os
 .exact(Nj cov f.1 f'.1 (nl b hb (.inr (by rw[e];rfl))) (old b (.inr (by rw[e];rfl)))).trans (I'.base.keep b o e n hb (noex b))
 .obtain⟨sl,e1⟩:=I'.base.slot b o e n hb (noex b)
  obtain⟨sl',e2⟩:=Bm f up (by rw[es];exact mem_cons_of_mem _ hb) e1
  exact⟨sl',e2⟩
 .obtain⟨o',e1⟩:=I'.base.there b o e (noex b)
  by_cases hb:b∈Re X.outer
  .obtain⟨sl,e2⟩:=Bm f up (by rw[es];exact mem_cons_of_mem _ hb) e1
   exact⟨_,e2⟩
  .exact⟨o',(Nj cov f.1 f'.1 (nl b hb (.inr (by rw[e];rfl))) (old b (.inr (by rw[e];rfl)))).trans e1⟩
 .exact VE x.hok x.frf cov f.1 f'.1
 .cases q:X.s₀.heap.get? a with
  |none=>rfl
  |some o=>
   obtain⟨o',e'⟩:=I.base.there a o q (noex a)
   have:=x.new
   rw[e']at this;cases this
theorem WR{args:List Value}(I:Inv X pins σ H s)(hex:X.ex= [])(hst:X.stack=X.env::X.outer)(hfr:X.env.frame=some X.env.locals)(os:s'.os=s.os)(bare:AllBare s'.gens)(x:Heap.MadeExcOf s.heap s'.heap a cls args)(hE:∀ d,E cls (d,true) H)(hQ:∀ s'',Ty X.prog X.w X.outer X.H₀ X.s₀ E (.ref a) s''->Q () s''):wpAny M X.A (leaving X.env (.ref a)) Q Ex s':=by
 have es:=Oj hst hfr
 have noex:∀ b,b∉X.ex:=λb=>by rw[hex];simp
 have hin:∀ env∈X.env::X.outer,∀ b,env.frame=some b->b∈Re X.stack:=λenv he b hb=>by
  rw[hst];exact mem_filterMap.mpr ⟨env,he,hb⟩
 have ff:s.heap.FunFrames (hideAll s.heap (Re X.stack)) (X.env::X.outer):=PySem.W.funFrames_hide (by rw[<-hst];exact I.stack) hin
 have nl:∀ b,b∉Re X.outer->((H b).isSome=true\/(X.s₀.heap.get? b).isSome=true)->b∉Re X.stack:=λb hb h z=>by
  rw[es]at z
  rcases mem_cons.mp z with z|z
  .rw[z]at h
   rcases h with h|h
   .rw[I.free]at h;cases h
   .obtain⟨o,e⟩:=isSome_iff_exists.mp h
    exact absurd (lt_of_lt_of_le (lt_size e) I.ok.above) (lt_irrefl _)
  .exact hb z
 have inB:∀ b o,s.heap.get? b=some o->b∉Re X.stack->(hideAll s.heap (Re X.stack)).get? b=some o:=λb o e hb=>hideAll_get _ e hb
 have slots:∀ {h':Heap} {b:Addr} {o:Obj},s'.heap.UpToSlots h'->b∈Re X.outer->s.heap.get? b=some o->∃ sl,h'.get? b=some {o with slots:=sl}:=λ{h' b o} up hb e=>by
  obtain⟨_,o',e',nf⟩:=I.funs.mem hb
  rw[e]at e';cases e'
  exact up b o (x.keeps b o e) nf
 obtain⟨t1,ed,_⟩:=x.there
 refine(Os X.env (.ref a)).thn (Q:=λ_ s''=>∃ h' t,s''= {s' with heap:=h'}/\FlyingW (hideAll s.heap (Re X.stack)) X.outer a cls (.ref t) h'/\s'.heap.UpToSlots h') (wpAny_leaves_madeW (base:=hideAll s.heap (Re X.stack)) (by rw[<-hst];exact I.ok.frames) hfr (λb o q=>of_hideAll _ q) ff x λh' t f' tup tn up=>⟨h',t,rfl,f',up⟩) λ_ s'' ⟨h',t,e'',f',up⟩ dk=>?_
 subst e''
 obtain⟨od',ed',dd'⟩:=dk a _ ed
 refine hQ _ ⟨a,cls,(none,true),H,rfl,?_,bare,⟨⟨λb o e n hb hx=>?_,λb o e n hb hx=>?_,λb o e n hx=>I.base.free b o e n (noex b),λb o e hx=>?_,I.base.tups,I.base.frzs,I.base.tbls⟩,λb u e=>?_,λb hb=>I.stkFree b (by rw[es];exact mem_cons_of_mem _ hb),?_,?_,⟨od',ed',DcOk.to (dx:=(none,true)) ⟨rfl,λ_=>⟨_,rfl,rfl⟩⟩ dd'⟩,_,_,f',λb hb h=>?_⟩,hE _⟩
 .exact os.trans I.os
 .exact f'.1 b o (inB b o (I.base.keep b o e n hb (noex b)) (nl b hb (.inr (by rw[e];rfl))))
 .obtain⟨sl,e1⟩:=I.base.slot b o e n hb (noex b)
  obtain⟨sl',e2⟩:=slots up hb e1
  exact⟨sl',e2⟩
 .obtain⟨o',e1⟩:=I.base.there b o e (noex b)
  by_cases hb:b∈Re X.outer
  .obtain⟨sl,e2⟩:=slots up hb e1
   exact⟨_,e2⟩
  .exact⟨o',f'.1 b o' (inB b o' e1 (nl b hb (.inr (by rw[e];rfl))))⟩
 .have tr:∀ c v,H c=some v->c∉Re X.stack:=λc v q z=>by rw[I.stkFree c z]at q;cases q
  refine(I.hok b u e).stay (λc v hc q=>?_) (λ_ q=>q) λ_ _ q=>q
  rcases hc with rfl|hc
  .exact f'.1 c v (inB c v q (tr c u e))
  .exact f'.1 c v (inB c v q (tr c _ hc))
 .cases q:X.s₀.heap.get? a with
  |none=>rfl
  |some o=>
   obtain⟨o',e'⟩:=I.base.there a o q (noex a)
   have:=x.new
   rw[e']at this;cases this
 .cases q:H a with
  |none=>rfl
  |some u=>
   obtain⟨o',e'⟩:=To (I.hok a u q)
   have:=x.new
   rw[e']at this;cases this
 .have hb':=nl b hb h
  have:∃ o,s.heap.get? b=some o:=by
   rcases h with h|h
   .obtain⟨u,e⟩:=isSome_iff_exists.mp h
    exact To (I.hok b u e)
   .obtain⟨o,e⟩:=isSome_iff_exists.mp h
    exact I.base.there b o e (noex b)
  obtain⟨o,e⟩:=this
  rw[inB b o e hb'];rfl
def F7(K:Frag)(n:Nat)(m:List D->Res D):Sp:=λvs H Q E=>vs.length=n/\∃ W ds,WL W H/\HasL K W H ds vs/\match m ds with
 | .ok d=>∀ v H',Same H H'->Has K W H' d v->Q v H'
 | .ex c fs=>∀ cls dx H',nsIn K mainGlobals c=some (some cls)->Same H H'->ExF H' dx fs->E cls dx H'
 | .stuck=>False
structure FnX(P:Program)(w:World)(K:Frag)(mg:Str->Option Value)(base:Heap)(k:Nat)(x:Str)(n:Nat)(m:List D->Res D):Prop where
 ex:∃ f fd ps,FnOk P w K mg base (Ty P w) k f fd ps (F7 K n m)/\mg x=some (.ref f)/\keepIn K (.ref f)=true/\Binds K fd ps []
variable{K:Frag}{mg:Str->Option Value}{base:Heap}{k n:Nat}{x:Str}{m:List D->Res D}
theorem FnX.mono{j:Nat}(F:FnX P w K mg base j x n m)(h:j<=k):FnX P w K mg base k x n m:=by
 obtain⟨f,fd,ps,a,b⟩:=F.ex
 exact⟨f,fd,ps,a.mono h,b⟩
structure FnXL(P:Program)(w:World)(K:Frag)(mg:Str->Option Value)(base:Heap)(k:Nat)(x:Str)(n:Nat)(m:List D->Res D)(i:Int):Prop where
 ex:∃ (fa:Addr) (fd:FuncData) (ps:List Str) (v0:Value),FnOk P w K mg base (Ty P w) k fa fd ps (F7 K n m)/\mg x=some (.ref fa)/\keepIn K (.ref fa)=true/\Binds K fd ps [v0]/\RelV (.int i) v0
def OA(n:Nat)(g:Ga->Out)(ds:List D):Res D:=match g (Qb n ds) with
 | .rt d=>.ok d
 | .nx _=>.ok .non
 | .ex c fs=>.ex c fs
 |_=>.stuck
def M3(K:Frag)(E:XK):XW:=λc fs H'=>∀ cls dx,nsIn K mainGlobals c=some (some cls)->ExF H' dx fs->E cls dx H'
def xwE(K:Frag)(xw:XW):XK:=λcls dx H'=>∃ c fs,nsIn K mainGlobals c=some (some cls)/\xw c fs H'/\ExF H' dx fs
def VV(X:Cx)(xw:XW):Prop:=Nn (Ty X.prog X.w) X (xwE X.K xw)
def ZJ(X:Cx)(xw:XW):Prop:=∀ (pins:List (Addr×Obj)) (σ:L2.St) (H:Hp) (s:Shared) (a:Addr) (cls:Value) (args:List Value) (c:Str) (s':Shared),Inv X pins σ H s->s'.os=s.os->AllBare s'.gens->
 Heap.MadeExcOf s.heap s'.heap a cls args->nsIn X.K mainGlobals c=some (some cls)->xw c [] H->X.xe (.ref a) s'
variable{N ps:List Str}{qual:Str}{scope:Scope}{f fa:Addr}{cd:Value}{A:Around}{outer:List Env}{s₀:Shared}{H₀:Hp}{st:Stmt}{fd:FuncData}{g:Ga->Out}
theorem JN:VV (Vk (Ty P w) P w K mg base N qual scope f cd A outer s₀ H₀ E) (M3 K E):=by
 intro pins σ H s e s' I h
 obtain⟨a,cls,dx,H',rfl,os,bare,x,c,fs,hn,q,xf⟩:=h
 exact JY I rfl rfl rfl os bare x (q cls dx hn xf) λs'' z=>z
theorem MI:ZJ (Vk (Ty P w) P w K mg base N qual scope f cd A outer s₀ H₀ E) (M3 K E):=by
 intro pins σ H s a cls args c s' I os bare x hn q
 exact WR I rfl rfl rfl os bare x (λd=>q cls (d,true) hn ⟨rfl,trivial⟩) λs'' z=>z
theorem OW{dV oc:Value}{od:Option Addr}{kV doc pm:Value}{an:Option Addr}{cdv ct:Value}{osl:Array (Option Value)}(hf:fd=fnOf x qual (Jb st) (Xa st) (Da st) dV kV doc pm an cdv ct)(lk:K.lookup fa=some ⟨oc,od,.func fd,osl⟩)(hcd:codeIn K cdv qual=true)(S:FnScope N ps (Da st))(body:∀ (cdv:Value) (A:Around) (outer:List Env) (s:Shared) (H:Hp) (E:XK),Room k (A.deeper (envOfC qual (Da st) s.heap.objs.size fa cdv))->
   XSs (Vk (Ty P w) P w K mg base N qual (Da st) fa cdv A outer s H E) (M3 K E) (Xa st) g):FnOk P w K mg base (Ty P w) (k+1) fa fd ps (F7 K ps.length (OA N.length g)):=by
 subst hf
 refine YV lk hcd S (λvs H Q E h=>h.1) λA outer s H vs Q E hr hsp=>?_
 obtain⟨hl,W,ds,hw,hd,q⟩:=hsp
 refine⟨_,(body cdv A outer s H E hr).h,W,H,W,Qb N.length ds,Km hw hd,?_⟩
 unfold OA at q
 cases h:g (Qb N.length ds) with
 |rt d=>rw[h]at q;exact λv H' k hv=>q v H' k hv
 |nx δ=>rw[h]at q;exact λW' H' σ' k st'=>q .non H' st'.fr.ext (by rw[Has])
 |bk δ=>rw[h]at q;exact q.elim
 |ct δ=>rw[h]at q;exact q.elim
 |ex c fs=>rw[h]at q;exact λH' k cls dx hn xf=>q cls dx H' hn k xf
 |stuck=>rw[h]at q;exact q.elim
theorem Zw(F:Fun K x qual st fa fd)(S:FnScope N ps (Da st))(hm:mg x=some (.ref fa))(hb:Binds K fd ps [])(body:∀ (cdv:Value) (A:Around) (outer:List Env) (s:Shared) (H:Hp) (E:XK),Room k (A.deeper (envOfC qual (Da st) s.heap.objs.size fa cdv))->
   XSs (Vk (Ty P w) P w K mg base N qual (Da st) fa cdv A outer s H E) (M3 K E) (Xa st) g):FnX P w K mg base (k+1) x ps.length (OA N.length g):=by
 obtain⟨oc,od,kV,doc,pm,an,cdv,ct,osl,hf,lk,hcd⟩:=F.ex
 exact⟨fa,fd,ps,OW hf lk hcd S body,hm,F.kp,hb⟩
def Zz:Out->Out
 | .ex _ _=>.stuck
 |o=>o
variable{a e:Expr}{xw:XW}{es:List Expr}{pos:Pos}
section
variable {f:Ga->Res D}{ga:Ga->Res Bool}{fs:Ga->Res (List D)}{p:Pos}{sts:List Stmt}
theorem PS.nox{st:Stmt}{t:TS}(h:PS X.nox st t):PS X st t:=λpins s σ H D I hw=>
 wpAny_mono (h pins s σ H D (I.wish _) hw) (λ_ _ q=>q.unwish) λ_ _ z=>False.elim z
theorem PA.nox{t:TA}(h:PA X.nox es t):PA X es t:=λps pins s σ H Q I hw=>
 wpAny_mono (h ps pins s σ H Q (I.wish _) hw) (λ_ _ ⟨v,H',I',r,q⟩=>⟨v,H',I'.unwish,r,q⟩) λ_ _ z=>False.elim z
def Ci(f:Ga->Res (List D)):Ga->Res (List D):=λδ=>noex (f δ)
def Tj(f:Ga->Res Bool):Ga->Res Bool:=λδ=>noex (f δ)
def Tn(g:Ga->Out):Ga->Out:=λδ=>Zz (g δ)
theorem LB(h:XT X.nox Jq e ga):XT X xw e (Tj ga):=⟨PT.weak (PT.nox h.h) λσ H Q ⟨W₀,H₀,W,δ,st,q⟩=>⟨W₀,H₀,W,δ,st,by
 have q:RT xw H (noex (ga δ)) Q:=q
 cases hq:ga δ with
 |ok d=>rw[hq]at q;exact q
 |ex c fs=>rw[hq]at q;exact q.elim
 |stuck=>rw[hq]at q;exact q.elim⟩⟩
theorem Xu(h:XA X.nox Jq es fs):XA X xw es (Ci fs):=⟨PA.weak (PA.nox h.h) λσ H Q ⟨W₀,H₀,W,δ,st,q⟩=>⟨W₀,H₀,W,δ,st,by
 have q:RA X.K xw W H (noex (fs δ)) Q:=q
 cases hq:fs δ with
 |ok d=>rw[hq]at q;exact q
 |ex c gs=>rw[hq]at q;exact q.elim
 |stuck=>rw[hq]at q;exact q.elim⟩⟩
theorem Wq(h:XS X.nox Jq st g):XS X xw st (Tn g):=⟨PS.weak (PS.nox h.h) λDn σ H ⟨W₀,H₀,W,δ,st,q⟩=>⟨W₀,H₀,W,δ,st,by
 have q:RS X.K xw W₀ H₀ W H (Zz (g δ)) Dn:=q
 cases hq:g δ with
 |ex c fs=>rw[hq]at q;exact q.elim
 |_=>rw[hq]at q;exact q⟩⟩
def Jg(n:Nat)(m:List D->Res D)(ds:List D):Res D:=if ds.length=n then m ds else .stuck
theorem JV(F:FnX X.prog X.w X.K X.mg X.base k x n m)(hp:VV X xw)(hr:Room k X.A)(ha:XA X xw (a::es) fs)(hg:Gl X x:=by rfl)(hdb:(x==("__debug__":Str))=false:=by decide)(he:starEach (a::es) X.env=(false,eval a X.env)::starEach es X.env:=by rfl)(hpl:(backTo pos (starEach es X.env)).any (·.1)=false:=by rfl):
  XE X xw (.Call (.Name x p) (a::es) [] pos) (b1 (Jg n m) fs):=⟨by
 obtain⟨fa,fd,ps,G,hm,hk,hb⟩:=F.ex
 refine PE.weak (Yx G hr hg hm hk hb .nil hp ha.h hdb he hpl) λσ H Q ⟨W₀,H₀,W,δ,st,q⟩=>?_
 refine Gj st q λH2 ds vs k w st2 hv _ q2=>?_
 unfold Jg at q2
 split at q2
 .rename_i hn
  rw[append_nil]
  refine⟨by rw[<-hv.length];exact hn,W,ds,w,hv,?_⟩
  cases h:m ds with
  |ok d=>rw[h]at q2;exact q2
  |ex c fs=>rw[h]at q2;exact λcls dx H' hn' k' xf=>⟨c,fs,hn',q2 H' k',xf⟩
  |stuck=>rw[h]at q2;exact q2
 .exact q2.elim⟩
end
abbrev bmV:List Value:= [.type "ValueError",.type "Exception",.type "BaseException",.type "object"]
structure ClsX(K:Frag)(c:Str):Prop where
 ex:∃ C,nsIn K mainGlobals c=some (some (.ref C))/\excIn K C bmV "ValueError.__new__"=true
theorem UQ{h:Heap}{C:Addr}{bb:List Value}{nid:String}(KX:K.In h)(t:excIn K C bb nid=true):
  ∃ bm N nm q bs hdct sn sub ab col dd k0 k1 k2 k3 k5 mN,h.get? C=some (excClassObj nm q C N bs bm hdct sn sub ab col dd k0 k1 k2 k3 k5 nid)/\h.Ns N mN/\mN "__init__"=none/\OwnTail h bb bm:=by
 unfold excIn at t
 split at t
 .rename_i dct cdat slt lk
  split at t
  .rename_i C2 tl z0 z1 z2 z3 nn z5 em es
   simp only[Bool.not_eq_true',and_eq_true,beq_iff_eq]at t
   obtain⟨⟨⟨⟨⟨c1,c2⟩,c3⟩,c4⟩,c5⟩,c6⟩:=t
   cases c1
   cases c2
   obtain⟨n1,n2,n3,n4,n5,n6,n7,n8,n9,n10,n11⟩:=cdat
   dsimp only at em c3 c5 c6
   subst em c3
   obtain⟨ll⟩:=slt
   simp only at es
   subst es
   exact⟨tl,n4,n1,n5,n2,n6,n7,n8,n9,n10,dct,z0,z1,z2,z3,z5,_,KX _ _ lk,.of_isNs (PySem.W.isNs_of_in KX c5),PySem.W.nsMap_none_of_in KX c5 c6,tail_of_in KX c4⟩
  .cases t
 .cases t
def Gy(c:Str)(fs:Ga->Res (List D)):Ga->Out:=λδ=>Wk (fs δ) λds=>if ds.length=1 then .ex c [] else .stuck
variable{np cpos:Pos}
section
variable {fs:Ga->Res (List D)}{c:Str}
theorem TU(hc:ClsX X.K c)(hx:ZJ X xw)(hcalm:X.calm=true)(ha:XA X xw (a::es) fs)(hg:Gl X c:=by rfl)(hdb:(c==("__debug__":Str))=false:=by decide)(he:starEach (a::es) X.env=(false,eval a X.env)::starEach es X.env:=by rfl)(hpl:(backTo cpos (starEach es X.env)).any (·.1)=false:=by rfl):
  XS X xw (.Raise (some (.Call (.Name c np) (a::es) [] cpos)) none pos) (Gy c fs):=⟨by
 obtain⟨C,hn,hq⟩:=hc.ex
 intro pins s σ H Dn I ⟨W₀,H₀,W,δ,st,q⟩
 have rd:Z5 X.K xw fs σ H (λvs H1=>vs.length<=sizeLine/\xw c [] H1):=by
  refine⟨W₀,H₀,W,δ,st,?_⟩
  unfold Gy at q
  cases hf:fs δ with
  |stuck=>rw[hf]at q;exact q
  |ex c' fs'=>rw[hf]at q;exact λH2 k2=>q H2 (st.fr.ext.trans k2)
  |ok ds=>
   rw[hf]at q
   have q':RS X.K xw W₀ H₀ W H (if ds.length=1 then .ex c [] else .stuck) Dn:=q
   split at q'
   .rename_i hd
    exact λvs H2 k2 hv=>⟨by rw[<-hv.length,hd,sizeLine_eq];omega,q' H2 (st.fr.ext.trans k2)⟩
   .exact q'.elim
 obtain⟨bm,N,nm,qn,bs,hdct,sn,sub,ab,col,dd,k0,k1,k2,k3,k5,mN,hC,hN,hni,T⟩:=UQ I.ok.mod.kin hq
 refine wpAny_Raise_call_subT (C:=C) (nm:=nm) (q:=qn) (N:=N) (bs:=bs) (bm:=bm) (hdct:=hdct) (sn:=sn) (sub:=sub) (ab:=ab) (col:=col) (dd:=dd) (k0:=k0) (k1:=k1) (k2:=k2) (k3:=k3) (k5:=k5)
  F.excBase_ValueError (mN:=mN) (T.hasType F.excBase_ValueError.hasBase) (I.ok.hd hcalm) (by rw[he];show(false||(backTo cpos (starEach es X.env)).any (·.1))=false;rw[hpl];rfl) hni (Cj I hg (mg_of I.ok.mod.kin I.ok.mod.glob hn) ⟨rfl,?_⟩ hdb)
 have hp:=ha.h cpos pins s σ H _ I rd
 rw[he]at hp ⊢
 refine Calls.evalArgs_plain (wpAny_mono hp (λus s2 ⟨vs,H1,I1,r,hl,q1⟩=>?_) λ_ _ y=>y)
 exact⟨rfl,by show us.length<=_;rw[<-r.length];exact hl,I1.bk _ _ hC,hN.keeps I1.bk,T.keeps I1.bk,λh' e hm=>hx pins σ H1 s2 e (.ref C) us c {s2 with heap:=h'} I1 rfl I1.bare hm hn q1⟩⟩
end
abbrev Ml(X:Cx)(a:Addr):Cx:= {X with A:=X.A.mark (some (.ref a)),calm:=false,xe:=λ_ _=>False}
abbrev QD(X:Cx)(pins:List (Addr×Obj))(E:Value->Shared->Prop):Cx:= {X with pn:=X.pn++pins,xe:=E}
variable{n:Str}{i:Nat}
section
variable {a:Addr}
theorem JT(ok:X.Ok)(a:Addr):(Ml X a).Ok:=
 ⟨ok.mod,ok.kind,ok.glob,ok.blt,ok.above,ok.inj,ok.has,ok.cab,λz=>absurd (show false=true from z) (by decide),ok.frames,ok.stk,ok.exf,ok.bs,ok.bsz,ok.noex,ok.exfs,ok.funs,ok.frf⟩
theorem Qz(I:Inv X pins σ H s)(a:Addr):Inv (Ml X a) pins σ H s:=⟨JT I.ok a,I.os,I.bare,I.base,I.loc,I.cell,I.free,I.freeC,I.pin,I.hok,I.len⟩
theorem Ik(ok:X.Ok)(I:Inv (Ml X a) pins σ H s):Inv X pins σ H s:=⟨ok,I.os,I.bare,I.base,I.loc,I.cell,I.free,I.freeC,I.pin,I.hok,I.len⟩
theorem UZ(ok:X.Ok):(QD X pins Ex).Ok:=
 ⟨ok.mod,ok.kind,ok.glob,ok.blt,ok.above,ok.inj,ok.has,ok.cab,ok.hd,ok.frames,ok.stk,ok.exf,ok.bs,ok.bsz,ok.noex,ok.exfs,ok.funs,ok.frf⟩
theorem IS(I:Inv X pins σ H s):Inv (QD X pins Ex) [] σ H s:=⟨UZ I.ok,I.os,I.bare,I.base,I.loc,I.cell,I.free,I.freeC,λp hp=>I.pin p (by simpa using hp),I.hok,I.len⟩
theorem Qj{more:List (Addr×Obj)}(ok:X.Ok)(I:Inv (QD X pins Ex) more σ H s):Inv X pins σ H s:=⟨ok,I.os,I.bare,I.base,I.loc,I.cell,I.free,I.freeC,λp hp=>I.pin p (mem_append_left _ hp),I.hok,I.len⟩
theorem Ov{φ:Heap->Prop}(I:Inv X pins σ H s)(I':Inv X pins σ H' s')(hex:X.ex= [])(new:s.heap.get? a=none)(nh:H' a=none)(x:ObjOk X.prog X.w (Ib H' a (.ext φ)) s'.heap a (.ext φ)):Inv X pins σ (Ib H' a (.ext φ)) s':=by
 have ne:∀ b o,s.heap.get? b=some o->b≠a:=λb o e z=>by rw[z,new]at e;cases e
 have ne0:∀ b o,X.s₀.heap.get? b=some o->b≠a:=λb o e=>by
  obtain⟨o',e'⟩:=I.base.there b o e (by rw[hex];simp)
  exact ne b o' e'
 have up:∀ b o,H' b=some o->Ib H' a (.ext φ) b=some o:=λb o e=>by rw[Ea (Pa e nh)];exact e
 refine⟨I'.ok,I'.os,I'.bare,⟨I'.base.keep,I'.base.slot,λb o e n hx=>?_,I'.base.there,λb xs e=>up _ _ (I'.base.tups b xs e),λb o u e=>up _ _ (I'.base.frzs b o u e),λb ps e=>?_⟩,I'.loc,I'.cell,?_,λy c e=>?_,λp hp=>?_,λb u e=>?_,I'.len⟩
 .rw[Ea (ne0 b o e)];exact I'.base.free b o e n hx
 .obtain⟨m,e1⟩:=I'.base.tbls b ps e
  exact⟨m,up _ _ e1⟩
 .obtain⟨m,⟨o,_,_,ho,_⟩,_⟩:=I.loc
  rw[Ea (ne _ o ho)];exact I'.free
 .obtain⟨v,o,ho,_⟩:=I.cell y c e
  rw[Ea (ne c o ho)];exact I'.freeC y c e
 .obtain⟨e,n,r⟩:=I'.pin p hp
  refine⟨e,?_,r⟩
  rw[Ea (ne p.1 _ (I.pin p hp).1)];exact n
 .by_cases hb:b=a
  .subst hb
   rw[Ra]at e
   cases e
   exact x
  .rw[Ea hb]at e
   exact(I'.hok b u e).stay (λ_ _ _ q=>q) (λc q=>up _ _ q) λc xs q=>up _ _ q
theorem UH{t:Nat}{v:Option Value}{m:Str->Option Value}(I:Inv X pins σ H s)(hN:X.N.Nodup)(hi:X.N[i]? =some n)(hm:s.heap.Ns X.env.locals m)(hl:∀ (j:Nat) (x:Str) (w:V),X.N[j]? =some x->σ[j]? =some (some w)->Jw X.env.scope x->∃ u,RelV w u/\R3 X.env s.heap m x u)(hn:h'.Ns X.env.locals (λx=>if x=n then v else m x))(hs:SameBut X.env.locals s.heap h'):Inv X pins (σ.set i none) H {s with heap:=h',toks:=t}:=by
 obtain⟨oL,_,_,hoL,_⟩:=id hm
 have cne:=I.cne
 refine⟨I.ok,I.os,I.bare,⟨λb o e n hb hx=>?_,λb o e n hb hx=>?_,I.base.free,λb o e hx=>?_,I.base.tups,I.base.frzs,I.base.tbls⟩,⟨_,hn,λj y w e1 e2 e3=>?_⟩,λy c e=>?_,I.free,I.freeC,λp hp=>?_,λb u e=>?_,by simpa using I.len⟩
 .exact(hs.2 b (ne_of_lt (lt_of_lt_of_le (lt_size e) I.ok.above))).trans (I.base.keep b o e n hb hx)
 .obtain⟨sl,e1⟩:=I.base.slot b o e n hb hx
  exact⟨sl,(hs.2 b (ne_of_lt (lt_of_lt_of_le (lt_size e) I.ok.above))).trans e1⟩
 .obtain⟨o',e1⟩:=I.base.there b o e hx
  exact⟨o',(hs.2 b (ne_of_lt (lt_of_lt_of_le (lt_size e) I.ok.above))).trans e1⟩
 .have hj:j≠i:=by
   rintro rfl
   rw[getElem?_set_self']at e2
   cases q:σ[j]? with
   |none=>rw[q]at e2;cases e2
   |some z=>rw[q]at e2;cases e2
  rw[getElem?_set_ne (Ne.symm hj)]at e2
  obtain⟨u,r,q⟩:=hl j y w e1 e2 e3
  refine⟨u,r,?_⟩
  rcases q with⟨k,e⟩|⟨k,c,e,z⟩
  .have:y≠n:=λe=>hj (Xs hN e1 (e▸hi))
   exact .inl ⟨k,by simp[this,e]⟩
  .exact .inr ⟨k,c,e,z.sameBut hs (cne y c e)⟩
 .obtain⟨w,z⟩:=I.cell y c e
  exact⟨w,z.sameBut hs (cne y c e)⟩
 .obtain⟨e,n,ne,nf,d⟩:=I.pin p hp
  exact⟨(hs.2 p.1 ne).trans e,n,ne,nf,d⟩
 .refine(I.hok b u e).stay (λc w' hc q=>(hs.2 c ?_).trans q) (λ_ q=>q) λ_ _ q=>q
  rintro rfl
  rcases hc with rfl|hc
  .rw[I.free]at e;cases e
  .rw[I.free]at hc;cases hc
theorem Nr(I:Inv X pins σ H s)(hN:X.N.Nodup)(hi:X.N[i]? =some n)(hk:X.env.kindOf n=some .local)(h:∀ s',Inv X pins (σ.set i none) H s'->Q () s'):wpAny M A (do bindName X.env n .none;unbindBehindTheSuite X.env n pos) Q Ex s:=by
 obtain⟨m,hm,hl⟩:=id I.loc
 have hp:(X.env.scope.kind== .class||(X.env.scope.kind== .module&&X.env.locals != X.env.globals))=false:=by rw[I.ok.kind];rfl
 exact wpAny_nameGoes_keeps hk hm hp λh' v hn hs=>h _ (UH I hN hi hm hl hn hs)
end
structure MatchX(K:Frag)(C c:Str):Prop where
 ex:∃ vc vC,nsIn K mainGlobals c=some (some vc)/\nsIn K mainGlobals C=some (some vC)/\exmOne K vc vC=some true
variable{C:Str}{b₀:Stmt}{suite:List Stmt}
section
variable {a:Addr}{vC:Value}{rest:List ExceptHandler}{Q:Flow->Shared->Prop}
theorem Pq{R:Result->Shared->Prop}(I:Inv X pins σ H s)(hst:X.stack=X.env::X.outer)(hfr:X.env.frame=some X.env.locals)(os:s'.os=s.os)(bare:AllBare s'.gens)(x:Fly X.prog X.w X.stack H s H' a cls dx s'.heap)(hC:Gl X C)(hm:nsIn X.K mainGlobals C=some (some vC))(he:exmOne X.K cls vC=some true)(hdb:(C==("__debug__":Str))=false)(k:∀ h',Fly X.prog X.w X.stack H s H' a cls dx h'->R (.ok .brk) {s' with heap:=h'}):
  codeAny (model X.prog X.w) (X.A.mark (some (.ref a))) (.handlers (.ref a) [.ExceptHandler (some (.Name C np)) none [] pos] X.env) R s':=by
 have I':=Qz (Cm I os bare x) a
 refine codeAny_handlers_test (Cj I' hC (mg_of I.ok.mod.kin I.ok.mod.glob hm) ?_ hdb)
 obtain⟨B,a0,f,cov⟩:=x.fl
 obtain⟨ob,hob,hc⟩:=f.there
 have LT:PySem.W.Looks (model X.prog X.w) s'.heap (typeOf (.ref a)) cls:=by
  subst hc
  exact(PySem.W.Looks.ld hob).andThen .now
 exact(PySem.W.exm_one I'.kIn LT he).here (k s'.heap x)
theorem Hs(x:Fly X.prog X.w X.stack H s H' a cls dx s'.heap)(f:FlyingW B X.stack a cls a0 s'.heap)(cov:∀ b,b∉Re X.stack->((H' b).isSome=true\/(s.heap.get? b).isSome=true)->(B.get? b).isSome=true)(f':FlyingW B X.stack a cls a0 h')(up:s'.heap.UpToSlots h')(dk:DK s'.heap h'):Fly X.prog X.w X.stack H s H' a cls dx h':=
 ⟨HY x.un cov f f'.1 up,VE x.hok x.frf cov f.1 f'.1,x.frf,x.new,x.nh,(let ⟨o,e,d⟩:=x.dc;let ⟨o',e',d'⟩:=dk a o e;⟨o',e',d.to d'⟩),B,a0,f',cov⟩
theorem Oq{hs:List ExceptHandler}(I:Inv X pins σ H s)(hst:X.stack=X.env::X.outer)(hfr:X.env.frame=some X.env.locals)(x:Fly X.prog X.w X.stack H s H' a cls dx s'.heap)(k:∀ h',Fly X.prog X.w X.stack H s H' a cls dx h'->wpAny (model X.prog X.w) X.A (handleBy (.ref a) X.env hs) Q Ex {s' with heap:=h'}):
  wpAny (model X.prog X.w) X.A (noteFrame (.ref a) X.env) (λ_ s₂=>wpAny (model X.prog X.w) X.A (setFlight (.ref a) none) (λ_ s₃=>wpAny (model X.prog X.w) X.A (handleBy (.ref a) X.env hs) Q Ex s₃) Ex s₂) Ex s':=by
 obtain⟨B,a0,f,cov⟩:=x.fl
 have f2:FlyingW B (X.env::X.outer) a cls a0 s'.heap:=by rw[<-hst];exact f
 refine(Ix (.ref a) X.env).thn (Q:=λ_ s4=>∃ h₄,s4= {s' with heap:=h₄}/\Heap.HeldW B (X.env::X.outer) a cls a0 X.env.locals h₄/\s'.heap.UpToSlots h₄) (wpAny_looks_onW (by rw[<-hst];exact I.ok.frames) hfr f2 λh₄ held up₄=>⟨h₄,rfl,held,up₄⟩) λ_ s4 ⟨h₄,e4,held,up₄⟩ dk4=>?_
 subst e4
 refine(Rj (.ref a) none).thn (Q:=λ_ s5=>∃ h₅,s5= {s' with heap:=h₅}/\FlyingW B (X.env::X.outer) a cls a0 h₅/\h₄.UpToSlots h₅) (wpAny_landsW held λh₅ f₅ up₅=>⟨h₅,rfl,f₅,up₅⟩) λ_ s5 ⟨h₅,e5,f₅,up₅⟩ dk5=>?_
 subst e5
 exact k h₅ (Hs x f cov (by rw[hst];exact f₅) (up₄.trans up₅) (dk4.trans dk5))
theorem FL{H:Hp}{h:Heap}(x:Fi a cls dx h):ObjOk P w H h a (.ext (Fi a cls dx)):=by
 obtain⟨o,vs,e,hc,hx,hd,hz⟩:=x
 exact⟨⟨o,vs,e,hc,hx,hd,hz⟩,⟨o,e⟩,λh1 h2 ⟨o1,vs1,e1,hc1,hx1,hd1⟩ k=>⟨o1,vs1,k _ e1,hc1,hx1,hd1⟩⟩
theorem UE{h:Heap}(x:Fly X.prog X.w X.stack H s H' a cls dx h):Fi a cls dx h:=by
 obtain⟨B,a0,f,cov⟩:=x.fl
 obtain⟨oe,vs,he,hc,hd,_⟩:=f.first
 obtain⟨od,ed,dd⟩:=x.dc
 rw[he]at ed
 cases ed
 exact⟨oe,vs,he,hc,dd.1,hd,λz=>by
  obtain⟨vs',e',q⟩:=dd.2 z
  rw[hd]at e';cases e'
  exact q⟩
theorem AH{D:Ends}{t:TS}(I:Inv X pins σ H s)(hex:X.ex= [])(hst:X.stack=X.env::X.outer)(hfr:X.env.frame=some X.env.locals)(os:s'.os=s.os)(bare:AllBare s'.gens)(x:Fly X.prog X.w X.stack H s H' a cls dx s'.heap)(hC:Gl X C)(hm:nsIn X.K mainGlobals C=some (some vC))(he:exmOne X.K cls vC=some true)(hdb:(C==("__debug__":Str))=false)(hN:X.N.Nodup)(hi:X.N[i]? =some n)(hk:X.env.kindOf n=some .local)(hsu:∀ a,PSs (Ml X a) (b₀::suite) t)(ht:t {nx:=λσ' H'=>D.nx (σ'.set i none) H',rt:=D.rt,bk:=λσ' H'=>D.bk (σ'.set i none) H',ct:=λσ' H'=>D.ct (σ'.set i none) H'} (σ.set i (some (.ref a))) (Ib H' a (.ext (Fi a cls dx)))):
  wpAny (model X.prog X.w) X.A (noteFrame (.ref a) X.env) (λ_ s₂=>wpAny (model X.prog X.w) X.A (setFlight (.ref a) none) (λ_ s₃=>
   wpAny (model X.prog X.w) X.A (handleBy (.ref a) X.env (.ExceptHandler (some (.Name C np)) (some n) (b₀::suite) pos::rest)) (SP X pins D) Ex s₃) Ex s₂) Ex s':=by
 refine Oq I hst hfr x λh5 x5=>?_
 refine wpAny_handleBy_cons (Pq (s':= {s' with heap:=h5}) I hst hfr os bare x5 hC hm he hdb λh6 x6=>codeAny_handlers_suite_as ?_) (by intro q;cases q)
 obtain⟨B,a0,f,cov⟩:=x6.fl
 refine(Rj (.ref a) none).thn (Q:=λ_ s7=>∃ h7,s7= {s' with heap:=h7}/\FlyingW B X.stack a cls a0 h7/\h6.UpToSlots h7) (lands_againW f λh7 f7 up7=>⟨h7,rfl,f7,up7⟩) λ_ s7 ⟨h7,e7,f7,up7⟩ dk7=>?_
 subst e7
 have x7:=Hs (s':= {s' with heap:=h6}) x6 f cov f7 up7 dk7
 have I7:Inv X pins σ H' {s' with heap:=h7}:=Cm (s':= {s' with heap:=h7}) I os bare x7
 have I8:=Ov I I7 hex x7.new x7.nh (FL (UE x7))
 have hloc:UJ X.env.scope n:=.inl hk
 refine Yt I8 hN hi hloc (v:=.ref a) rfl (λs8 I9=>?_) (.inr hk)
 refine wpAny_mono (hsu a pins _ _ _ _ (Qz I9 a) ht) (λfl s9 q=>?_) λ_ _ z=>False.elim z
 cases fl with
 |next=>obtain⟨σ',H9,J,q⟩:=q;exact Nr (Ik I.ok J) hN hi hk λs10 K=>⟨_,H9,K,q⟩
 |brk=>obtain⟨σ',H9,J,q⟩:=q;exact Nr (Ik I.ok J) hN hi hk λs10 K=>⟨_,H9,K,q⟩
 |cont=>obtain⟨σ',H9,J,q⟩:=q;exact Nr (Ik I.ok J) hN hi hk λs10 K=>⟨_,H9,K,q⟩
 |ret u=>obtain⟨v,σ',H9,J,r,q⟩:=q;exact Nr (Ik I.ok J) hN hi hk λs10 K=>⟨v,_,H9,K,r,q⟩
end
section
variable {CX:Fw}{sp:Sp}{dvs:List V}{ds:List Value}{E:L2.St->XK}{p:Pos}{t:TA}
theorem MN(F:FnOk X.prog X.w X.K X.mg X.base CX k f fd ps sp)(hr:Room k X.A)(hg:Gl X x)(hm:X.mg x=some (.ref f))(hk:keepIn X.K (.ref f)=true)(hb:Binds X.K fd ps ds)(hd:Vals dvs ds)(hx:∀ (pins:List (Addr×Obj)) (σ:L2.St) (H:Hp) (s:Shared) (e:Value) (s':Shared),Inv X pins σ H s->CX X.stack H s (E σ) e s'->X.xe e s')(ha:PA X (e::es) t)(hdb:(x==("__debug__":Str))=false)(he:starEach (e::es) X.env=(false,eval e X.env)::starEach es X.env)(hpl:(backTo pos (starEach es X.env)).any (·.1)=false):
  PE X (.Call (.Name x p) (e::es) [] pos) (λσ H Q=>t σ H λvs H1=>sp (vs++dvs) H1 Q (E σ)):=by
 intro pins s σ H Q I h
 refine wpAny_Call_Name_kw (Cj I hg hm ?_ hdb)
 refine callWith_K (h₀:=X.base) I.ok.mod.kin hk (thn (ha pos pins s σ H _ I h) λus s1 ⟨vs,H1,I1,r,q⟩=>⟨I1.kIn,?_⟩) he hpl
 have r2:Vals (vs++dvs) (us++ds):=r.append hd
 have hl:(us++ds).length=ps.length:=by rw[<-r2.length];exact F.len _ _ _ _ q
 refine wpAny_call (codeAny_mono (F.run X.A X.stack s1 H1 ⟨us,[]⟩ (us++ds) (vs++dvs) Q (E σ) hr I1.env0 (hb s1 us I1.kIn hl) r2 q) λr s' hq=>?_)
 cases r with
 |error e=>exact hx pins σ H1 s1 e s' I1 hq
 |ok fl=>
  cases fl with
  |ret u=>exact I1.after hq
  |next=>exact False.elim hq
  |brk=>exact False.elim hq
  |cont=>exact False.elim hq
theorem D0(h:PA X.nox es t):PA (QD X pins Ex) es t:=λq more s σ H Q I hw=>by
 have ok:X.Ok:=⟨I.ok.mod,I.ok.kind,I.ok.glob,I.ok.blt,I.ok.above,I.ok.inj,I.ok.has,I.ok.cab,I.ok.hd,I.ok.frames,I.ok.stk,I.ok.exf,I.ok.bs,I.ok.bsz,I.ok.noex,I.ok.exfs,I.ok.funs,I.ok.frf⟩
 have I':Inv X.nox (pins++more) σ H s:=⟨ok.wish _,I.os,I.bare,I.base,I.loc,I.cell,I.free,I.freeC,λz hz=>I.pin z (by show z∈(X.pn++pins)++more;rw[append_assoc];exact hz),I.hok,I.len⟩
 refine wpAny_mono (h q _ s σ H Q I' hw) (λus s1 ⟨v,H',J,r,z⟩=>⟨v,H',?_,r,z⟩) λ_ _ z=>False.elim z
 exact⟨I.ok,J.os,J.bare,J.base,J.loc,J.cell,J.free,J.freeC,λz hz=>J.pin z (by show z∈X.pn++(pins++more);rw[<-append_assoc];exact hz),J.hok,J.len⟩
end
structure KindX(X:Cx)(e:Expr)(st:Stmt)(gK:D->Ga->Out):Prop where
 ex:∃ cont:Ends->L2.St->VK,(∀ (pins:List (Addr×Obj)) (Ex:Value->Shared->Prop) (te:TE),PE (QD X pins Ex) e te->PS (QD X pins Ex) st (λDn σ H=>te σ H (cont Dn σ)))/\
  ∀ (xw:XW) (W₀:WS) (H₀:Hp) (W:WS) (H:Hp) (d:D) (v:V) (σ:L2.St) (δ:Ga) (Dn:Ends),StHas X.K W₀ H₀ W H σ δ->Has X.K W H d v->RS X.K xw W₀ H₀ W H (gK d δ) Dn->cont Dn σ v H
theorem QS(hs:swapsWith e none pos.line X.env=pure false:=by rfl):KindX X e (.Expr e pos) (λ_ δ=>.nx δ):=
 ⟨λDn σ _ H=>Dn.nx σ H,λpins Ex te h=>Wo h hs,λxw W₀ H₀ W H d v σ δ Dn st hv q=>q W H σ Step.refl st⟩
theorem FZ:KindX X e (.Return (some e) pos) (λd _=>.rt d):=
 ⟨λDn _ v H=>Dn.rt v H,λpins Ex te h=>ZC h,λxw W₀ H₀ W H d v σ δ Dn st hv q=>q v H st.fr.ext (Has.keep (λ_ _ e _=>e) st.fr.wl (λb z=>.inl (st.fr.sub b z)) hv)⟩
def Q2(i:Nat):Out->Out
 | .nx δ=>.nx (δ.set i none)
 | .bk δ=>.bk (δ.set i none)
 | .ct δ=>.ct (δ.set i none)
 | .rt d=>.rt d
 |_=>.stuck
def Yp(cs:List Str)(f:Ga->Res D)(gK:D->Ga->Out)(go:Ga->Out)(gs:Str->List D->Ga->Out):Ga->Out:=λδ=>match f δ with
 | .ok d=>Tt (gK d δ) go
 | .ex c fs=>if c∈cs then gs c fs δ else .stuck
 | .stuck=>.stuck
theorem StHas.unset{W₀ W:WS}{δ:Ga}(h:StHas K W₀ H₀ W H σ δ)(i:Nat):StHas K W₀ H₀ W H (σ.set i none) (δ.set i none):=by
 have ne:∀ (j:Nat) (t:S),(δ.set i none)[j]? =some (some t)->i≠j/\δ[j]? =some (some t):=λj t e=>by
  have hj:i≠j:=by
   rintro rfl
   rw[getElem?_set_self']at e
   cases q:δ[i]? with
   |none=>rw[q]at e;cases e
   |some z=>rw[q]at e;cases e
  rw[getElem?_set_ne hj]at e
  exact⟨hj,e⟩
 refine⟨h.fr,by simp[h.len],λj s e=>?_,λj l s1 s2 u u' a hjl e1 e2 e3 e4 os ot=>?_⟩
 .obtain⟨hj,e'⟩:=ne j s e
  rw[getElem?_set_ne hj]
  exact h.at' j s e'
 .obtain⟨hj,g1⟩:=ne j s1 e1
  obtain⟨hl,g2⟩:=ne l s2 e2
  rw[getElem?_set_ne hj]at e3
  rw[getElem?_set_ne hl]at e4
  exact h.ap j l s1 s2 u u' a hjl g1 g2 e3 e4 os ot
variable{hpos tpos:Pos}{orelse:List Stmt}{nn:Nat}{gK:D->Ga->Out}{go gsu:Ga->Out}
section
variable {fs:Ga->Res (List D)}{p:Pos}
theorem KB{hd:ExceptHandler}{vs0:List V}{ds0:List Value}{d0:List D}{gs:Str->List D->Ga->Out}(cs:List Str)(G:FnOk X.prog X.w X.K X.mg X.base (Ty X.prog X.w) k fa fd ps (F7 X.K nn m))(hm:X.mg x=some (.ref fa))(hk:keepIn X.K (.ref fa)=true)(hb:Binds X.K fd ps ds0)(hd0:Vals vs0 ds0)(h0:∀ W H,HasL X.K W H d0 vs0)(hr:Room k X.A)(ha:XA X.nox Jq (a::es) fs)(kd:KindX X (.Call (.Name x p) (a::es) [] cpos) st gK)(hor:XSs X xw orelse go)(hcat:∀ (pins:List (Addr×Obj)) (σ:L2.St) (H H0 H':Hp) (s s':Shared) (ar:Addr) (cls:Value) (dx:Dx) (c:Str) (fs:List D) (W₀:WS) (H₀:Hp) (W:WS) (δ:Ga) (Dn:Ends),Inv X pins σ H s->s'.os=s.os->AllBare s'.gens->Fly X.prog X.w X.stack H s H' ar cls dx s'.heap->ExF H' dx fs->
   nsIn X.K mainGlobals c=some (some cls)->c∈cs->StHas X.K W₀ H₀ W H0 σ δ->Same H0 H'->RS X.K xw W₀ H₀ W H0 (gs c fs δ) Dn->
   wpAny (model X.prog X.w) X.A (noteFrame (.ref ar) X.env) (λ_ s₂=>wpAny (model X.prog X.w) X.A (setFlight (.ref ar) none) (λ_ s₃=>
    wpAny (model X.prog X.w) X.A (handleBy (.ref ar) X.env [hd]) (SP X pins Dn) X.xe s₃) X.xe s₂) X.xe s')(hg:Gl X x)(hdb:(x==("__debug__":Str))=false)(he:starEach (a::es) X.env=(false,eval a X.env)::starEach es X.env)(hpl:(backTo cpos (starEach es X.env)).any (·.1)=false):
  XS X xw (.Try [st] [hd] orelse [] tpos) (Yp cs (λδ=>(noex (fs δ)).bind λds=>Jg nn m (ds++d0)) gK go gs):=⟨by
 intro pins s σ H Dn I ⟨W₀,H₀,W,δ,sth,q⟩
 obtain⟨cont,kp,kr⟩:=kd.ex
 refine wpAny_Try_except ?_
 generalize hEx:(λ(e:Value) (s₁:Shared)=>wpAny (model X.prog X.w) X.A (noteFrame e X.env) (λ_ s₂=>wpAny (model X.prog X.w) X.A (setFlight e none) (λ_ s₃=>wpAny (model X.prog X.w) X.A (handleBy e X.env [hd]) (SP X pins Dn) X.xe s₃) X.xe s₂) X.xe s₁)=Ex
 have D1nx:∀ σ' H',CV X.K xw go Dn σ' H'->∀ s',Inv X pins σ' H' s'->wpAny (model X.prog X.w) X.A (execs orelse X.env) (SP X pins Dn) X.xe s':=λσ' H' h s' J=>hor.h pins s' σ' H' Dn J h
 have pe:=MN (X:=QD X pins Ex) (p:=p) (pos:=cpos) (E:=λσ' cls dx H'=>σ'=σ/\Same H H'/\∃ c fs',nsIn X.K mainGlobals c=some (some cls)/\((noex (fs δ)).bind λds=>Jg nn m (ds++d0))=.ex c fs'/\ExF H' dx fs') G hr hg hm hk hb hd0 (λmore σ' H1 s1 e s' J h=>by
  obtain⟨ar,cls,dx,H',rfl,os,bare,fl,rfl,sm,c,fs',hn,hf,xf⟩:=h
  have J':=Qj I.ok J
  show Ex (.ref ar) s'
  subst hEx
  unfold Yp at q
  dsimp only at q
  rw[hf]at q
  have q':RS X.K xw W₀ H₀ W H (if c∈cs then gs c fs' δ else .stuck) Dn:=q
  split at q'
  .rename_i hc
   exact hcat pins σ' H1 H H' s1 s' ar cls dx c fs' W₀ H₀ W δ Dn J' os bare fl xf hn hc sth sm q'
  .exact q'.elim) (D0 ha.h) hdb he hpl
 refine wpAny_mono (Zx (kp pins Ex _ pe) [] s σ H {nx:=CV X.K xw go Dn,rt:=Dn.rt,bk:=Dn.bk,ct:=Dn.ct} (IS I) ?_) (λfl s1 h1=>?_) λe s1 h1=>h1
 .refine⟨W₀,H₀,W,δ,sth,?_⟩
  unfold Yp at q
  dsimp only at q
  cases hf:fs δ with
  |stuck=>rw[hf]at q;exact q
  |ex c gs'=>rw[hf]at q;exact False.elim q
  |ok ds=>
   rw[hf]at q
   intro vs H1 k1 hv
   have hv':HasL X.K W H1 (ds++d0) (vs++vs0):=hv.append (h0 W H1)
   have q1:RS X.K xw W₀ H₀ W H (match Jg nn m (ds++d0) with| .ok d=>Tt (gK d δ) go| .ex c fs=>if c∈cs then gs c fs δ else .stuck| .stuck=>.stuck) Dn:=q
   have ec:((noex (Res.ok ds)).bind λds=>Jg nn m (ds++d0))=Jg nn m (ds++d0):=rfl
   by_cases hl:(ds++d0).length=nn
   .have em:Jg nn m (ds++d0)=m (ds++d0):=if_pos hl
    rw[em]at q1
    refine⟨by rw[<-hv'.length];exact hl,W,ds++d0,sth.fr.wl.same k1,hv',?_⟩
    cases h:m (ds++d0) with
    |ok d=>
     rw[h]at q1
     intro v H2 k2 hd2
     refine kr xw W₀ H₀ W H2 d v σ δ _ (sth.same (k1.trans k2)) hd2 ?_
     have q2:RS X.K xw W₀ H₀ W H (Tt (gK d δ) go) Dn:=q1
     have q3:=RS.step q2 (Step.same (W:=W) (k1.trans k2))
     cases hgk:gK d δ with
     |nx δ'=>
      rw[hgk]at q3
      exact λW' H' σ' kk st'=>⟨W₀,H₀,W',δ',st',RS.step (o:=go δ') q3 kk⟩
     |bk δ'=>rw[hgk]at q3;exact q3
     |ct δ'=>rw[hgk]at q3;exact q3
     |rt d'=>rw[hgk]at q3;exact q3
     |ex c' fs'=>rw[hgk]at q3;exact q3
     |stuck=>rw[hgk]at q3;exact q3
    |ex c fs'=>
     exact λcls dx H2 hn k2 xf=>⟨rfl,k1.trans k2,c,fs',hn,by rw[ec,em,h],xf⟩
    |stuck=>rw[h]at q1;exact q1
   .have em:Jg nn m (ds++d0)=.stuck:=if_neg hl
    rw[em]at q1
    exact q1.elim
 .cases fl with
  |next=>obtain⟨σ',H',J,z⟩:=h1;exact D1nx σ' H' z s1 (Qj I.ok J)
  |brk=>obtain⟨σ',H',J,z⟩:=h1;exact⟨σ',H',Qj I.ok J,z⟩
  |cont=>obtain⟨σ',H',J,z⟩:=h1;exact⟨σ',H',Qj I.ok J,z⟩
  |ret u=>obtain⟨v,σ',H',J,r,z⟩:=h1;exact⟨v,σ',H',Qj I.ok J,r,z⟩⟩
end
def Dq(fs:Ga->Res (List D))(nn:Nat)(m:List D->Res D)(d0:List D):Ga->Res D:=λδ=>(noex (fs δ)).bind λds=>Jg nn m (ds++d0)
def PL(i:Nat)(gsu:Ga->Out):Str->List D->Ga->Out:=λc fs δ=>Q2 i (gsu (δ.set i (some (.d (.exc c fs)))))
section
variable {fs:Ga->Res (List D)}{p:Pos}
theorem TW(i:Nat)(cs:List Str)(hcs:∀ c∈cs,MatchX X.K C c)(hex:X.ex= [])(hst:X.stack=X.env::X.outer)(hfr:X.env.frame=some X.env.locals)(hN:X.N.Nodup)(hi:X.N[i]? =some n)(hk:X.env.kindOf n=some .local)(hgC:Gl X C)(hdC:(C==("__debug__":Str))=false)(hsu:∀ a,XSs (Ml X a) Jq (b₀::suite) gsu)(pins:List (Addr×Obj))(σ:L2.St)(H H0 H':Hp)(s s':Shared)(ar:Addr)(cls:Value)(dx:Dx)(c:Str)(xs:List D)(W₀:WS)(H₀:Hp)(W:WS)(δ:Ga)(Dn:Ends)(I:Inv X pins σ H s)(os:s'.os=s.os)(bare:AllBare s'.gens)(fl:Fly X.prog X.w X.stack H s H' ar cls dx s'.heap)(xf:ExF H' dx xs)(hn:nsIn X.K mainGlobals c=some (some cls))(hc:c∈cs)(sth:StHas X.K W₀ H₀ W H0 σ δ)(sm:Same H0 H')(q:RS X.K xw W₀ H₀ W H0 (PL i gsu c xs δ) Dn):
  wpAny (model X.prog X.w) X.A (noteFrame (.ref ar) X.env) (λ_ s₂=>wpAny (model X.prog X.w) X.A (setFlight (.ref ar) none) (λ_ s₃=>
   wpAny (model X.prog X.w) X.A (handleBy (.ref ar) X.env [.ExceptHandler (some (.Name C np)) (some n) (b₀::suite) hpos]) (SP X pins Dn) X.xe s₃) X.xe s₂) X.xe s':=by
 obtain⟨vc,vC,e1,e2,e3⟩:=(hcs c hc).ex
 rw[hn]at e1
 cases e1
 have k2:Same H0 (Ib H' ar (.ext (Fi ar cls dx))):=λb o e=>by rw[Ea (Pa (sm b o e) fl.nh)];exact sm b o e
 refine AH (t:=CV X.K Jq gsu) I hex hst hfr os bare fl hgC e2 e3 hdC hN hi hk (λa=>(hsu a).h) ⟨W₀,H₀,W,δ.set i (some (.d (.exc c xs))),(sth.same k2).set (x:=.exc c xs) (v:=.ref ar) (by rw[Has];exact⟨ar,cls,dx,rfl,hn,Ra,xf.to (λb o u e=>by rw[Ea (Pa e fl.nh)];exact e) λb kvs e=>by rw[Ea (Pa e fl.nh)];exact e⟩),?_⟩
 unfold PL at q
 cases hq:gsu (δ.set i (some (.d (.exc c xs)))) with
 |nx δ'=>rw[hq]at q;exact λW' H2 σ2 stp st2=>q W' H2 _ ((Step.same k2).trans stp) (st2.unset i)
 |bk δ'=>rw[hq]at q;exact λW' H2 σ2 stp st2=>q W' H2 _ ((Step.same k2).trans stp) (st2.unset i)
 |ct δ'=>rw[hq]at q;exact λW' H2 σ2 stp st2=>q W' H2 _ ((Step.same k2).trans stp) (st2.unset i)
 |rt d=>rw[hq]at q;exact q
 |ex c' fs'=>rw[hq]at q;exact q.elim
 |stuck=>rw[hq]at q;exact q.elim
theorem VU(i:Nat)(cs:List Str)(F:FnX X.prog X.w X.K X.mg X.base k x nn m)(hcs:∀ c∈cs,MatchX X.K C c)(hN:X.N.Nodup)(hr:Room k X.A)(ha:XA X.nox Jq (a::es) fs)(kd:KindX X (.Call (.Name x p) (a::es) [] cpos) st gK)(hor:XSs X xw orelse go)(hsu:∀ a,XSs (Ml X a) Jq (b₀::suite) gsu)(hi:X.N[i]? =some n:=by rfl)(hk:X.env.kindOf n=some .local:=by rfl)(hex:X.ex= []:=by rfl)(hst:X.stack=X.env::X.outer:=by rfl)(hfr:X.env.frame=some X.env.locals:=by rfl)(hgC:Gl X C:=by rfl)(hdC:(C==("__debug__":Str))=false:=by decide)(hg:Gl X x:=by rfl)(hdb:(x==("__debug__":Str))=false:=by decide)(he:starEach (a::es) X.env=(false,eval a X.env)::starEach es X.env:=by rfl)(hpl:(backTo cpos (starEach es X.env)).any (·.1)=false:=by rfl):
  XS X xw (.Try [st] [.ExceptHandler (some (.Name C np)) (some n) (b₀::suite) hpos] orelse [] tpos) (Yp cs (Dq fs nn m []) gK go (PL i gsu)):=by
 obtain⟨fa,fd,ps,G,hm,hkp,hb⟩:=F.ex
 exact KB cs G hm hkp hb .nil (λW H=>HasL.nil) hr ha kd hor (TW i cs hcs hex hst hfr hN hi hk hgC hdC hsu) hg hdb he hpl
end
end L3
namespace L3
open PySem PySem.Spec PySem.Calls PyProof.Rows PySem.W Builtin Builtin.ObjectAttr Builtin.Getset_descriptor
structure ExcK(K:Frag)(C:Addr):Prop where
 ga:findIn K (.ref C) "__getattribute__"=some (some (.builtin "BaseException.__getattribute__"))
 gt:findIn K (.ref C) "__getattr__"=some none
 cl:findIn K (.ref C) "__class__"=some (some (.builtin "object.__class__"))
 ob:mroIn K C (.type "object")=some true
 be:mroIn K C (.type "BaseException")=some true
variable{K:Frag}{C:Addr}
theorem ExcK.ci(z:ExcK K C):(clsIn K C).isSome=true:=by
 obtain⟨cd,e,_⟩:=Option.bind_eq_some_iff.mp z.ob
 rw[e];rfl
variable{R:Result->Shared->Prop}{tk:Tok}
section
variable {prog:Program}{w:World}{A:Around}{E:Value->Shared->Prop}{h:Heap}{g:Array GenState}{d:Drawn}{t:Nat}{os:OsState}{a:Addr}{o:Obj}
theorem B3{tp:Value}(X:K.In h)(hx:h.get? a=some o)(hc:o.cls=.ref C)(z:ExcK K C)(hq:R (.ok (.ret (.ref C))) ⟨h,g,d,t,os⟩):
  codeAny (model prog w) A (.call (.builtin "getset_descriptor.__get__") ⟨[.builtin "object.__class__",.ref a,tp],[]⟩) R ⟨h,g,d,t,os⟩:=by
 have L0:Looks (model prog w) h (typeOf (.ref a)) (.ref C):=hc▸(Looks.ld hx).andThen .now
 have L1:=looks_mroIn (M:=model prog w) X z.ob
 refine codeAny_call_builtin KF.slot_gs.plain KF.entry_gs (KF.slot_gs.check _ _ _ _ _ _ _ _ KF.type_class (KF.args_gs _ _ _) ?_)
 unfold Builtin.«getset_descriptor.__get__» descrGet
 rw[dga_obj]
 refine wpAny_bind (wpAny_pure ?_)
 unfold descrGetter descrCheckInstance descrNameAndClass isInstance
 simp only[KF.owner_class]
 repeat lk
 refine⟨Code.quiet_builtin _ (by decide +kernel),codeAny_builtin KF.entry_class ?_⟩
 unfold Builtin.«object.__class__» shownTypeOf
 repeat lk
 exact hq
theorem ZP{Q:Fin->Shared->Prop}(X:K.In h)(hx:h.get? a=some o)(hc:o.cls=.ref C)(z:ExcK K C)(hq:Q (.done (.ret (.ref C))) ⟨h,g,d,t,os⟩):
  wpAny (model prog w) A (Builtin.«object.__getattribute__» ⟨[.ref a,.str "__class__" tk],[]⟩) Q E ⟨h,g,d,t,os⟩:=by
 have hT5:(⟨h,g,d,t,os⟩:Shared).TypeIs (.builtin "object.__class__") "getset_descriptor":=F.typeOf_object_class
 have L0:Looks (model prog w) h (typeOf (.ref a)) (.ref C):=hc▸(Looks.ld hx).andThen .now
 have L3:=looks_findIn (M:=model prog w) X z.cl
 have f5:=F.typeOf_object_class
 have f6:=F.slot_gs_get.lookup
 have f7:=F.slot_gs_set.lookup
 repeat (any_goals (first|assumption|refine wpAny_bind (L0.at ?_)|refine wpAny_bind (L3.at ?_)|wp_step))
 refine B3 X hx hc z ?_
 repeat (any_goals (first|assumption|wp_step))
theorem SV(X:K.In h)(hx:h.get? a=some o)(hc:o.cls=.ref C)(z:ExcK K C)(hq:R (.ok (.ret (.ref C))) ⟨h,g,d,t,os⟩):
  codeAny (model prog w) A (.call (.builtin "BaseException.__getattribute__") ⟨[.ref a,.str "__class__" tk],[]⟩) R ⟨h,g,d,t,os⟩:=by
 have L0:Looks (model prog w) h (typeOf (.ref a)) (.ref C):=hc▸(Looks.ld hx).andThen .now
 have L1:=looks_mroIn (M:=model prog w) X z.be
 have hk:builtinKind "BaseException.__getattribute__"=some .slot:=by decide +kernel
 have hsplit:splitId "BaseException.__getattribute__"=some ("BaseException","__getattribute__"):=by decide +kernel
 have ha:=F.args_bexc_ga (.ref a) (.str "__class__" tk)
 have hp:plainId "BaseException.__getattribute__"=true:=by decide +kernel
 refine codeAny_call_builtin hp F.entry_bexc_ga ?_
 simp only[checkBuiltinCall,hk,hsplit]
 refine wpAny_bind ((L0.andThen L1).at ?_)
 simp only[Bool.not_true,false_eq_true,if_false]
 repeat (first|assumption|exact ZP X hx hc z hq|wp_step)
theorem T6{fill expr:Bool}{Q:Value->Shared->Prop}(X:K.In h)(hx:h.get? a=some o)(hc:o.cls=.ref C)(z:ExcK K C)(hq:Q (.ref C) ⟨h,g,d,t,os⟩):
  wpAny (model prog w) A (getAttrBy (.ref a) (.str "__class__" tk) fill expr) Q E ⟨h,g,d,t,os⟩:=by
 have L0:Looks (model prog w) h (typeOf (.ref a)) (.ref C):=hc▸(Looks.ld hx).andThen .now
 have L1:=looks_findIn (M:=model prog w) X z.ga
 have L2:=looks_findIn (M:=model prog w) X z.gt
 have f3:bindSpecial (.builtin "BaseException.__getattribute__") (.ref a)=pure (.builtin "BaseException.__getattribute__",[.ref a]):=F.excAttr_ValueError.ga.bind (.ref a)
 have hx0:(expr&&onTheHeap (Value.builtin "BaseException.__getattribute__"))=false:=by cases expr<;>rfl
 have hx2:(Value.builtin "BaseException.__getattribute__"==Value.builtin "object.__getattribute__")=false:=by decide +kernel
 have hx1:(onTheHeap (Value.ref C)&&Value.builtin "BaseException.__getattribute__"==Value.builtin "object.__getattribute__")=false:=by rw[hx2];rfl
 repeat (any_goals (first|assumption|refine wpAny_bind (L0.at ?_)|refine wpAny_bind (L1.at ?_)|refine wpAny_bind (L2.at ?_)|wp_step))
 refine SV X hx hc z ?_
 repeat (any_goals (first|assumption|wp_step))
theorem WP{Q:Option Value->Shared->Prop}(X:K.In h)(hx:h.get? a=some o)(hc:o.cls=.ref C)(z:ExcK K C)(hq:Q (some (.ref C)) ⟨h,g,d,t+1,os⟩):
  wpAny (model prog w) A (getAttr? (.ref a) "__class__") Q E ⟨h,g,d,t,os⟩:=by
 unfold getAttr? getAttrBy?
 exact wpAny_bind (wpAny_mkText (wpAny_bind (wpAny_attempt (T6 X hx hc z (wpAny_pure hq)))))
theorem Uz(z:ExcK K C):KitX K (.ref a) (.ref C) (λh=>∃ o,h.get? a=some o/\o.cls=.ref C) where
 ty:=λM h _ ⟨o,hx,hc⟩=>hc▸(Looks.ld hx).andThen .now
 it:=λM h X _=>by
  have hci:=z.ci
  unfold clsIn at hci
  split at hci
  .rename_i c' d' cd' sl' ho
   intro A' Q' E' s' k q
   unfold isType loadHead
   exact wpAny_bind (wpAny_loadPart (k _ _ (X _ _ ho)) (wpAny_pure q))
  .cases hci
 ne:=λh tp dd its n sl X htp=>by
  have hci:=z.ci
  refine Bool.eq_false_iff.mpr λq=>?_
  have e:C=tp:=Value.ref.inj (beq_iff_eq.mp q)
  subst e
  unfold clsIn at hci
  split at hci
  .rename_i c' d' cd' sl' ho
   have zz:=(X _ _ ho).symm.trans htp
   cases zz
  .cases hci
 ca:=λ{prog w A E Q s} X ⟨o,hx,hc⟩ k=>by
  obtain⟨hh,g,d,t,os⟩:=s
  exact WP X hx hc z k
end
end L3
namespace L3
open PySem PySem.Spec PyProof.Rows L2 SeqAt
variable{X:Cx}{xw:XW}{a e:Expr}{es:List Expr}{fa:Ga->Res D}{pos p2:Pos}{c:Str}{k n:Nat}{v vc:V}{vs:List V}{K:Frag}{C:Addr}{tb:List (Str×Bool)}{W:WS}{H:Hp}
section
variable {fs:Ga->Res (List D)}{p:Pos}
theorem CU:Nn (Ty X.prog X.w) X (λ_ _ _=>False):=λpins σ H s e s' I ⟨a,cls,dx,H',_,_,_,_,z⟩=>z.elim
theorem IV{x:Str}{m:List D->Res D}(F:FnX X.prog X.w X.K X.mg X.base k x n m)(hr:Room k X.A)(ha:XA X xw (a::es) fs)(hg:Gl X x:=by rfl)(hdb:(x==("__debug__":Str))=false:=by decide)(he:starEach (a::es) X.env=(false,eval a X.env)::starEach es X.env:=by rfl)(hpl:(backTo pos (starEach es X.env)).any (·.1)=false:=by rfl):
  XE X xw (.Call (.Name x p) (a::es) [] pos) (b1 (La n m) fs):=⟨by
 obtain⟨fa,fd,ps,G,hm,hk,hb⟩:=F.ex
 refine PE.weak (Yx G hr hg hm hk hb .nil CU ha.h hdb he hpl) λσ H Q ⟨W₀,H₀,W,δ,st,q⟩=>?_
 refine Gj st q λH2 ds vs k w st2 hv _ q2=>?_
 unfold La at q2
 split at q2
 .rename_i hn
  rw[append_nil]
  refine⟨by rw[<-hv.length];exact hn,W,ds,w,hv,?_⟩
  cases h:m ds with
  |ok d=>rw[h]at q2;exact q2
  |ex c fs=>rw[h]at q2;exact q2.elim
  |stuck=>rw[h]at q2;exact q2
 .exact q2.elim⟩
inductive IsC(K:Frag)(mg:Str->Option Value):Str->V->Prop
 |own {c:Str} {C:Addr}:mg c=some (.ref C)->IsC K mg c (.ref C)
 |blt {c:Str} {T:String}:mg c=none->bootBuiltins c=some (.type T)->c≠"__name__"->IsC K mg c (.ty T)
structure XC(X:Cx)(e:Expr)(v:V):Prop where
 h:PE X e (tC v)
structure XCs(X:Cx)(es:List Expr)(vs:List V):Prop where
 h:PA X es (λ_ H Q=>Q vs H)
theorem Kd(hc:IsC X.K X.mg c v)(hg:Gl X c:=by rfl)(hd:(c==("__debug__":Str))=false:=by decide):XC X (.Name c pos) v:=⟨by
 cases hc with
 |own h=>exact Tr hg h rfl hd
 |blt h1 h2 h3=>exact JF hg h1 h2 rfl h3 hd⟩
theorem JK:XCs X [] []:=⟨Eh⟩
theorem Uc(h:XC X e v)(t:XCs X es vs)(hs:starEach (e::es) X.env=(false,eval e X.env)::starEach es X.env:=by rfl):XCs X (e::es) (v::vs):=⟨PA.weak (Sd h.h t.h hs) λσ H Q q=>q⟩
def WD:V->Value
 | .ref a=>.ref a
 | .ty T=>.type T
 |_=>.none
def Tk(tb:List (Str×Bool)):D->Res D
 | .exc c _=>match tb.lookup c with
  |some b=>.ok (.bl b)
  |none=>.stuck
 |_=>.stuck
structure IsiX(K:Frag)(tb:List (Str×Bool))(vs:List V):Prop where
 cls:∀ v∈vs,(∃ a,v=.ref a)\/∃ T,v=.ty T
 ok:∀ c b,tb.lookup c=some b->∃ C,nsIn K mainGlobals c=some (some (.ref C))/\ExcK K C/\kitAny K (.ref C) (vs.map WD)=some b
theorem Io:∀ v∈([]:List V),(∃ a,v=V.ref a)\/∃ T,v=V.ty T:=λv h=>absurd h (by simp)
theorem Dc{a:Addr}(h:∀ v∈vs,(∃ a,v=V.ref a)\/∃ T,v=V.ty T):∀ v∈V.ref a::vs,(∃ a,v=V.ref a)\/∃ T,v=V.ty T:=forall_mem_cons.mpr ⟨.inl ⟨a,rfl⟩,h⟩
theorem TQ{T:String}(h:∀ v∈vs,(∃ a,v=V.ref a)\/∃ T,v=V.ty T):∀ v∈V.ty T::vs,(∃ a,v=V.ref a)\/∃ T,v=V.ty T:=forall_mem_cons.mpr ⟨.inr ⟨T,rfl⟩,h⟩
theorem Mo(h:∀ v∈vs,(∃ a,v=V.ref a)\/∃ T,v=V.ty T):IsiX K [] vs:=⟨h,λc b e=>by simp at e⟩
theorem Yf{c:Str}{b:Bool}(hn:nsIn K mainGlobals c=some (some (.ref C)))(z:ExcK K C)(hk:kitAny K (.ref C) (vs.map WD)=some b)(t:IsiX K tb vs):IsiX K ((c,b)::tb) vs:=⟨t.cls,λc' b' e=>by
 rw[lookup_cons]at e
 cases hx:c'==c with
 |true=>
  rw[hx]at e
  have e':b=b':=Option.some.inj e
  have ec:c'=c:=by simpa using hx
  subst e';subst ec
  exact⟨C,hn,z,hk⟩
 |false=>rw[hx]at e;exact t.ok c' b' e⟩
theorem JP:∀ {us:List Value},(∀ v∈vs,(∃ a,v=V.ref a)\/∃ T,v=V.ty T)->Vals vs us->us=vs.map WD:=by
 induction vs with
 |nil=>intro us _ r;cases r;rfl
 |cons v vs ih=>
  intro us h r
  cases r with
  |cons r t=>
   rw[map_cons,<-ih (λw hw=>h w (mem_cons_of_mem _ hw)) t]
   rcases h v mem_cons_self with⟨a,rfl⟩|⟨T,rfl⟩
   .rw[show _=Value.ref a from r];rfl
   .rw[show _=Value.type T from r];rfl
theorem OE{c:Str}{fs:List D}(h:HasT K W H (.exc c fs) v):∃ a C dx,v=.ref a/\nsIn K mainGlobals c=some (some C)/\H a=some (.ext (Fi a C dx))/\ExF H dx fs:=by
 rcases h with h|⟨ds,a,xs,h1,_⟩
 .rw[Has]at h
  exact h
 .cases h1
theorem WG(hi:IsiX X.K tb vs):CallR X (.builtin "isinstance") (λxs H Q=>∃ x c a C dx t b,xs= [x,.ref t]/\x=.ref a/\nsIn X.K mainGlobals c=some (some C)/\H a=some (.ext (Fi a C dx))/\H t=some (.tup vs)/\tb.lookup c=some b/\Q (.bl b) H):=by
 intro pins s σ H xs us Q I r h
 obtain⟨x,c,a,C,dx,t,b,rfl,rfl,hn,ha,ht,hb,q⟩:=h
 obtain⟨u,u2,rfl,rx,rc⟩:=r.two
 obtain rfl:u=Value.ref a:=rx
 obtain rfl:u2=Value.ref t:=rc
 obtain⟨C',hn',z,hk⟩:=hi.ok c b hb
 rw[hn]at hn'
 cases hn'
 obtain⟨⟨oe,ws,he,hc,_⟩,_⟩:=I.hok a _ ha
 obtain⟨_,its,rv,⟨cl,dd,dat,sl⟩,ho,hcl,n,hd⟩:=I.hok t _ ht
 simp only at hcl hd
 subst hcl hd
 have ei:=JP hi.cls rv
 rw[<-ei]at hk
 exact PySem.W.kia_tup (Uz (a:=a) z) I.kIn ⟨oe,he,hc⟩ ho hk (λz=>nomatch z) λtk=>⟨.bl b,H,I.tok tk,rfl,q⟩
theorem TB(hi:IsiX X.K tb [vc]):CallR X (.builtin "isinstance") (λxs H Q=>∃ x c a C dx b,xs= [x,vc]/\x=.ref a/\nsIn X.K mainGlobals c=some (some C)/\H a=some (.ext (Fi a C dx))/\tb.lookup c=some b/\Q (.bl b) H):=by
 intro pins s σ H xs us Q I r h
 obtain⟨x,c,a,C,dx,b,rfl,rfl,hn,ha,hb,q⟩:=h
 obtain⟨u,u2,rfl,rx,rc⟩:=r.two
 obtain rfl:u=Value.ref a:=rx
 obtain⟨C',hn',z,hk⟩:=hi.ok c b hb
 rw[hn]at hn'
 cases hn'
 obtain⟨⟨oe,ws,he,hc,_⟩,_⟩:=I.hok a _ ha
 have ei:u2=WD vc:=by
  rcases hi.cls vc mem_cons_self with⟨a,rfl⟩|⟨T,rfl⟩
  .exact rc
  .exact rc
 subst ei
 have hk1:kitOne X.K (.ref C') (WD vc)=some b:=by
  have hk':(match kitOne X.K (.ref C') (WD vc) with|some true=>some true|some false=>some false|none=>none)=some b:=hk
  split at hk'<;>simp_all
 exact kia_one (Uz (a:=a) z) I.kIn ⟨oe,he,hc⟩ hk1 (λz=>nomatch z) λtk=>⟨.bl b,H,I.tok tk,rfl,q⟩
theorem NP{ces:List Expr}{kt:Nat}(hi:IsiX X.K tb vs)(hm:X.mg "isinstance"=none)(ha:XP X xw a fa)(hcs:XCs X ces vs)(hl:vs.length<=1000:=by simp)(hg:Gl X "isinstance":=by rfl)(he:starEach [a, .Tuple ces kt p2] X.env=(false,eval a X.env)::starEach [.Tuple ces kt p2] X.env:=by rfl)(he2:starEach [.Tuple ces kt p2] X.env=(false,eval (.Tuple ces kt p2) X.env)::starEach [] X.env:=by rfl)(hpl:(backTo pos (starEach [.Tuple ces kt p2] X.env)).any (·.1)=false:=by rfl):
  XE X xw (.Call (.Name "isinstance" p) [a, .Tuple ces kt p2] [] pos) (b1 (Tk tb) fa):=⟨
 PE.weak (Vo (WG hi) hg hm (by decide +kernel) (Sd ha.h (Sd (UN hcs.h) Eh he2) he) (by decide) (by decide) he hpl) λσ H Q ⟨W₀,H₀,W,δ,st,q⟩=>Rg st q λH2 d v k w st2 hv _ q2=>by
  unfold Tk at q2
  cases d with
  |exc c fs=>
   dsimp only at q2
   split at q2
   .rename_i b hb
    obtain⟨ar,C,dx,e,hn,hH,_⟩:=OE hv
    refine⟨by rw[sizeLine_eq];omega,λt ht=>⟨v,c,ar,C,dx,t,b,rfl,e,hn,?_,Ra,hb,?_⟩⟩
    .rw[Ea (Pa hH ht)];exact hH
    .exact q2 _ _ (λb o e=>by rw[Ea (Pa e ht)];exact e) (by rw[Has])
   .exact q2.elim
  |_=>exact q2.elim⟩
theorem JG{ce:Expr}(hi:IsiX X.K tb [vc])(hm:X.mg "isinstance"=none)(ha:XP X xw a fa)(hcs:XC X ce vc)(hg:Gl X "isinstance":=by rfl)(he:starEach [a,ce] X.env=(false,eval a X.env)::starEach [ce] X.env:=by rfl)(he2:starEach [ce] X.env=(false,eval ce X.env)::starEach [] X.env:=by rfl)(hpl:(backTo pos (starEach [ce] X.env)).any (·.1)=false:=by rfl):
  XE X xw (.Call (.Name "isinstance" p) [a,ce] [] pos) (b1 (Tk tb) fa):=⟨
 PE.weak (Vo (TB hi) hg hm (by decide +kernel) (Sd ha.h (Sd hcs.h Eh he2) he) (by decide) (by decide) he hpl) λσ H Q ⟨W₀,H₀,W,δ,st,q⟩=>Rg st q λH2 d v k w st2 hv _ q2=>by
  unfold Tk at q2
  cases d with
  |exc c fs=>
   dsimp only at q2
   split at q2
   .rename_i b hb
    obtain⟨ar,C,dx,e,hn,hH,_⟩:=OE hv
    exact⟨v,c,ar,C,dx,b,rfl,e,hn,hH,hb,q2.bl⟩
   .exact q2.elim
  |_=>exact q2.elim⟩
end
variable{b:Expr}
section
variable {c tg:Expr}{p:Pos}
end
section
variable {lo:Option Expr}{st:Expr}{fl fh:Ga->Res (Option Int)}
end
variable{st:Stmt}{g:Ga->Out}{σ:L2.St}
def DC(i:Nat)(δ:Ga):Ga:=match δ[i]? with
 |some (some (.o ds))=>δ.set i (some (.d (.lst ds)))
 |_=>δ
def Cn(i:Nat)(g:Ga->Out):Ga->Out:=λδ=>g (DC i δ)
theorem NH{i:Nat}{Dn:Ends}(h:CV X.K xw (Cn i g) Dn σ H):CV X.K xw g Dn σ H:=by
 obtain⟨W₀,H₀,W,δ,st,q⟩:=h
 have q':RS X.K xw W₀ H₀ W H (g (DC i δ)) Dn:=q
 unfold DC at q'
 split at q'
 .rename_i ds h
  obtain⟨v,e,a,xs,r1,r2,r3,r4,r5⟩:=st.at' i _ h
  subst r1
  obtain⟨st2,hd⟩:=st.freeze h e
  exact⟨W₀,H₀,_,_,st2,RS.less (λb z=>z.1) q'⟩
 .exact⟨W₀,H₀,W,δ,st,q'⟩
theorem GD(i:Nat)(h:XS X xw st g):XS X xw st (Cn i g):=⟨λpins s σ H Dn I q=>h.h pins s σ H Dn I (NH q)⟩
variable{P:List Value->Prop}
theorem us1(h:∀ a0:Value,P [a0]):∀ us:List Value,us.length=1->P us
 | [a0],_=>h a0
theorem FQ(h:∀ a0 a1:Value,P [a0,a1]):∀ us:List Value,us.length=2->P us
 | [a0,a1],_=>h a0 a1
theorem us5(h:∀ a0 a1 a2 a3 a4:Value,P [a0,a1,a2,a3,a4]):∀ us:List Value,us.length=5->P us
 | [a0,a1,a2,a3,a4],_=>h a0 a1 a2 a3 a4
theorem KA(f:Str)(v:V):∀ fs:List (Str×V),f∉fs.map (·.1)->Xk f v fs=fs++ [(f,v)]
 | [],_=>rfl
 |(g,x)::r,h=>by
  rw[map_cons]at h
  have h1:¬ g=f:=λz=>h (by rw[<-z];exact mem_cons_self)
  have h2:f∉r.map (·.1):=λz=>h (mem_cons_of_mem _ z)
  show(if g=f then(g,v)::r else(g,x)::Xk f v r)=_
  rw[if_neg h1,KA f v r h2];rfl
variable{x dx:Addr}
section
variable {W₀:WS}{H₀ H':Hp}{δ:Ga}
theorem StHas.poke{fl fl':List (Str×V)}(h:StHas K W₀ H₀ W H σ δ)(hW:W x)(h0:H₀ x=none)(hx:H x=some (.ins C dx fl))(no:∀ (j:Nat) (t:S) (v:V),δ[j]? =some (some t)->σ[j]? =some (some v)->¬ Owns H t v x):StHas K W₀ H₀ W (Ib H x (.ins C dx fl')) σ δ:=by
 have kk:Zi W H (Ib H x (.ins C dx fl')):=λb o e n=>by rw[Ea (λz=>n (by rw[z];exact hW))];exact e
 have hw:∀ b,W b->W b\/H b=none:=λb z=>.inl z
 have bk:∀ (j:Nat) (s:S) (v:V) (b:Addr),δ[j]? =some (some s)->σ[j]? =some (some v)->Owns (Ib H x (.ins C dx fl')) s v b->Owns H s v b:=λj s v b e e' o=>by
  obtain⟨v',h1,h2⟩:=h.at' j s e
  rw[e']at h1;cases h1
  refine Owns.back h2 (λc o ec z y=>?_) o
  rcases y with⟨y,_⟩|⟨zs,y⟩
  .rw[Ea (λq=>by rw[q]at y;exact no j s v e e' y)];exact z
  .rw[Ea (λq=>by rw[q,hx]at z;cases z;cases y)];exact z
 refine⟨⟨λb o e=>by rw[Ea (Pa e h0)];exact h.fr.ext _ _ e,h.fr.sub,λb z=>?_,h.fr.wl0⟩,h.len,λi s e=>?_,λi j s t u v b ij e1 e2 e3 e4 o1 o2=>h.ap i j s t u v b ij e1 e2 e3 e4 (bk i s u b e1 e3 o1) (bk j t v b e2 e4 o2)⟩
 .by_cases hb:b=x
  .rw[hb];exact⟨_,Ra,trivial⟩
  .rw[Ea hb];exact h.fr.wl b z
 .obtain⟨v,h1,h2⟩:=h.at' i s e
  exact⟨v,h1,h2.mv h.fr.wl kk hw λb o e1 h1' _ h3' _=>⟨h1',by rw[Ea (λz=>by rw[z]at e1;exact no i s v e h1 e1)];exact h3'⟩⟩
theorem StHas.born(h:StHas K W₀ H₀ W H σ δ)(hx:H x=none)(hd:H dx=none)(ne:dx≠x):
  StHas K W₀ H₀ (λb=>W b\/b=x) (Ib (Ib H dx (.own x)) x (.ins C dx [])) σ δ:=by
 have sm:Same H (Ib (Ib H dx (.own x)) x (.ins C dx [])):=λb o e=>by rw[Ea (Pa e hx),Ea (Pa e hd)];exact e
 have hw:∀ b,(W b\/b=x)->W b\/H b=none:=λb z=>z.elim .inl λz=>.inr (by rw[z];exact hx)
 refine⟨⟨h.fr.ext.trans sm,λb z=>.inl (h.fr.sub b z),λb z=>?_,h.fr.wl0⟩,h.len,λi s e=>?_,(h.same sm).ap⟩
 .rcases z with z|z
  .exact h.fr.wl.same sm b z
  .rw[z];exact⟨_,Ra,trivial⟩
 .obtain⟨v,h1,h2⟩:=h.at' i s e
  exact⟨v,h1,h2.mv h.fr.wl (Same.keep sm) hw λb o _ h1' _ h3' _=>⟨.inl h1',sm _ _ h3'⟩⟩
theorem StHas.front{v:Option V}(h:StHas K W₀ H₀ W H σ δ):StHas K W₀ H₀ W H (v::σ) (none::δ):=by
 refine⟨h.fr,by simp[h.len],λi s e=>?_,λi j s t u v' a hij e1 e2 e3 e4 os ot=>?_⟩
 .cases i with
  |zero=>cases e
  |succ i=>exact h.at' i s e
 .cases i with
  |zero=>cases e1
  |succ i=>
   cases j with
   |zero=>cases e2
   |succ j=>exact h.ap i j s t u v' a (λz=>hij (by rw[z])) e1 e2 e3 e4 os ot
end
def Wm:List (Str×(Ga->Res D))->Ga->Res (List D)
 | [],_=>.ok []
 |p::r,δ=>(p.2 δ).bind λd=>(Wm r δ).bind λds=>.ok (d::ds)
def Rs(n:Nat)(c:Str)(fs:List (Str×(Ga->Res D)))(ds:List D):Res D:=(Wm fs (none::Qb n ds)).bind λes=>.ok (.obj c (fs.map (·.1)) es)
def RI(K:Frag)(W₀:WS)(H₀:Hp)(W:WS)(δ:Ga)(σ:L2.St)(C dx x:Addr)(ks:List Str)(ds:List D)(r:Res (List D))(Dn:Ends):Prop:=match r with
 | .ok es=>∀ H' fl',StHas K W₀ H₀ W H' σ δ->H' x=some (.ins C dx fl')->fl'.map (·.1)=ks->HasL K W H' (ds++es) (fl'.map (·.2))->Dn.nx σ H'
 |_=>False
def B6(K:Frag)(C:Addr)(fs:List (Str×(Ga->Res D))):TS:=λDn σ H=>∃ W₀ H₀ W δ x dx fl ds,(StHas K W₀ H₀ W H σ δ/\∀ (j:Nat) (t:S) (v:V),δ[j]? =some (some t)->σ[j]? =some (some v)->¬ Owns H t v x)/\σ[0]? =some (some (.ref x))/\W x/\H₀ x=none/\H x=some (.ins C dx fl)/\
 HasL K W H ds (fl.map (·.2))/\(fl.map (·.1)++fs.map (·.1)).Nodup/\fl.length+fs.length<1000/\RI K W₀ H₀ W δ σ C dx x (fl.map (·.1)++fs.map (·.1)) ds (Wm fs δ) Dn
structure XIn(X:Cx)(C:Addr)(sts:List Stmt)(fs:List (Str×(Ga->Res D))):Prop where
 h:PSs X sts (B6 X.K C fs)
variable{f fb:Ga->Res D}{p1 p3:Pos}
section
variable {fs:List (Str×(Ga->Res D))}{sts:List Stmt}{p:Pos}{fld:Str}
theorem UY:XIn X C [] []:=⟨PSs.weak PF λDn σ H ⟨W₀,H₀,W,δ,x,dx,fl,ds,⟨st,_⟩,_,_,_,hx,hds,_,_,q⟩=>q H fl st hx (by simp) (by rw[append_nil];exact hds)⟩
theorem Pr(cl:Cls X.K C)(hn:NoAttr X.K C fld)(he:XE X Jq e f)(hr:XIn X C sts fs){self:Str}(hN:X.N[0]? =some self:=by rfl)(hv:Jw X.env.scope self:=by first|exact Or.inl rfl|exact Or.inr (Or.inl rfl)|exact Or.inr (Or.inr rfl))(hd:(self==("__debug__":Str))=false:=by decide)(hcd:(self==("__classdict__":Str))=false:=by decide)(hs:swapsWith e (some (.Attribute (.Name self p1) fld p2)) pos.line X.env=pure false:=by rfl):
  XIn X C (.Assign [.Attribute (.Name self p1) fld p2] e pos::sts) ((fld,f)::fs):=⟨by
 refine PSs.weak (Jt (Z0 (Fh hN hv hd hcd) he.h hs) hr.h) λDn σ H ⟨W₀,H₀,W,δ,x,dx,fl,ds,⟨st,no⟩,e0,hW,h0,hx,hds,nd,ln,q⟩=>?_
 rw[List.length_cons]at ln
 show BV X.K Jq f σ H _
 refine⟨W₀,H₀,W,δ,st,?_⟩
 have eq1:Wm ((fld,f)::fs) δ=(f δ).bind λd=>(Wm fs δ).bind λds=>.ok (d::ds):=rfl
 rw[eq1]at q
 cases h1:f δ with
 |stuck=>rw[h1]at q;exact q.elim
 |ex c fs=>rw[h1]at q;exact q.elim
 |ok d=>
  rw[h1]at q
  intro v H1 k hv
  have hx1:=k _ _ hx
  have st1:=st.same k
  have no1:∀ (j:Nat) (t:S) (v:V),δ[j]? =some (some t)->σ[j]? =some (some v)->¬ Owns H1 t v x:=λj t v e e' o=>by
   obtain⟨v',h1,h2⟩:=st.at' j t e
   rw[e']at h1;cases h1
   exact no j t v e e' (Owns.back h2 (λc o _ z _=>k _ _ z) o)
  refine⟨.ref x,e0,x,C,dx,fl,rfl,hx1,cl,hn,by omega,?_⟩
  have hf:fld∉fl.map (·.1):=λz=>by
   rw[map_cons,List.nodup_append]at nd
   exact nd.2.2 _ z _ mem_cons_self rfl
  rw[KA _ _ _ hf]
  have kk:Zi W H1 (Ib H1 x (.ins C dx (fl++ [(fld,v)]))):=λb o e n=>by rw[Ea (λz=>n (by rw[z];exact hW))];exact e
  have ek:(fl++ [(fld,v)]).map (·.1)++fs.map (·.1)=fl.map (·.1)++((fld,f)::fs).map (·.1):=by simp
  refine⟨W₀,H₀,W,δ,x,dx,fl++ [(fld,v)],ds++ [d],⟨st1.poke hW h0 hx1 no1,λj t v e e' o=>by
   obtain⟨v',h1,h2⟩:=st1.at' j t e
   rw[e']at h1;cases h1
   refine no1 j t v e e' (Owns.back h2 (λc o _ z y=>?_) o)
   rcases y with⟨y,_⟩|⟨zs,y⟩
   .rw[Ea (λq=>by rw[q]at y;exact no1 j t v e e' y)];exact z
   .rw[Ea (λq=>by rw[q,hx1]at z;cases z;cases y)];exact z⟩,e0,hW,h0,Ra,?_,by rw[ek];exact nd,by rw[length_append,length_singleton];omega,?_⟩
  .rw[map_append]
   exact HasL.keep kk st1.fr.wl (λb z=>.inl z) ((hds.same k st.fr.wl).snoc hv)
  .rw[ek]
   cases h2:Wm fs δ with
   |stuck=>rw[h2]at q;exact q.elim
   |ex c gs=>rw[h2]at q;exact q.elim
   |ok es=>
    rw[h2]at q
    intro H' fl' g1 g2 g3 g4
    rw[append_assoc]at g4
    exact q H' fl' g1 g2 g3 g4⟩
end
def spI(K:Frag)(C:Addr)(n:Nat)(nl:Nat)(c:Str)(fs:List (Str×(Ga->Res D))):Sp:=λvs H Q _=>∃ x dx vs' H1 W ds,vs=V.ref x::vs'/\vs'.length=n/\H=Ib (Ib H1 dx (.own x)) x (.ins C dx [])/\H1 x=none/\H1 dx=none/\dx≠x/\
 WL W H1/\HasL K W H1 ds vs'/\match Wm fs (none::Qb nl ds) with
  | .ok es=>∀ H' fl,Same H1 H'->H' x=some (.ins C dx fl)->fl.map (·.1)=fs.map (·.1)->HasL K W H' es (fl.map (·.2))->Q .non H'
  |_=>False
structure FnI(P:Program)(w:World)(K:Frag)(mg:Str->Option Value)(base:Heap)(k:Nat)(c:Str)(n nl:Nat)(fs:List (Str×(Ga->Res D))):Prop where
 ex:∃ j C f fd ps,j+1<=k/\FnOk P w K mg base Co j f fd ps (spI K C n nl c fs)/\Mk K C f/\mg c=some (.ref C)/\nsIn K mainGlobals c=some (some (.ref C))/\Binds K fd ps []
variable{P:Program}{w:World}{mg:Str->Option Value}{base:Heap}{nl:Nat}
theorem FnI.mono{j:Nat}{fs:List (Str×(Ga->Res D))}(F:FnI P w K mg base j c n nl fs)(h:j<=k):FnI P w K mg base k c n nl fs:=by
 obtain⟨i,C,f,fd,ps,a,b⟩:=F.ex
 exact⟨i,C,f,fd,ps,le_trans a h,b⟩
theorem AS{qual:Str}{fa:Addr}{fd:FuncData}{N ps:List Str}{fs:List (Str×(Ga->Res D))}(F:Fun K "__init__" qual st fa fd)(S:FnScope N ps (Da st))(M:Mk K C fa)(hm:mg c=some (.ref C))(hc:nsIn K mainGlobals c=some (some (.ref C)))(hb:Binds K fd ps [])(body:∀ (cdv:Value) (A:Around) (outer:List Env) (s:Shared) (H:Hp) (E:XK),Room k (A.deeper (envOfC qual (Da st) s.heap.objs.size fa cdv))->
   XIn (Vk Co P w K mg base N qual (Da st) fa cdv A outer s H E).nox C (Xa st) fs)(hps:ps.length=n+1:=by rfl)(hN:N.length=nl+1:=by rfl)(hnd:(fs.map (·.1)).Nodup:=by decide +kernel)(hl:fs.length<1000:=by decide):FnI P w K mg base (k+1+1) c n nl fs:=by
 refine⟨k+1,C,fa,fd,ps,le_refl _,F.ok S (λvs H Q E h=>?_) (λcdv A outer s H vs Q E hr h=>?_),M,hm,hc,hb⟩
 .obtain⟨x,dx,vs',H1,W,ds,rfl,h1,_⟩:=h
  rw[List.length_cons,h1,hps]
 .obtain⟨x,dx,vs',H1,W,ds,rfl,h1,rfl,hx,hdx,ne,wl,hd,q⟩:=h
  have s0:=Km (N:=replicate nl ("":Str)) wl hd
  rw[length_replicate]at s0
  have es:L2.start N (V.ref x::vs')=some (V.ref x)::L2.start (replicate nl ("":Str)) vs':=by
   unfold L2.start
   rw[length_replicate,hN,List.length_cons,map_cons,cons_append,Nat.add_sub_add_right]
  refine⟨_,(body cdv A outer s _ E hr).h,W,H1,(λb=>W b\/b=x),none::Qb nl ds,x,dx,[],[],?_,by rw[es];rfl,.inr rfl,hx,Ra,HasL.nil,by simpa using hnd,by simpa using hl,?_⟩
  .rw[es]
   refine⟨(s0.born hx hdx ne).front,λj t v e _ o=>?_⟩
   cases j with
   |zero=>cases e
   |succ j=>
    have e:(Qb nl ds)[j]? =some (some t):=e
    unfold Qb at e
    rcases mem_append.mp (mem_of_getElem? e) with m|m
    .obtain⟨d,_,ed⟩:=mem_map.mp m
     cases ed
     exact o
    .have:=(List.mem_replicate.mp m).2
     cases this
  .cases h2:Wm fs (none::Qb nl ds) with
   |stuck=>rw[h2]at q;exact q.elim
   |ex c gs=>rw[h2]at q;exact q.elim
   |ok es=>
    rw[h2]at q
    exact λH' fl' st' g2 g3 g4=>q H' fl' st'.fr.ext g2 (by simpa using g3) (HasL.keep (λ_ _ e _=>e) st'.fr.wl (λb z=>.inl (.inl z)) (show HasL K (λb=>W b\/b=x) H' es (fl'.map (·.2)) from g4))
variable{ff:Ga->Res (List D)}
section
variable {gs:Ga->Res (List D)}{fs:List (Str×(Ga->Res D))}{p:Pos}{fld:Str}
theorem Y2(F:FnI X.prog X.w X.K X.mg X.base k c n nl fs)(hr:Room k X.A)(ha:XA X xw (a::es) gs)(hg:Gl X c:=by rfl)(hdb:(c==("__debug__":Str))=false:=by decide)(he:starEach (a::es) X.env=(false,eval a X.env)::starEach es X.env:=by rfl)(hpl:(backTo pos (starEach es X.env)).any (·.1)=false:=by rfl):
  XE X xw (.Call (.Name c p) (a::es) [] pos) (b1 (La n (Rs nl c fs)) gs):=⟨by
 obtain⟨j,C,fi,fd,ps,hj,G,M,hm,hn,hb⟩:=F.ex
 refine PE.weak (FU M G (hr.mono hj) hg hm hb .nil EW ha.h hdb he hpl) λσ H Q ⟨W₀,H₀,W,δ,st,q⟩=>?_
 refine Gj st q λH2 ds vs k w st2 hv _ q2=>?_
 unfold La at q2
 split at q2
 .rename_i hl
  intro x dx hx hdx ne
  rw[append_nil]
  refine⟨x,dx,vs,H2,W,ds,rfl,by rw[<-hv.length];exact hl,rfl,hx,hdx,ne,w,hv,?_⟩
  unfold Rs at q2
  cases h:Wm fs (none::Qb nl ds) with
  |stuck=>rw[h]at q2;exact q2.elim
  |ex c gs=>rw[h]at q2;exact q2.elim
  |ok es=>
   rw[h]at q2
   exact λH' fl k' g1 g2 g3=>⟨rfl,q2 _ _ k' (by
    rw[Has]
    exact⟨x,C,dx,fl,rfl,hn,g1,(λz=>by obtain⟨o,e,_⟩:=w x z;rw[hx]at e;cases e),g2,g3⟩)⟩
 .exact q2.elim⟩
def Ku(c fld:Str):D->Res D
 | .obj c' ks ds=>if c'=c then(match (ks.zip ds).lookup fld with|some d=>.ok d|none=>.stuck) else .stuck
 |_=>.stuck
structure FldK(K:Frag)(c fld:Str):Prop where
 ex:∃ C,nsIn K mainGlobals c=some (some (.ref C))/\Cls K C/\NoAttr K C fld
theorem SE{K:Frag}{W:WS}{H:Hp}{g:Str}{d:D}:∀ {fl:List (Str×V)} {ds:List D},HasL K W H ds (fl.map (·.2))->((fl.map (·.1)).zip ds).lookup g=some d->∃ v,fl.lookup g=some v/\Has K W H d v
 | [],ds,_,e=>by simp at e
 |(k,v)::r,[],h,e=>by simp at e
 |(k,v)::r,d'::ds,h,e=>by
  rw[HasL]at h
  obtain⟨x,r',e1,h1,h2⟩:=h
  rw[map_cons]at e1
  cases e1
  rw[map_cons,List.zip_cons_cons,lookup_cons]at e
  rw[lookup_cons]
  cases hk:g==k with
  |true=>rw[hk]at e;cases e;exact⟨_,rfl,h1⟩
  |false=>rw[hk]at e;exact SE h2 e
theorem EG(T:FldK X.K c fld)(he:XE X xw e f)(hb:attributeBase e fld X.env (eval e X.env)=eval e X.env:=by rfl):XE X xw (.Attribute e fld pos) (b1 (Ku c fld) f):=
 ⟨PE.weak (N0 he.h hb) λσ H Q ⟨W₀,H₀,W,δ,st,q⟩=>Vj st q λH2 d v k w st2 hv _ q2=>by
  unfold Ku at q2
  cases d with
  |obj c' ks ds=>
   dsimp only at q2
   split at q2
   .rename_i hc
    subst hc
    split at q2
    .rename_i d' hd
     rw[Has]at hv
     obtain⟨ar,C,dx,fl,rfl,hn,hH,_,rfl,hL⟩:=hv
     obtain⟨C',hn',cl,na⟩:=T.ex
     rw[hn]at hn'
     cases hn'
     obtain⟨u,hu,hh⟩:=SE hL hd
     exact⟨ar,C,dx,fl,u,rfl,hH,cl,na,hu,q2 u H2 (Same.refl _) hh⟩
    .exact q2.elim
   .exact q2.elim
  |_=>exact q2.elim⟩
def QR(i:Nat)(δ:Ga)(r:Res (List D)):Out:=match δ[i]? with
 |some (some (.o ds))=>Wk r λes=>@ite Out (ds.length+es.length<=100000) (propDecidable _) (.nx (δ.set i (some (.o (ds++es))))) .stuck
 |_=>.stuck
def ZI(i:Nat)(ff:Ga->Res (List D)):Ga->Out:=λδ=>QR i δ (ff δ)
theorem JO(i:Nat){x:Str}(he:XF X xw e ff)(hN:X.N[i]? =some x:=by rfl)(hv:Jw X.env.scope x:=by first|exact Or.inl rfl|exact Or.inr (Or.inl rfl)|exact Or.inr (Or.inr rfl))(hd:(x==("__debug__":Str))=false:=by decide)(hcd:(x==("__classdict__":Str))=false:=by decide)(hsE:starEach [e] X.env=(false,eval e X.env)::starEach [] X.env:=by rfl)(hbase:attributeBase (.Name x p1) "extend" X.env (eval (.Name x p1) X.env)=eval (.Name x p1) X.env:=by rfl)(hfew:((backTo p3 (starEach [e] X.env)).all (λx=> !x.1)&&(backToKw p3 (keywordEach [] X.env)).all (λx=>x.1.isSome)
   &&decide (([e]:List Expr).length+([]:List Keyword).length+(if([]:List Keyword).isEmpty then 0 else 1)<30))=true:=by rfl)(hline:(p2.endLine==p3.line)=true:=by rfl)(hplain:(backTo p3 (starEach [] X.env)).any (·.1)=false:=by rfl)(hsw:swapsWith (.Call (.Attribute (.Name x p1) "extend" p2) [e] [] p3) none pos.line X.env=pure false:=by rfl):
  XS X xw (.Expr (.Call (.Attribute (.Name x p1) "extend" p2) [e] [] p3) pos) (ZI i ff):=⟨
 PS.weak (Wo (Ft PySem.F.plainAttrs_list PySem.F.slot_list_extend PySem.F.type_list_extend AI (Fh hN hv hd hcd) (Sd he.h Eh hsE) hbase hfew hline hsE hplain) hsw) λDn σ H ⟨W₀,H₀,W,δ,st,q⟩=>by
  unfold ZI QR at q
  split at q
  .rename_i ds h
   obtain⟨v,e1,a,xs,rfl,r2,r3,r4,r5⟩:=st.at' i _ h
   refine⟨_,e1,.inl ⟨rfl,xs,.of r4⟩,?_⟩
   refine⟨W₀,H₀,W,δ,st,?_⟩
   cases h1:ff δ with
   |stuck=>rw[h1]at q;exact q
   |ex c fs=>rw[h1]at q;exact λH' k'=>q H' (st.fr.ext.trans k')
   |ok es=>
    rw[h1]at q
    intro b zs H1 k n r
    have q':RS X.K xw W₀ H₀ W H (@ite Out (ds.length+es.length<=100000) (propDecidable _) (.nx (δ.set i (some (.o (ds++es))))) .stuck) Dn:=q
    split at q'
    .rename_i hlen
     have sm:Same H (Ib H1 b (.lst zs)):=λc o e=>by rw[Ea (Pa (k c o e) n)];exact k c o e
     have sm1:Same H1 (Ib H1 b (.lst zs)):=λc o e=>by rw[Ea (Pa e n)];exact e
     have st2:=st.same sm
     have ra:(Ib H1 b (.lst zs)) a=some (.lst xs):=sm _ _ r4
     have sz:sizeLine=16777216:=sizeLine_eq
     have hL:HasL X.K W (Ib H1 b (.lst zs)) (ds++es) (xs++zs):=(r5.same sm st.fr.wl).append (r.same sm1 (st.same k).fr.wl)
     refine⟨a,b,xs,zs,rfl,rfl,ra,Ra,?_,?_⟩
     .have:=r5.length;have:=r.length;omega
     .refine q' W _ σ ⟨λc o e n=>?_,λ_ z=>.inl z⟩ (st2.change h e1 ra r2 hL)
      rw[Ea (λz=>n (by rw[z];exact r2))];exact sm c o e
    .exact q'.elim
  .exact q.elim⟩
def N7(w:World)(e:DictEntry)(p:Str×Str):Prop:=e.hash=GZ w (.inr p.1)/\(∃ t,e.key=.str p.1 t)/\∃ t,e.val=.str p.2 t
structure GlobQ(w:World)(K:Frag)(mg:Str->Option Value)(x:Str)(l:List (Str×Str)):Prop where
 h:∃ (ad:Addr) (o:Obj) (es:Array DictEntry) (n:Nat),mg x=some (.ref ad)/\K.lookup ad=some o/\o.ExactDict/\o.data=.dict es n/\Paired (N7 w) es.toList l/\(l.map (·.1)).Nodup
end
section
variable {pos' p:Pos}
end
end L3
namespace L2
open PySem PySem.Spec PyProof.Rows
variable {X:Cx}{pos:Pos}
end L2
namespace L3
open PySem PySem.Spec PyProof.Rows L2 SeqAt
variable {X:Cx}{pos:Pos}{tgs:List Expr}{ts:List D->Ga->Res Ga}
end L3
namespace PySem
open Sem (wp)
variable{mN:Str->Option Value}
section
variable {prog:Program}{w:World}{A:Around}{E:Value->Shared->Prop}{h:Heap}{g:Array GenState}{d:Drawn}{t:Nat}{os:OsState}
variable {nm q:Str}{C N f:Addr}{bs bm bmB:List Value}{hdct:Bool}{sn:List Str}{sub:List Value}{ab:Bool}{col:Option Bool}{dd:Option Addr}{k0 k1 k2 k3 k5:Option Value}{B newId initId:String}
def Jj(h:Heap)(C:Addr)(rest:List Value):Heap:=(h.push {cls:=.type "tuple",data:=.seq rest.toArray}).push {cls:=.ref C,data:=.fields #[.ref h.objs.size,.none,.none,.none,.bool false,.none]}
theorem Kj{b:Addr}{o:Obj}{rest:List Value}(e:h.get? b=some o):(Jj h C rest).get? b=some o:=get?_push_of_some _ (get?_push_of_some _ e)
theorem Hv(rest:List Value):(Jj h C rest).get? (h.objs.size+1)=some {cls:=.ref C,data:=.fields #[.ref h.objs.size,.none,.none,.none,.bool false,.none]}:=by
 unfold Jj
 heap_get
theorem SM(F:ExcBaseFacts B newId initId bmB)(T:OwnTail h bmB bm){rest:List Value}{Q:Fin->Shared->Prop}(kl:h.get? C=some (excClassObj nm q C N bs bm hdct sn sub ab col dd k0 k1 k2 k3 k5 newId))(ns:h.Ns N mN)(hi:mN "__init__"=some (.ref f))(hrest:rest.length<=sizeLine)(hb:∀ self:Value,W.Looks (model prog w) h (bindSpecial (.ref f) self) (.ref f,[self]))(hq:codeAny (model prog w) A (.call (.ref f) ⟨.ref (h.objs.size+1)::rest,[]⟩) (λr s'=>match r with
   | .ok (.ret v)=>v=.none/\Q (.done (.ret (.ref (h.objs.size+1)))) s'
   | .ok _=>False
   | .error e=>E e s') ⟨Jj h C rest,g,d,t,os⟩):
  wpAny (model prog w) A (Builtin.«type.__call__» ⟨.ref C::rest,[]⟩) Q E ⟨h,g,d,t,os⟩:=by
 repeat (first|with_reducible refine wpAny_loadPart_at kl ?_|with_reducible refine wpAny_madeBy_exc kl ?_|wp_step)
 refine codeAny_call_builtin_code (Code.quiet_builtin _ F.quiet) (wpAny_check_new_subT F T kl ?_)
 refine codeAny_exc_new_subT F T kl ?_ hrest
 show wpAny _ _ _ _ _ _
 have kl1:(Jj h C rest).get? C=_:=Kj kl
 have ns1:(Jj h C rest).Ns N mN:=by
  obtain⟨o,es,ep,e,r⟩:=ns
  exact⟨o,es,ep,Kj e,r⟩
 have tl1:=T.keeps (h':=Jj h C rest) λb o e=>Kj e
 have hb1:=W.Looks.keeps (hb (.ref (h.objs.size+1))) (h':=Jj h C rest) λb o e=>Kj e
 have at1:=Hv (h:=h) (C:=C) rest
 have own:(Value.ref C::bm).contains (.ref C)=true:=by simp
 show wpAny _ _ _ _ _ ⟨Jj h C rest,g,d,t,os⟩
 generalize Jj h C rest=h1 at*
 unfold isInstance
 repeat (first|with_reducible refine wpAny_loadPart_at at1 ?_|(with_reducible refine wpAny_isSubtype_exc kl1 ?_;rw[own])|wp_step)
 show wpAny _ _ (typeLookup (.ref C) _) _ _ _
 refine wpAny_typeLookup_tail kl1 ns1 tl1 F.mroIs F.init.lookup ?_
 rw[hi]
 show wpAny _ _ (holding _ (bindSpecial _ _ >>= _)) _ _ _
 refine wpAny_holding (wpAny_bind (W.Looks.at hb1 ?_))
 refine wpAny_bind (wpAny_call (codeAny_mono hq λr s' z=>?_))
 rcases r with e|(v|_|_|_)<;>first|exact z|exact z.elim|skip
 obtain⟨rfl,z⟩:=z
 exact wpAny_pure (wpAny_pure z)
theorem EK(F:ExcBaseFacts B newId initId bmB)(T:OwnTail h bmB bm){rest:List Value}{Q:Value->Shared->Prop}(kl:h.get? C=some (excClassObj nm q C N bs bm hdct sn sub ab col dd k0 k1 k2 k3 k5 newId))(ns:h.Ns N mN)(hi:mN "__init__"=some (.ref f))(hrest:rest.length<=sizeLine)(hb:∀ self:Value,W.Looks (model prog w) h (bindSpecial (.ref f) self) (.ref f,[self]))(hq:codeAny (model prog w) (A.under (.builtin "type.__call__" ⟨.ref C::rest,[]⟩)) (.call (.ref f) ⟨.ref (h.objs.size+1)::rest,[]⟩) (λr s'=>match r with
   | .ok (.ret v)=>v=.none/\Q (.ref (h.objs.size+1)) s'
   | .ok _=>False
   | .error e=>E e s') ⟨Jj h C rest,g,d,t,os⟩):
  wpAny (model prog w) A (call (.ref C) rest) Q E ⟨h,g,d,t,os⟩:=by
 have look:=tc_lookup
 have bnd:=tc_bind (.ref C)
 have isT:(⟨h,g,d,t,os⟩:Shared).TypeIs (.ref C) "type":=⟨_,kl,rfl⟩
 refine wpAny_call (codeAny_of_tree ?_)
 show wpAny _ _ (callAny (.ref C) _) _ _ _
 repeat (any_goals (first|assumption|with_reducible refine wpAny_loadPart_at kl ?_|wp_step))
 refine⟨rfl,?_⟩
 refine codeAny_call_builtin_at (Code.quiet_builtin _ (by decide +kernel)) entry_typeCall (wpAny_check_type_call_sub kl (SM F T kl ns hi hrest hb ?_))
 exact hq
end
end PySem
namespace PySem
open Sem (wp)
open Builtin Builtin.ObjectAttr W
variable{vs:Array Value}{sl:Array (Option Value)}{name:Str}{v:Value}{tk:Tok}{cd:ClassData}{n:Nat}
section
variable {prog:Program}{w:World}{A:Around}{E:Value->Shared->Prop}{h:Heap}{g:Array GenState}{d:Drawn}{t:Nat}{os:OsState}{K:Frag}
variable {nm q:Str}{C N e:Addr}{bs bm bmB:List Value}{hdct:Bool}{sn:List Str}{sub:List Value}{ab:Bool}{col:Option Bool}{dd:Option Addr}{k0 k1 k2 k3 k5:Option Value}{newId:String}
abbrev IP:List Value:= [.type "ValueError",.type "Exception",.type "BaseException",.type "object"]
def Wv:Nat->List Value->Bool
 |0,l=>l==IP
 |n+1,.ref _::r=>Wv n r
 |_+1,_=>false
theorem Et(self:Value):∀ {n:Nat} {l:List Value},Wv n l=true->refuseLoop self "__setattr__" l=pure ()
 |0,_,e=>by rw[beq_iff_eq.mp e];exact F.store_ValueError.passes self
 |n+1,.ref _::r,e=>by rw[refuseLoop_ref];exact Et (n:=n) self e
theorem EL{b:Bool}{Q:Fin->Shared->Prop}(KX:K.In h)(he:h.get? e=some ⟨.ref C,none,.fields vs,sl⟩)(f4:clsIn K C=some cd)(f6:cd.hasDict=true)(hq:∀ h' tk' dx,(∀ b o,b≠e->h.get? b=some o->h'.get? b=some o)->h'.get? e=some ⟨.ref C,some dx,.fields vs,sl⟩->h.objs.size<=dx->h'.Ns1 dx (λx=>if x=name then some v else none)->Q (.done (.ret .none)) ⟨h',g,d,tk',os⟩):
  wpAny (model prog w) A (storeInOwnDict (.ref e) (.ref C) (.str name tk) name v b) Q E ⟨h,g,d,t,os⟩:=by
 have es:e≠h.objs.size:=ne_of_lt (lt_size he)
 have cl:=looks_clsIn (M:=model prog w) KX f4
 let d0:Obj:= {cls:=.type "dict",data:=.dict #[]}
 have he1:(h.push d0).get? e=some ⟨.ref C,none,.fields vs,sl⟩:=get?_push_of_some _ he
 unfold storeInOwnDict
 refine wpAny_bind (wpAny_pure ?_)
 show wpAny _ _ (instanceDict e true >>= _) _ _ _
 unfold instanceDict
 refine wpAny_bind (wpAny_bind (wpAny_loadPart he ?_))
 show wpAny _ _ (classData C >>= _) _ _ _
 refine wpAny_bind (cl.at ?_)
 rw[f6]
 show wpAny _ _ (alloc d0 >>= _) _ _ _
 refine wpAny_bind (wpAny_alloc' ?_)
 refine wpAny_bind (wpAny_update' he1 ?_)
 refine wpAny_pure (a:=some h.objs.size) ?_
 have gd:((h.push d0).update e λo=> {cls:=o.cls,dict:=some h.objs.size,data:=o.data,slots:=o.slots}).get? h.objs.size=some d0:=
  (Heap.get?_update_ne _ _ _ _ es.symm).trans (Heap.get?_push_at rfl rfl)
 have ge:((h.push d0).update e λo=> {cls:=o.cls,dict:=some h.objs.size,data:=o.data,slots:=o.slots}).get? e=some ⟨.ref C,some h.objs.size,.fields vs,sl⟩:=get?_update_self _ he1 rfl
 have kp:∀ b o,b≠e->h.get? b=some o->((h.push d0).update e λo=> {cls:=o.cls,dict:=some h.objs.size,data:=o.data,slots:=o.slots}).get? b=some o:=λb o hb q=>
  (Heap.get?_update_ne _ _ _ _ hb).trans (get?_push_of_some _ q)
 show wpAny _ _ (storeInDict h.objs.size (.str name tk) name v) _ _ ⟨(h.push d0).update e _,g,d,t,os⟩
 revert gd ge kp
 generalize ((h.push d0).update e λo=> {cls:=o.cls,dict:=some h.objs.size,data:=o.data,slots:=o.slots})=h1
 intro gd ge kp
 have nd:h1.Ns h.objs.size (λ_=>none):=⟨_,#[],_,gd,rfl,λe he=>absurd he (by simp),λ_=>rfl⟩
 unfold storeInDict newKeyGuard
 refine wpAny_bind (wpAny_pure (wpAny_bind (wpAny_nsSet1 (Heap.Ns1.of_empty nd) λh' n1 same=>?_)))
 obtain⟨oD,eD,pD,oDh,dD,cD⟩:=n1.count (Within.cons name v Within.nil)
 refine wpAny_bind (wpAny_lookBehind oDh (by rw[dD];exact pastItsLine_dict (le_trans cD (by rw[List.length_cons,length_nil,sizeLine_eq];omega))) ?_)
 refine wpAny_pure (hq h' _ h.objs.size (λb o hb q=>(same.2 b (ne_of_lt (lt_size q))).trans (kp b o hb q)) ((same.2 e es).trans ge) (le_refl _) n1)
theorem AU{R:Result->Shared->Prop}(KX:K.In h)(he:h.get? e=some ⟨.ref C,none,.fields vs,sl⟩)(f2:findIn K (.ref C) name=some none)(f3:mroIn K C (.type "object")=some true)(f4:clsIn K C=some cd)(f5:Wv n cd.mro=true)(f6:cd.hasDict=true)(hq:∀ h' tk' dx,(∀ b o,b≠e->h.get? b=some o->h'.get? b=some o)->h'.get? e=some ⟨.ref C,some dx,.fields vs,sl⟩->h.objs.size<=dx->h'.Ns1 dx (λx=>if x=name then some v else none)->R (.ok (.ret .none)) ⟨h',g,d,tk',os⟩):
  codeAny (model prog w) A (.call (.builtin "object.__setattr__") ⟨[.ref e,.str name tk,v],[]⟩) R ⟨h,g,d,t,os⟩:=by
 have L0:Looks (model prog w) h (typeOf (.ref e)) (.ref C):=(Looks.ld he).andThen .now
 have L2:=looks_findIn (M:=model prog w) KX f2
 have L3:Looks (model prog w) h (isInstance (.ref e) (.type "object")) true:=L0.andThen (looks_mroIn KX f3)
 have L4:Looks (model prog w) h (mroOf (.ref C)) cd.mro:=(looks_clsIn KX f4).andThen .now
 have SF:=F.store_object
 refine codeAny_call_builtin SF.slot.plain SF.entry (@check_slot (model prog w) _ _ ⟨h,g,d,t,os⟩ "object.__setattr__" "object" "__setattr__" (.ref e) [.str name tk,v] [] _ SF.kind SF.split L3 (SF.args (.ref e) (.str name tk) v) ?_)
 rw[osa_eq,refuse_eq]
 refine wpAny_bind (wpAny_bind (L0.at (wpAny_bind (L4.at ?_))))
 rw[Et _ f5]
 refine wpAny_pure (wpAny_bind (L0.at (wpAny_bind (L2.at (wpAny_bind (wpAny_pure (a:=(none:Option Value)) ?_))))))
 exact EL KX he f4 f6 λh' tk' dx a b c e=>hq h' tk' dx a b c e
theorem MH{Q:Unit->Shared->Prop}(KX:K.In h)(he:h.get? e=some ⟨.ref C,none,.fields vs,sl⟩)(f1:findIn K (.ref C) "__setattr__"=some (some (.builtin "object.__setattr__")))(f2:findIn K (.ref C) name=some none)(f3:mroIn K C (.type "object")=some true)(f4:clsIn K C=some cd)(f5:Wv n cd.mro=true)(f6:cd.hasDict=true)(hq:∀ h' tk' dx,(∀ b o,b≠e->h.get? b=some o->h'.get? b=some o)->h'.get? e=some ⟨.ref C,some dx,.fields vs,sl⟩->h.objs.size<=dx->h'.Ns1 dx (λx=>if x=name then some v else none)->Q () ⟨h',g,d,tk',os⟩):
  wpAny (model prog w) A (setAttr (.ref e) name v) Q E ⟨h,g,d,t,os⟩:=by
 have L0:Looks (model prog w) h (typeOf (.ref e)) (.ref C):=(Looks.ld he).andThen .now
 have L1:=looks_findIn (M:=model prog w) KX f1
 unfold setAttr callSpecial? specialOf
 repeat (first|with_reducible refine wpAny_call ?_|lk)
 refine AU KX he f2 f3 f4 f5 f6 λh' tk' dx a b c e=>?_
 exact wpAny_pure (wpAny_pure (hq h' tk' dx a b c e))
end
end PySem
namespace PySem
open Sem (wp)
open W
section
variable {prog:Program}{w:World}{A:Around}{E:Value->Shared->Prop}{h:Heap}{g:Array GenState}{d:Drawn}{t:Nat}{os:OsState}
variable {nm q:Str}{C N e:Addr}{bs bm bmB:List Value}{hdct:Bool}{sn:List Str}{sub:List Value}{ab:Bool}{col:Option Bool}{dd:Option Addr}{k0 k1 k2 k3 k5:Option Value}{B newId initId:String}
theorem Ju(F:ExcBaseFacts B newId initId bmB)(T:OwnTail h bmB bm)(kl:h.get? C=some (excClassObj nm q C N bs bm hdct sn sub ab col dd k0 k1 k2 k3 k5 newId)){t0:Addr}{sl:Array (Option Value)}{u:Value}{Q:Value->Shared->Prop}(he:h.get? e=some ⟨.ref C,none,.fields #[.ref t0,.none,.none,.none,.bool false,.none],sl⟩)(hq:∀ h' t1,(∀ b o,b≠e->h.get? b=some o->h'.get? b=some o)->h'.get? e=some ⟨.ref C,none,.fields #[.ref t1,.none,.none,.none,.bool false,.none],sl⟩->Q .none ⟨h',g,d,t,os⟩):
  wpAny (model prog w) A (call (.builtin initId) [.ref e,u]) Q E ⟨h,g,d,t,os⟩:=by
 refine wpAny_call (codeAny_call_builtin F.init.plain F.initEntry (wpAny_check_init_subT F T kl he rfl ?_))
 wp_walk
 have he1:(h.push {cls:=.type "tuple",data:=.seq #[u]}).get? e=some ⟨.ref C,none,.fields #[.ref t0,.none,.none,.none,.bool false,.none],sl⟩:=get?_push_of_some _ he
 refine hq _ h.objs.size (λb o hb k=>?_) ?_
 .rw[Heap.get?_update_other _ _ (Ne.symm hb)]
  exact get?_push_of_some _ k
 .rw[get?_update_self _ he1 rfl]
  rfl
end
end PySem
namespace L2
open PySem PySem.Spec PyProof.Rows
def Jp(a C:Addr)(h:Heap):Prop:=∃ t0 sl,h.get? a=some ⟨.ref C,none,.fields #[.ref t0,.none,.none,.none,.bool false,.none],sl⟩
def Yi(a C:Addr)(dx:Option Addr)(h:Heap):Prop:=∃ t0 sl,h.get? a=some ⟨.ref C,dx,.fields #[.ref t0,.none,.none,.none,.bool false,.none],sl⟩
variable{P:Program}{w:World}{H:Hp}{a C:Addr}
theorem NE{h:Heap}(x:Jp a C h):ObjOk P w H h a (.ext (Jp a C)):=by
 obtain⟨t0,sl,e⟩:=x
 exact⟨⟨t0,sl,e⟩,⟨_,e⟩,λh1 h2 ⟨t,z,q⟩ k=>⟨t,z,k _ q⟩⟩
theorem PR{h:Heap}{dx:Option Addr}(x:Yi a C dx h):ObjOk P w H h a (.ext (Yi a C dx)):=by
 obtain⟨t0,sl,e⟩:=x
 exact⟨⟨t0,sl,e⟩,⟨_,e⟩,λh1 h2 ⟨t,z,q⟩ k=>⟨t,z,k _ q⟩⟩
variable{X:Cx}
theorem AM{pins:List (Addr×Obj)}{σ:St}{H':Hp}{s s':Shared}{u:HO}(I:Inv X pins σ H s)(I':Inv X pins σ H' s')(hex:X.ex= [])(new:s.heap.get? a=none)(nh:H' a=none)(x:ObjOk X.prog X.w (Ib H' a u) s'.heap a u):Inv X pins σ (Ib H' a u) s':=by
 have ne:∀ b o,s.heap.get? b=some o->b≠a:=λb o e z=>by rw[z,new]at e;cases e
 have ne0:∀ b o,X.s₀.heap.get? b=some o->b≠a:=λb o e=>by
  obtain⟨o',e'⟩:=I.base.there b o e (by rw[hex];simp)
  exact ne b o' e'
 have up:∀ b o,H' b=some o->Ib H' a u b=some o:=λb o e=>by rw[Ea (Pa e nh)];exact e
 refine⟨I'.ok,I'.os,I'.bare,⟨I'.base.keep,I'.base.slot,λb o e n hx=>?_,I'.base.there,λb xs e=>up _ _ (I'.base.tups b xs e),λb o v e=>up _ _ (I'.base.frzs b o v e),λb ps e=>?_⟩,I'.loc,I'.cell,?_,λy c e=>?_,λp hp=>?_,λb v e=>?_,I'.len⟩
 .rw[Ea (ne0 b o e)];exact I'.base.free b o e n hx
 .obtain⟨m,e1⟩:=I'.base.tbls b ps e
  exact⟨m,up _ _ e1⟩
 .obtain⟨m,⟨o,_,_,ho,_⟩,_⟩:=I.loc
  rw[Ea (ne _ o ho)];exact I'.free
 .obtain⟨v,o,ho,_⟩:=I.cell y c e
  rw[Ea (ne c o ho)];exact I'.freeC y c e
 .obtain⟨e,n,r⟩:=I'.pin p hp
  refine⟨e,?_,r⟩
  rw[Ea (ne p.1 _ (I.pin p hp).1)];exact n
 .by_cases hb:b=a
  .subst hb
   rw[Ra]at e
   cases e
   exact x
  .rw[Ea hb]at e
   exact(I'.hok b v e).stay (λ_ _ _ q=>q) (λc q=>up _ _ q) λc xs q=>up _ _ q
theorem HP{o:HO}(e:H a=some o):Ib H a o=H:=by
 funext b
 unfold Ib
 split
 .rename_i z;rw[z,e]
 .rfl
structure XInit(K:Frag)(C S f:Addr):Prop where
 obj:∃ nm q N bs bm hdct sn sub ab col dd k0 k1 k2 k3 k5,K.lookup C=some (excClassObj nm q C N bs bm hdct sn sub ab col dd k0 k1 k2 k3 k5 "ValueError.__new__")/\PySem.W.nsOkIn K N=true/\
  nsIn K N "__init__"=some (some (.ref f))/\PySem.W.tailIn K IP bm=true
 ini:typeIn K (.ref f)=some (.type "function")
 kpC:keepIn K (.ref C)=true
 sa:findIn K (.ref C) "__setattr__"=some (some (.builtin "object.__setattr__"))
 ob:mroIn K C (.type "object")=some true
 cl:∃ cd n,PySem.W.clsIn K C=some cd/\Wv n cd.mro=true/\cd.hasDict=true
 bga:specialIn K (.ref S) "__getattribute__"=some (some (.builtin "type.__getattribute__"))
 brd:PySem.W.readsIn K S (.type "type")=true
 bfi:PySem.W.findCls K (.ref S) (.type "type") "__init__"=some (.val (.builtin "ValueError.__init__"))
section
variable {pos p apos p2:Pos}{a b o e:Expr}{es:List Expr}{ta tb to:TE}{t:TA}{S f:Addr}
theorem KN{x:Str}{pl:Sem Bool}(Z:XInit X.K C S f)(hg:Gl X x)(hm:X.mg x=some (.ref S))(ha:PA X (e::es) t)(hdb:(x==("__debug__":Str))=false:=by decide)(hst:starEach (e::es) X.env=(false,eval e X.env)::starEach es X.env:=by rfl)(hpl:(backTo pos (starEach es X.env)).any (·.1)=false:=by rfl)(hkw:backToKw pos (keywordEach [] X.env)= []:=by rfl)(ht:eval (.Call (.Attribute (.Name x p) "__init__" apos) (e::es) [] pos) X.env=(do
   let ov <-eval (.Name x p) X.env
   standAt apos.atName
   let (f,first) <-holding [ov] (getMethod ov "__init__" pl)
   callWith pos f first (backTo pos (starEach (e::es) X.env)) (backToKw pos (keywordEach [] X.env))):=by rfl):
  PE X (.Call (.Attribute (.Name x p) "__init__" apos) (e::es) [] pos) (λσ H Q=>t σ H λvs H1=>∃ a z,vs= [.ref a,.str z]/\H1 a=some (.ext (Jp a C))/\Q .non H1):=by
 intro pins s σ H Q I h
 refine PySem.W.methodCall_KW (pl:=pl) (Cj I hg hm ?_ hdb) ht
 refine PySem.W.method_cls I.kIn Z.bga (PySem.W.cls_value I.kIn Z.brd Z.bfi rfl ?_)
 rw[hkw]
 have hA:=ha pos pins {s with toks:=s.toks+1} σ H _ (I.tok _) h
 rw[hst]at hA ⊢
 refine Calls.callWith_builtin (by show(false||(backTo pos (starEach es X.env)).any (·.1))=false;rw[hpl]<;>rfl) (Calls.evalArgs_plain ?_)
 refine thn hA λus s2 ⟨vs,H2,I2,r2,a,z,ev,hH,q⟩=>?_
 subst ev
 obtain⟨u1,u2,rfl,ra,rz⟩:=Vals.two r2
 obtain rfl:u1=.ref a:=ra
 obtain⟨nm,qn,N,bs,bm,hdct,sn,sub,ab,col,dd,k0,k1,k2,k3,k5,lk,_,_,tl⟩:=Z.obj
 obtain⟨⟨t0,sl,he⟩,_,_⟩:=I2.hok a _ hH
 obtain⟨hp,g,d,tk,os⟩:=s2
 refine Ju F.excBase_ValueError (tail_of_in I2.kIn tl) (I2.kIn _ _ lk) he λh' t1 k ge=>?_
 have I3:=I2.write (h':=h') (t':=tk) (x:=a) (e:=a) (o:=.ext (Jp a C)) (by rw[hH];trivial) (.inl rfl) k ⟨_,ge⟩ (NE ⟨t1,sl,ge⟩)
 rw[HP hH]at I3
 exact⟨.non,H2,I3,rfl,q⟩
theorem S0{attr:Str}(hex:X.ex= [])(Z:XInit X.K C S f)(hna:findIn X.K (.ref C) attr=some none)(ho:PE X o to):
  PG X (.Attribute o attr apos) (λv σ H Q=>to σ H λx H1=>∃ a,x=.ref a/\H1 a=some (.ext (Jp a C))/\∀ d,H1 d=none->X.s₀.heap.get? d=none->Q σ (Ib (Ib H1 a (.ext (Yi a C (some d)))) d (.xd [(attr,v)]))):=by
 intro pins s σ H v u Q I r h
 rw[arm_assign_Attribute]
 refine wpAny_bind (wpAny_holding (thn (ho pins s σ H _ I h) λov s1 ⟨x,H1,I1,r1,a,ex,hH,q⟩=>?_))
 subst ex
 obtain rfl:ov=.ref a:=r1
 obtain⟨⟨t0,sl,he⟩,_,_⟩:=I1.hok a _ hH
 obtain⟨cd,n,c1,c2,c3⟩:=Z.cl
 obtain⟨hp,g,d,tk,os⟩:=s1
 refine wpAny_bind (wpAny_standAt (wpAny_bind (wpAny_holding (MH I1.kIn he Z.sa hna Z.ob c1 c2 c3 λh' tk' dx k ge le ns=>?_))))
 have I3:=I1.write (h':=h') (t':=tk') (x:=a) (e:=a) (o:=.ext (Yi a C (some dx))) (by rw[hH];trivial) (.inl rfl) k ⟨_,ge⟩ (PR ⟨t0,sl,ge⟩)
 have hd1:H1 dx=none:=I1.hok.fresh le
 have hdn:hp.get? dx=none:=Heap.get?_none_of_le le
 have hd0:X.s₀.heap.get? dx=none:=by
  cases z:X.s₀.heap.get? dx with
  |none=>rfl
  |some o=>
   obtain⟨o',e'⟩:=I1.base.there dx o z (by rw[hex];simp)
   rw[show _=hp.get? dx from rfl]at e'
   rw[hdn]at e';cases e'
 have hda:dx≠a:=λz=>by rw[z,hH]at hd1;cases hd1
 have I4:=AM (u:=.xd [(attr,v)]) I1 I3 hex hdn (by rw[Ea hda];exact hd1) ⟨_,ns,λy=>by
  by_cases hy:y=attr
  .subst hy
   simp only[lookup_cons,beq_self_eq_true,if_true]
   exact r
  .have:(y==attr)=false:=by simp[hy]
   simp only[lookup_cons,this,List.lookup_nil,if_neg hy]
   trivial⟩
 exact wpAny_release ⟨σ,_,I4,q dx hd1 hd0⟩
end
end L2
namespace L3
open PySem PySem.Spec PyProof.Rows L2 SeqAt
def spE(C:Addr)(attr:Str):Sp:=λvs H Q _=>∃ a i,vs= [.ref a,.int i]/\i.natAbs.log2<1920/\(toString i:Str).length<=1000/\H a=some (.ext (Jp a C))/\∀ d,H d=none->Q .non (Ib (Ib H a (.ext (Yi a C (some d)))) d (.xd [(attr,.int i)]))
structure XInE(X:Cx)(C:Addr)(attr:Str)(sts:List Stmt):Prop where
 h:PSs X sts (λD σ H=>∃ a i,σ[0]? =some (some (.ref a))/\σ[1]? =some (some (.int i))/\i.natAbs.log2<1920/\(toString i:Str).length<=1000/\H a=some (.ext (Jp a C))/\∀ d,H d=none->D.nx σ (Ib (Ib H a (.ext (Yi a C (some d)))) d (.xd [(attr,.int i)])))
variable{X:Cx}{C:Addr}
section
variable {S f:Addr}{xb self x attr c0:Str}{p1 p2 p3 p4 p5 p6 p7 p8 p9 q1 q2 q3 q4:Pos}{j:Nat}
end
def Ev(H:Hp)(a:Addr):Hp:=λb=>if b=a then none else H b
variable{H:Hp}{a b:Addr}
theorem Lg(h:b≠a):Ev H a b=H b:=by unfold Ev;rw[if_neg h]
theorem Hj:Ev H a a=none:=by unfold Ev;rw[if_pos rfl]
theorem Ij{o:HO}(h:Ev H a b=some o):b≠a/\H b=some o:=by
 unfold Ev at h
 split at h
 .cases h
 .rename_i z;exact⟨z,h⟩
section
variable {pins:List (Addr×Obj)}{σ:L2.St}{s:Shared}{dx:Option Addr}{M:Model}{Ex:Value->Shared->Prop}
theorem XR{E:XK}{Q:Unit->Shared->Prop}(I:Inv X pins σ H s)(hex:X.ex= [])(hst:X.stack=X.env::X.outer)(hfr:X.env.frame=some X.env.locals)(hH:H a=some (.ext (Yi a C dx)))(hnew:X.s₀.heap.get? a=none)(hE:E (.ref C) (dx,true) (Ev H a))(hQ:∀ s'',Ty X.prog X.w X.outer X.H₀ X.s₀ E (.ref a) s''->Q () s''):wpAny M X.A (leaving X.env (.ref a)) Q Ex s:=by
 have es:=Oj hst hfr
 have noex:∀ b,b∉X.ex:=λb=>by rw[hex];simp
 obtain⟨⟨t0,sl,he⟩,_,_⟩:=I.hok a _ hH
 have nst:∀ b u,H b=some u->b∉Re X.stack:=λb u q z=>by rw[I.stkFree b z]at q;cases q
 have hin:∀ env∈X.env::X.outer,∀ b,env.frame=some b->b∈a::Re X.stack:=λenv q b hb=>by
  rw[hst];exact mem_cons_of_mem _ (mem_filterMap.mpr ⟨env,q,hb⟩)
 have ff:s.heap.FunFrames (hideAll s.heap (a::Re X.stack)) (X.env::X.outer):=PySem.W.funFrames_hide (by rw[<-hst];exact I.stack) hin
 have old:∀ b o,X.s₀.heap.get? b=some o->b≠a:=λb o q z=>by rw[z,hnew]at q;cases q
 have nl:∀ b,b∉Re X.outer->((Ev H a b).isSome=true\/(X.s₀.heap.get? b).isSome=true)->b∉a::Re X.stack:=λb hb h z=>by
  rcases mem_cons.mp z with z|z
  .rw[z,Hj,hnew]at h
   rcases h with h|h<;>cases h
  .rw[es]at z
   rcases mem_cons.mp z with z|z
   .rw[z]at h
    rcases h with h|h
    .obtain⟨o,q⟩:=isSome_iff_exists.mp h
     have:=(Ij q).2
     rw[I.free]at this;cases this
    .obtain⟨o,q⟩:=isSome_iff_exists.mp h
     exact absurd (lt_of_lt_of_le (lt_size q) I.ok.above) (lt_irrefl _)
   .exact hb z
 have inB:∀ b o,s.heap.get? b=some o->b∉a::Re X.stack->(hideAll s.heap (a::Re X.stack)).get? b=some o:=λb o q hb=>hideAll_get _ q hb
 have gone:(hideAll s.heap (a::Re X.stack)).get? a=none:=PySem.W.hideAll_none _ (mem_cons_self ..)
 refine(Os X.env (.ref a)).thn (Q:=λ_ s''=>∃ h',s''= {s with heap:=h'}/\Heap.LeftW (hideAll s.heap (a::Re X.stack)) (X.env::X.outer) a (.ref C) (.ref t0) s.heap h') (wpAny_leaving_firstW (base:=hideAll s.heap (a::Re X.stack)) (by rw[<-hst];exact I.ok.frames) ff hfr he (λb o q=>of_hideAll _ q) gone rfl rfl rfl λh' hL=>⟨h',rfl,hL⟩) λ_ s'' ⟨h',e'',hL⟩ dk=>?_
 subst e''
 obtain⟨od',ed',dd'⟩:=dk a _ he
 obtain⟨k1,⟨_,_,k2⟩,k3,k4⟩:=hL
 have slots:∀ {b:Addr} {o:Obj},b∈Re X.outer->s.heap.get? b=some o->∃ sl,h'.get? b=some {o with slots:=sl}:=λ{b o} hb q=>by
  obtain⟨_,o',e',nf⟩:=I.funs.mem hb
  rw[q]at e';cases e'
  exact k4 b o q nf
 refine hQ _ ⟨a,.ref C,(dx,true),Ev H a,rfl,I.os,I.bare,⟨⟨λb o e n hb hx=>?_,λb o e n hb hx=>?_,λb o e n hx=>?_,λb o e hx=>?_,λb xs e=>?_,λb o u e=>?_,λb ps e=>?_⟩,λb u e=>?_,λb hb=>?_,hnew,Hj,⟨od',ed',DcOk.to (dx:=(dx,true)) ⟨rfl,λ_=>⟨_,rfl,rfl⟩⟩ dd'⟩,_,_,⟨k1,gone,k2,k3⟩,λb hb h=>?_⟩,hE⟩
 .exact k1 b o (inB b o (I.base.keep b o e n hb (noex b)) (nl b hb (.inr (by rw[e];rfl))))
 .obtain⟨z1,e1⟩:=I.base.slot b o e n hb (noex b)
  obtain⟨z2,e2⟩:=slots hb e1
  exact⟨z2,e2⟩
 .rw[Lg (old b o e)];exact I.base.free b o e n (noex b)
 .obtain⟨o',e1⟩:=I.base.there b o e (noex b)
  by_cases hb:b∈Re X.outer
  .obtain⟨z,e2⟩:=slots hb e1
   exact⟨_,e2⟩
  .exact⟨o',k1 b o' (inB b o' e1 (nl b hb (.inr (by rw[e];rfl))))⟩
 .have q:=I.base.tups b xs e
  rw[Lg (λz=>by rw[z,hH]at q;cases q)];exact q
 .have q:=I.base.frzs b o u e
  rw[Lg (λz=>by rw[z,hH]at q;cases q)];exact q
 .obtain⟨more,q⟩:=I.base.tbls b ps e
  exact⟨more,by rw[Lg (λz=>by rw[z,hH]at q;cases q)];exact q⟩
 .obtain⟨ne,q⟩:=Ij e
  have nin:∀ c v,c≠a->H c=some v->c∉a::Re X.stack:=λc v hc hq z=>by
   rcases mem_cons.mp z with z|z
   .exact hc z
   .exact nst c v hq z
  refine(I.hok b u q).stay (λc v hc q2=>?_) (λc z=>?_) λc xs z=>?_
  .rcases hc with rfl|hc
   .exact k1 c v (inB c v q2 (nin c u ne q))
   .exact k1 c v (inB c v q2 (nin c _ (λz=>by rw[z,hH]at hc;cases hc) hc))
  .rw[Lg (λy=>by rw[y,hH]at z;cases z)];exact z
  .rw[Lg (λy=>by rw[y,hH]at z;cases z)];exact z
 .by_cases hba:b=a
  .rw[hba];exact Hj
  .rw[Lg hba];exact I.stkFree b (by rw[es];exact mem_cons_of_mem _ hb)
 .have hb':=nl b hb h
  have:∃ o,s.heap.get? b=some o:=by
   rcases h with h|h
   .obtain⟨u,q⟩:=isSome_iff_exists.mp h
    exact To (I.hok b u (Ij q).2)
   .obtain⟨o,q⟩:=isSome_iff_exists.mp h
    exact I.base.there b o q (noex b)
  obtain⟨o,q⟩:=this
  rw[inB b o q hb'];rfl
end
end L3
namespace PySem
open Sem (wp)
section
variable {M:Model}{A:Around}{E:Value->Shared->Prop}{s:Shared}{env:Env}
variable {nm q:Str}{C N:Addr}{bs bm:List Value}{hdct:Bool}{sn:List Str}{sub:List Value}{ab:Bool}{col:Option Bool}{dd:Option Addr}{k0 k1 k2 k3 k5:Option Value}{newId:String}
theorem BD{x:Sem Value}{Q:Flow->Shared->Prop}(hbase:bm.contains (.type "BaseException")=true)(hh:A.handled=none)(h:wpAny M A x (λv s1=>∃ e dx t0 sl,v=.ref e/\s1.heap.get? C=some (excClassObj nm q C N bs bm hdct sn sub ab col dd k0 k1 k2 k3 k5 newId)/\
   s1.heap.get? e=some ⟨.ref C,dx,.fields #[.ref t0,.none,.none,.none,.bool false,.none],sl⟩/\E (.ref e) s1) E s):
  wpAny M A (raiseStmt env (some x) none) Q E s:=by
 have own:(Value.ref C::bm).contains (.type "BaseException")=true:=by rw[List.contains_cons,hbase,Bool.or_true]
 unfold raiseStmt
 refine wpAny_bind (wpAny_mono h (λv s1 z=>?_) λ_ _ y=>y)
 obtain⟨e,dx,t0,sl,rfl,kl,at1,last⟩:=z
 obtain⟨hp,g,d,tk,os⟩:=s1
 repeat (first|with_reducible refine wpAny_loadPart_at at1 ?_|with_reducible refine wpAny_loadPart_at kl ?_|(with_reducible refine wpAny_isSubtype_exc kl ?_;rw[own])|wp_step)
 exact wpAny_raiseNew_none hh last
end
end PySem
namespace L2
open PySem PySem.Spec PyProof.Rows
theorem SZ{K:Frag}{h:Heap}{N:Addr}{mN:Str->Option Value}{n:Str}{v:Value}(KX:K.In h)(G:h.Ns N mN)(e:nsIn K N n=some (some v)):mN n=some v:=by
 obtain⟨o,es,ep,at1,dt,_,fnd⟩:=G
 unfold nsIn at e
 split at e
 .rename_i c d es2 n2 sl lk
  have q:=KX _ _ lk
  rw[at1]at q
  cases q
  cases dt
  rw[<-fnd]
  unfold nsFind findBy
  rw[<-Array.find?_toList]
  split at e
  .rename_i en he
   rw[he]
   cases e
   rfl
  .split at e<;>cases e
 .cases e
section
variable {X:Cx}{C S f:Addr}{fd:FuncData}{ps:List Str}{sp:Sp}{k:Nat}{x:Str}{p pos:Pos}{e:Expr}{es:List Expr}{t:TA}
end
end L2
namespace L3
open PySem PySem.Spec PyProof.Rows L2 SeqAt
theorem AV{i:Int}(h0:0<=i)(h1:i<1000):i.natAbs.log2<1920/\(toString i:Str).length<=1000:=by
 obtain⟨n,rfl⟩:∃ n:Nat,i=n:=⟨i.toNat,by omega⟩
 have h:∀ n:Nat,n<1000->(n:Int).natAbs.log2<1920/\(toString (n:Int):Str).length<=1000:=by decide +kernel
 exact h n (by omega)
structure FnE(P:Program)(w:World)(K:Frag)(mg:Str->Option Value)(base:Heap)(k:Nat)(c attr:Str):Prop where
 ex:∃ j C S f fd ps,j+1<=k/\FnOk P w K mg base Co j f fd ps (spE C attr)/\XInit K C S f/\mg c=some (.ref C)/\nsIn K mainGlobals c=some (some (.ref C))/\Binds K fd ps []
def YJ(X:Cx)(xw:XW):Prop:=∀ (pins:List (Addr×Obj)) (σ:L2.St) (H:Hp) (s:Shared) (a C:Addr) (dx:Option Addr) (c:Str) (fs:List D),Inv X pins σ H s->H a=some (.ext (Yi a C dx))->X.s₀.heap.get? a=none->
 nsIn X.K mainGlobals c=some (some (.ref C))->ExF (Ev H a) (dx,true) fs->xw c fs (Ev H a)->X.xe (.ref a) s
variable{f:Addr}
theorem Gm{P:Program}{w:World}{K:Frag}{mg:Str->Option Value}{base:Heap}{N:List Str}{qual:Str}{scope:Scope}{cd:Value}{A:Around}{outer:List Env}{s₀:Shared}{H₀:Hp}{E:XK}:
  YJ (Vk (Ty P w) P w K mg base N qual scope f cd A outer s₀ H₀ E) (M3 K E):=by
 intro pins σ H s a C dx c fs I hH hnew hn xf q
 exact XR I rfl rfl rfl hH hnew (q (.ref C) (dx,true) hn xf) λs'' z=>z
theorem Jo{H:Hp}{a d:Addr}{o u:HO}(h:H a=none)(n:d≠a):Ev (Ib (Ib H a o) d u) a=Ib H d u:=by
 funext b
 unfold Ev Ib
 by_cases h1:b=a
 .rw[if_pos h1,h1,if_neg (Ne.symm n),h]
 .rw[if_neg h1]
  by_cases h2:b=d
  .rw[if_pos h2,if_pos h2]
  .rw[if_neg h2,if_neg h2,if_neg h1]
variable{X:Cx}{xw:XW}
section
variable {C S:Addr}{fd:FuncData}{ps:List Str}{k:Nat}{x c attr:Str}{p pos np cpos:Pos}{e a:Expr}{es:List Expr}{t:TA}{fs:Ga->Res (List D)}
end
section
variable {tg it:Expr}{f:Ga->Res (List D)}
theorem PI.nox{t:TI}(h:PI X.nox tg it t):PI X tg it t:=λpins s σ H R I hw=>
 wpAny_mono (h pins s σ H R (I.wish _) hw) (λv s1 q=>wpAny_mono q (λ_ _ ⟨a,fp,tn,J,H',e,I',r⟩=>⟨a,fp,tn,J,H',e,I'.unwish,r⟩) λ_ _ z=>False.elim z) λ_ _ z=>False.elim z
theorem V4(h:XI X.nox Jq tg it f):XI X xw tg it (Ci f):=⟨PI.weak (PI.nox h.h) λσ H R ⟨W₀,H₀,W,δ,st,q⟩=>⟨W₀,H₀,W,δ,st,by
 dsimp only[Ci]at q
 cases hq:f δ with
 |ok d=>rw[hq]at q;exact q
 |ex c fs=>rw[hq]at q;exact q.elim
 |stuck=>rw[hq]at q;exact q.elim⟩⟩
end
end L3
namespace L3
open PySem PySem.Spec PySem.Calls PyProof.Rows PySem.W Builtin Builtin.ObjectAttr Builtin.Getset_descriptor
variable{tk:Tok}{Q:Value->Shared->Prop}{expr:Bool}
section
variable {prog:Program}{w:World}{A:Around}{E:Value->Shared->Prop}{h:Heap}{g:Array GenState}{d:Drawn}{t:Nat}{os:OsState}{K:Frag}{a C:Addr}{o:Obj}{od:Option Obj}{name:Str}{v:Value}
theorem VP{Q:Fin->Shared->Prop}(X:K.In h)(J:InstAt h a o C od)(hf:findObj K C od name=some (.value v))(hq:Q (.done (.ret v)) ⟨h,g,d,t,os⟩):
  wpAny (model prog w) A (Builtin.«object.__getattribute__» ⟨[.ref a,.str name tk],[]⟩) Q E ⟨h,g,d,t,os⟩:=by
 have L0:=J.type (M:=model prog w)
 have L1:=looks_find (M:=model prog w) X J hf
 unfold Builtin.«object.__getattribute__»
 repeat (first|assumption|refine wpAny_bind (L0.at ?_)|refine wpAny_bind (L1.at ?_)|wp_step)
theorem RV{R:Result->Shared->Prop}(X:K.In h)(J:InstAt h a o C od)(z:ExcK K C)(hf:findObj K C od name=some (.value v))(hq:R (.ok (.ret v)) ⟨h,g,d,t,os⟩):
  codeAny (model prog w) A (.call (.builtin "BaseException.__getattribute__") ⟨[.ref a,.str name tk],[]⟩) R ⟨h,g,d,t,os⟩:=by
 have L0:=J.type (M:=model prog w)
 have L1:=looks_mroIn (M:=model prog w) X z.be
 have hk:builtinKind "BaseException.__getattribute__"=some .slot:=by decide +kernel
 have hsplit:splitId "BaseException.__getattribute__"=some ("BaseException","__getattribute__"):=by decide +kernel
 have ha:=F.args_bexc_ga (.ref a) (.str name tk)
 have hp:plainId "BaseException.__getattribute__"=true:=by decide +kernel
 refine codeAny_call_builtin hp F.entry_bexc_ga ?_
 simp only[checkBuiltinCall,hk,hsplit]
 refine wpAny_bind ((L0.andThen L1).at ?_)
 simp only[Bool.not_true,false_eq_true,if_false]
 repeat (first|assumption|exact VP X J hf hq|wp_step)
theorem S6{fill:Bool}(X:K.In h)(J:InstAt h a o C od)(z:ExcK K C)(hf:findObj K C od name=some (.value v))(hv:handedIn v=true)(hq:Q v ⟨h,g,d,t,os⟩):
  wpAny (model prog w) A (getAttrBy (.ref a) (.str name tk) fill expr) Q E ⟨h,g,d,t,os⟩:=by
 have L0:=J.type (M:=model prog w)
 have L1:=looks_findIn (M:=model prog w) X z.ga
 have L2:=looks_findIn (M:=model prog w) X z.gt
 have f3:bindSpecial (.builtin "BaseException.__getattribute__") (.ref a)=pure (.builtin "BaseException.__getattribute__",[.ref a]):=F.excAttr_ValueError.ga.bind (.ref a)
 have hx0:(expr&&onTheHeap (Value.builtin "BaseException.__getattribute__"))=false:=by cases expr<;>rfl
 have hx2:(Value.builtin "BaseException.__getattribute__"==Value.builtin "object.__getattribute__")=false:=by decide +kernel
 have hx1:(onTheHeap (Value.ref C)&&Value.builtin "BaseException.__getattribute__"==Value.builtin "object.__getattribute__")=false:=by rw[hx2];rfl
 have ho:=handedOut_of hv
 repeat (any_goals (first|assumption|refine wpAny_bind (L0.at ?_)|refine wpAny_bind (L1.at ?_)|refine wpAny_bind (L2.at ?_)|wp_step))
 refine RV X J z hf ?_
 repeat (any_goals (first|assumption|(rw[ho];exact wpAny_pure hq)|wp_step))
theorem QV(X:K.In h)(J:InstAt h a o C od)(z:ExcK K C)(hf:findObj K C od name=some (.value v))(hv:handedIn v=true)(hq:Q v ⟨h,g,d,t+1,os⟩):
  wpAny (model prog w) A (getAttr (.ref a) name expr) Q E ⟨h,g,d,t,os⟩:=by
 unfold getAttr
 repeat (any_goals (first|assumption|with_reducible apply S6 X J z hf hv|wp_step))
end
end L3
namespace L3
open PySem PySem.Spec PyProof.Rows L2 SeqAt
structure FldX(K:Frag)(c attr:Str):Prop where
 ex:∃ C,nsIn K mainGlobals c=some (some (.ref C))/\ExcK K C/\hasDictIn K C=true/\findIn K (.ref C) attr=some none
def Iv(f:Str):List D->List D->Option D
 | .str n::ns,x::vs=>if f=n then some x else Iv f ns vs
 |_,_=>none
def HL(cs:List Str)(f:Str):D->Res D
 | .exc c (.tup ns::vs)=>if c∈cs then(match Iv f ns vs with|some x=>.ok x|none=>.stuck) else .stuck
 | .exc c (.non:: .tup ns::vs)=>if c∈cs then(match Iv f ns vs with|some x=>.ok x|none=>.stuck) else .stuck
 |_=>.stuck
variable{K:Frag}{W:WS}{H:Hp}{x:D}{v:V}
theorem VF(h:OO x=some v):Has K W H x v:=by
 cases x with
 |non=>cases h;rw[Has]
 |bl b=>cases h;rw[Has]
 |int i=>cases h;rw[Has]
 |str z=>cases h;rw[Has]
 |_=>cases h
theorem FB{K:Frag}{W:WS}{H:Hp}:∀ {ds:List D} {xs:List V},ds.map OO=xs.map some->HasL K W H ds xs
 | [],[],_=>by rw[HasL]
 |d::ds,x::xs,h=>by
  rw[map_cons,map_cons]at h
  injection h with h1 h2
  rw[HasL]
  exact⟨x,xs,rfl,VF h1,FB h2⟩
 | [],_::_,h=>by simp at h
 |_::_,[],h=>by simp at h
theorem ExV.has(h:ExV H x v):Has K W H x v:=by
 rcases h with h|⟨ds,a,o,xs,rfl,rfl,e,q⟩
 .exact VF h
 .rw[Has]
  exact⟨a,xs,rfl,.inr (.inl ⟨o,e⟩),FB q⟩
theorem Kz{H:Hp}{f:Str}{x:D}:∀ {kvs:List (Str×V)} {vs:List D},ExVs H vs (kvs.map (·.2))->Iv f (kvs.map λp=>D.str p.1) vs=some x->∃ v,kvs.lookup f=some v/\ExV H x v
 | [],[],_,e=>by cases e
 |p::kvs,y::vs,⟨h,t⟩,e=>by
  have e:(if f=p.1 then some y else Iv f (kvs.map λp=>D.str p.1) vs)=some x:=e
  split at e
  .rename_i q
   cases e
   exact⟨p.2,by obtain⟨n,v⟩:=p;simp only at q;subst q;simp[lookup_cons],h⟩
  .rename_i q
   obtain⟨v,h1,h2⟩:=Kz t e
   refine⟨v,?_,h2⟩
   obtain⟨n,u⟩:=p
   rw[lookup_cons,show(f==n)=false from by simpa using q]
   exact h1
 | [],_::_,h,_=>h.elim
 |_::_,[],h,_=>h.elim
section
variable {X:Cx}{xw:XW}{e:Expr}{f:Ga->Res D}{pos:Pos}{attr:Str}{ta:TE}
theorem M0(he:PE X e ta)(hb:attributeBase e attr X.env (eval e X.env)=eval e X.env):PE X (.Attribute e attr pos) (λσ H Q=>ta σ H λx H1=>∃ a C dx z kvs v,x=.ref a/\H1 a=some (.ext (Fi a (.ref C) (some dx,z)))/\H1 dx=some (.xd kvs)/\
  ExcK X.K C/\hasDictIn X.K C=true/\findIn X.K (.ref C) attr=some none/\kvs.lookup attr=some v/\Q v H1):=by
 intro pins s σ H Q I h
 refine FE hb (thn (he pins s σ H _ I h) λu s1 ⟨x,H1,I1,rx,a,C,dx,zz,kvs,v,ex,ea,ed,z,hd,na,lk,q⟩=>?_)
 subst ex
 obtain rfl:u=Value.ref a:=rx
 obtain⟨⟨o,vs,ho,hc,hdx,hdt,_⟩,_⟩:=I1.hok a _ ea
 obtain⟨mA,ns,r⟩:=I1.hok dx _ ed
 obtain⟨od,hod,hl⟩:=Rv ns
 obtain⟨u,hu,ru⟩:=RelO.some_of (v:=v) (o:=mA attr) (by rw[<-lk];exact r attr)
 obtain⟨hp,g,d,tk,os⟩:=s1
 have J:PySem.W.InstAt hp a o C (some od):=⟨ho,hc,by unfold PySem.W.notCls;rw[hdt],by rw[hdx];exact hod⟩
 exact QV I1.kIn J z (PySem.W.findObj_own hd na rfl (by rw[hl,hu])) (Lv ru) ⟨v,H1,I1.tok _,ru,q⟩
theorem MP{cs:List Str}(T:∀ c∈cs,FldX X.K c attr)(he:XE X xw e f)(hb:attributeBase e attr X.env (eval e X.env)=eval e X.env:=by rfl):XE X xw (.Attribute e attr pos) (b1 (HL cs attr) f):=
 ⟨PE.weak (M0 he.h hb) λσ H Q ⟨W₀,H₀,W,δ,st,q⟩=>Vj st q λH2 d v k w st2 hv _ q2=>by
  have main:∀ (c:Str) (ns vs:List D) (fs:List D),Has X.K W H2 (.exc c fs) v->(∀ dx,ExF H2 dx fs->ExD H2 dx.1 ns vs)->RE X.K xw W H2 (if c∈cs then(match Iv attr ns vs with|some x=>.ok x|none=>.stuck) else .stuck) Q->
    ∃ a C dx z kvs u,v=.ref a/\H2 a=some (.ext (Fi a (.ref C) (some dx,z)))/\H2 dx=some (.xd kvs)/\ExcK X.K C/\hasDictIn X.K C=true/\findIn X.K (.ref C) attr=some none/\kvs.lookup attr=some u/\Q u H2:=by
   intro c ns vs fs hv hx q3
   split at q3
   .rename_i hc
    split at q3
    .rename_i x hx'
     rw[Has]at hv
     obtain⟨a,C,dx,rfl,hn,hH,hF⟩:=hv
     obtain⟨d,kvs,ed,hd,rfl,hvs⟩:=hx dx hF
     obtain⟨C',hn',z,hdt,na⟩:=(T c hc).ex
     rw[hn]at hn'
     cases hn'
     obtain⟨u,h1,h2⟩:=Kz hvs hx'
     obtain⟨d0,z0⟩:=dx
     dsimp only at ed
     subst ed
     exact⟨a,C',d,z0,kvs,u,rfl,hH,hd,z,hdt,na,h1,q3 u H2 (Same.refl _) h2.has⟩
    .exact q3.elim
   .exact q3.elim
  cases d with
  |exc c fs=>
   cases fs with
   |nil=>exact q2.elim
   |cons y vs=>
    cases y with
    |tup ns=>exact main c ns vs _ hv (λdx h=>h.2) q2
    |non=>
     cases vs with
     |nil=>exact q2.elim
     |cons y vs=>
      cases y with
      |tup ns=>exact main c ns vs _ hv (λdx h=>h) q2
      |_=>exact q2.elim
    |_=>exact q2.elim
  |_=>exact q2.elim⟩
end
end L3
namespace PySem
open Sem (wp)
open Builtin Builtin.ObjectAttr W
section
variable {prog:Program}{w:World}{A:Around}{E:Value->Shared->Prop}{h:Heap}{g:Array GenState}{d:Drawn}{t:Nat}{os:OsState}{K:Frag}{C e dx:Addr}{m:Str->Option Value}{ns:List Str}
end
end PySem
namespace L2
open PySem PySem.Spec PyProof.Rows
def Iw:V->Prop
 | .int i=>i.natAbs.log2<1920/\(toString i:Str).length<=1000
 | .str x=>(reprText x).length<=1000
 | .non=>True
 |_=>False
structure PJ(X:Cx)(parts:List Expr)(P:St->Prop)(b:Nat):Prop where
 h:∀ (pins:List (Addr×Obj)) (s:Shared) (σ:St) (H:Hp) (acc:Str) (Q:Value->Shared->Prop),Inv X pins σ H s->P σ->acc.length+b<=sizeLine->(∀ s' z tk,Inv X pins σ H s'->Q (.str z tk) s')->wpAny (model X.prog X.w) X.A (joinParts acc (evalEach parts X.env)) Q X.xe s
variable{X:Cx}{x:Str}
section
variable {pos p:Pos}{parts:List Expr}{P:St->Prop}{b:Nat}
theorem Yr(x y:Str):(x++y).length=x.length+y.length:=by
 show(x++y).cps.size=_
 rw[Str.cps_append,Array.size_append]
 rfl
theorem X0:PJ X [] (λ_=>True) 0:=⟨λpins s σ H acc Q I _ hl q=>joinParts_nil (q _ _ _ (I.tok _)) (by omega)⟩
theorem OF{z:Str}{j}(h:PJ X parts P b):PJ X (.Constant (.str z) j pos::parts) P (z.length+b):=⟨λpins s σ H acc Q I hp hl q=>by
 show wpAny _ _ (joinParts acc (eval (.Constant (.str z) j pos) X.env::evalEach parts X.env)) _ _ _
 refine joinParts_cons (thn (TN pins s σ H (λx H1=>x=.str z/\H1=H) I ⟨rfl,rfl⟩) λu s1 ⟨x,H1,I1,r1,e1,e2⟩=>?_)
 subst e1 e2
 obtain⟨tk,rfl⟩:=r1
 have e:=Yr acc z
 exact⟨by omega,h.h pins s1 σ _ _ Q I1 hp (by omega) q⟩⟩
theorem W0(i:Nat)(h:PJ X parts P b)(hN:X.N[i]? =some x)(hv:Jw X.env.scope x)(hd:(x==("__debug__":Str))=false:=by decide)(hcd:(x==("__classdict__":Str))=false:=by decide):
  PJ X (.FormattedValue (.Name x p) (-1) none pos::parts) (λσ=>(∃ n,σ[i]? =some (some (.int n))/\Iw (.int n))/\P σ) (1000+b):=⟨λpins s σ H acc Q I ⟨⟨n,hn,s1,s2⟩,hp⟩ hl q=>by
 show wpAny _ _ (joinParts acc (eval (.FormattedValue (.Name x p) (-1) none pos) X.env::evalEach parts X.env)) _ _ _
 refine joinParts_cons (FormattedValue_plain (thn (Fh hN hv hd hcd pins s σ H (λy H1=>y=.int n/\H1=H) I ⟨.int n,hn,rfl,rfl⟩) λu s2 ⟨y,H2,I2,r2,e1,e2⟩=>?_))
 subst e1 e2
 obtain⟨tk,rfl⟩:=r2
 refine formatField_int_small s1 ?_
 have e:=Yr acc (toString n:Str)
 exact⟨by omega,h.h pins _ σ _ _ Q (I2.tok _) hp (by omega) q⟩⟩
theorem EU{v1 v2:Expr}{rest:List Expr}(h:PJ X (v1::v2::rest) P b)(hb:b<=10000):PE X (.JoinedStr (v1::v2::rest) pos) (λσ H Q=>P σ/\∀ z,Q (.str z) H):=by
 intro pins s σ H Q I ⟨hp,q⟩
 refine JoinedStr_many ?_
 exact h.h pins s σ H Str.empty _ I hp (by rw[sizeLine_eq];show 0+b<=_;omega) λs' z tk I'=>⟨.str z,H,I',⟨tk,rfl⟩,q z⟩
end
variable{C f:Addr}
section
variable {apos:Pos}{o:Expr}{to:TE}{S:Addr}
end
structure RoomH(k:Nat)(A:Around):Prop where
 dp:A.depth+3*k+5<recursionLimit
 un:A.units+16*k+200<cLine
 gd:A.guards=some []
variable{k:Nat}{A:Around}
theorem Room.h(r:Room k A):RoomH k A:=⟨r.dp,r.un,r.gd⟩
theorem RoomH.mono{j:Nat}(r:RoomH k A)(h:j<=k):RoomH j A:=⟨by have:=r.dp;omega,by have:=r.un;omega,r.gd⟩
theorem RoomH.mark(r:RoomH k A)(h:Option Value):RoomH k (A.mark h):=⟨r.dp,r.un,r.gd⟩
theorem RoomH.deeper(r:RoomH (k+1) A)(env:Env):RoomH k (A.deeper env):=
 ⟨by have:=r.dp;show A.depth+1+3*k+5<_;omega,by have:=r.un;show A.units+3+16*k+200<_;omega,r.gd⟩
theorem RoomH.make(r:RoomH (k+1) A)(C:Addr)(us:List Value)(kw:List (Str×Value)):RoomH k (A.under (.builtin "type.__call__" ⟨.ref C::us,kw⟩)):=
 ⟨by have:=r.dp;rw[Ss];omega,by have:=r.un;rw[Ts];omega,by first|exact r.gd|(simpa [Around.under,Code.guards,pushGuards] using r.gd)⟩
theorem RoomH.depth(r:RoomH k A):A.depth<recursionLimit:=by have:=r.dp;omega
abbrev E3(CX:Fw)(P:Program)(w:World)(K:Frag)(mg:Str->Option Value)(base:Heap)(N:List Str)(qual:Str)(scope:Scope)(f:Addr)(cd:Value)(A:Around)(outer:List Env)(s:Shared)(H:Hp)(E:XK):Cx:= {Vk CX P w K mg base N qual scope f cd A outer s H E with calm:=false}
structure FnOkH(P:Program)(w:World)(K:Frag)(mg:Str->Option Value)(base:Heap)(CX:Fw)(k:Nat)(f:Addr)(fd:FuncData)(ps:List Str)(sp:Sp):Prop where
 len:∀ vs H Q E,sp vs H Q E->vs.length=ps.length
 run:∀ (A:Around) (outer:List Env) (s:Shared) (H:Hp) (args:Args) (us:List Value) (vs:List V) (Q:VK) (E:XK),RoomH k A->Env0 P w K mg base A outer s H->BindsTo s fd args (ps.zip us)->Vals vs us->sp vs H Q E->
  codeAny (model P w) A (.call (.ref f) args) (CR CX outer P w H s Q E) s
variable{P:Program}{CX:Fw}{w:World}{K:Frag}{mg:Str->Option Value}{base:Heap}{N ps:List Str}{qual:Str}{scope:Scope}{s:Shared}{H:Hp}{us:List Value}{vs:List V}
theorem LC{cd:Value}{outer:List Env}{s1:Shared}{E:XK}(S:FnScope N ps scope)(e0:Env0 P w K mg base A outer s H)(hl:vs.length=ps.length)(r:Vals vs us)(x:InCallC s s.heap.objs.size (bindL (envOfC qual scope s.heap.objs.size f cd).kindOf (ps.zip us) λ_=>none) (cellsFrom (s.heap.objs.size+1) scope.names []) (bindC (envOfC qual scope s.heap.objs.size f cd).kindOf (ps.zip us) λ_=>none) s1):
  Inv (E3 CX P w K mg base N qual scope f cd A outer s H E) [] (start N vs) H s1:=by
 have J:=Nv (CX:=CX) (E:=E) (A:= {A with handled:=none}) S rfl ⟨e0.frames,e0.mod,e0.bs,e0.bsz,e0.funs,e0.frf,e0.hok,e0.bare⟩ hl r x
 exact⟨⟨J.ok.mod,J.ok.kind,J.ok.glob,J.ok.blt,J.ok.above,J.ok.inj,J.ok.has,J.ok.cab,λz=>absurd (show false=true from z) (by decide),J.ok.frames,J.ok.stk,J.ok.exf,J.ok.bs,J.ok.bsz,J.ok.noex,J.ok.exfs,J.ok.funs,J.ok.frf⟩,J.os,J.bare,J.base,J.loc,J.cell,J.free,J.freeC,J.pin,J.hok,J.len⟩
variable{sp:Sp}
theorem LY{name:Str}{params:Arguments}{body:List Stmt}{dV kV doc pm cdv ct oc:Value}{an od:Option Addr}{osl:Array (Option Value)}(lk:K.lookup f=some ⟨oc,od,.func (fnOf name qual params body scope dV kV doc pm an cdv ct),osl⟩)(hcd:codeIn K cdv qual=true)(S:FnScope N ps scope)(len:∀ vs H Q E,sp vs H Q E->vs.length=ps.length)(hbody:∀ (A:Around) (outer:List Env) (s:Shared) (H:Hp) (vs:List V) (Q:VK) (E:XK),RoomH k (A.deeper (envOfC qual scope s.heap.objs.size f cdv))->sp vs H Q E->
   ∃ t,PSs (E3 CX P w K mg base N qual scope f cdv A outer s H E) body t/\t {nx:=λ_ H'=>Q .non H',rt:=Q} (start N vs) H):
  FnOkH P w K mg base CX (k+1) f (fnOf name qual params body scope dV kV doc pm an cdv ct) ps sp:=by
 refine⟨len,λA outer s H args us vs Q E hr e0 hb r hsp=>?_⟩
 have hl:=len _ _ _ _ hsp
 have KX:K.In s.heap:=e0.mod.kin.keeps λb o e=>(e0.bs b o e).1
 have lim:s.heap.NoLimit:=e0.mod.nolimit.keeps λb o e=>(e0.bs b o e).1
 have hkind:∀ y∈ps.zip us,scope.names.lookup y.1=some .local\/(scope.names.lookup y.1=some .cell/\((cellsFrom (s.heap.objs.size+1) scope.names []).lookup y.1).isSome=true):=λ⟨n,v⟩ hy=>by
  rcases S.par n (List.of_mem_zip hy).1 with q|q
  .exact .inl q
  .exact .inr ⟨q,cellsFrom_some _ _ _ (.inl q)⟩
 refine codeAny_call_function hr.depth (KX _ _ lk) rfl S.co S.gen rfl (PySem.W.codeRec_of KX hcd) (hb _ _ _ _ ?_)
 refine wpAny_newFunctionEnv_cells S.kind hkind λenv he s1 x=>?_
 subst he
 refine⟨lim.keeps x.toInCall.keep,codeAny_func ?_⟩
 obtain⟨t,ht,hq⟩:=hbody A outer s H vs Q E (hr.deeper _) hsp
 have I:Inv (E3 CX P w K mg base N qual scope f cdv A outer s H E) [] (start N vs) H s1:=LC S e0 hl r x
 refine wpAny_mono (ht [] s1 (start N vs) H _ I hq) (λfl s' hs=>?_) λe s' hs=>hs
 have fin:∀ {σ':St} {H':Hp} {v:V} {u:Value},Inv (E3 CX P w K mg base N qual scope f cdv A outer s H E) [] σ' H' s'->RelV v u->Q v H'->CE outer P w H s Q u s':=
  λ{σ' H' v u} J rv q=>⟨v,H',J.os,J.bare,J.base,J.hok,rv,q⟩
 cases fl with
 |ret u=>
  obtain⟨v,σ',H',J,rv,q⟩:=hs
  exact fin J rv q
 |next=>
  obtain⟨σ',H',J,q⟩:=hs
  exact fin (v:=V.non) (u:=Value.none) J rfl q
 |brk=>
  obtain⟨_,_,_,q⟩:=hs
  exact False.elim q
 |cont=>
  obtain⟨_,_,_,q⟩:=hs
  exact False.elim q
variable{fd:FuncData}
theorem Fun.okH{st:Stmt}(F:Fun K x qual st f fd)(S:FnScope N ps (Da st))(len:∀ vs H Q E,sp vs H Q E->vs.length=ps.length)(hbody:∀ (cdv:Value) (A:Around) (outer:List Env) (s:Shared) (H:Hp) (vs:List V) (Q:VK) (E:XK),RoomH k (A.deeper (envOfC qual (Da st) s.heap.objs.size f cdv))->sp vs H Q E->
   ∃ t,PSs (E3 Co P w K mg base N qual (Da st) f cdv A outer s H E).nox (Xa st) t/\t {nx:=λ_ H'=>Q .non H',rt:=Q} (start N vs) H):FnOkH P w K mg base Co (k+1) f fd ps sp:=by
 obtain⟨oc,od,kV,doc,pm,an,cdv,ct,osl,rfl,lk,hcd⟩:=F.ex
 refine LY lk hcd S len λA outer s H vs Q E hr hsp=>?_
 obtain⟨t,h,q⟩:=hbody cdv A outer s H vs Q E hr hsp
 exact⟨t,h.nox,q⟩
section
variable {S:Addr}
theorem EO{pins:List (Addr×Obj)}{σ:St}{Q:VK}(Z:XInit X.K C S f)(F:FnOkH X.prog X.w X.K X.mg X.base Co k f fd ps sp)(hr:RoomH (k+1) X.A)(hb:Binds X.K fd ps [])(I:Inv X pins σ H s)(r:Vals vs us)(hz:us.length<=sizeLine)(h:∀ a,H a=none->s.heap.get? a=none->sp (.ref a::vs) (Ib H a (.ext (Jp a C))) (λv H2=>v=.non/\Q (.ref a) H2) E0):
  wpAny (model X.prog X.w) X.A (call (.ref C) us) (EP X pins σ Q) X.xe s:=by
 have hq:=h (s.heap.objs.size+1) (I.hok.fresh (le_succ _)) (Heap.get?_none_of_le (le_succ _))
 obtain⟨nm,qn,N,bs,bm,hdct,sn,sub,ab,col,dd,k0,k1,k2,k3,k5,lk,ok,ni,tl⟩:=Z.obj
 have ns:=Heap.Ns.of_isNs (PySem.W.isNs_of_in I.kIn ok)
 have hi:s.heap.nsMap N "__init__"=some (.ref f):=SZ I.kIn ns ni
 have I2:Inv X pins σ (Ib H (s.heap.objs.size+1) (.ext (Jp (s.heap.objs.size+1) C))) {s with heap:=Jj s.heap C us}:=
  I.laid (h':=Jj s.heap C us) (t':=s.toks) (λb o z=>Kj z) (le_succ _) (NE ⟨_,_,Hv us⟩)
 have r2:Vals (V.ref (s.heap.objs.size+1)::vs) (Value.ref (s.heap.objs.size+1)::us):=.cons rfl r
 have hl:(Value.ref (s.heap.objs.size+1)::us).length=ps.length:=by
  have e:=r2.length
  rw[F.len _ _ _ _ hq]at e
  exact e.symm
 have run:=F.run _ X.stack _ _ ⟨Value.ref (s.heap.objs.size+1)::us,[]⟩ (Value.ref (s.heap.objs.size+1)::us) _ _ E0 (hr.make C us []) (I2.env0.make C us []) (by
  have:=hb _ (Value.ref (s.heap.objs.size+1)::us) I2.kIn (by simpa using hl)
  simpa using this) r2 hq
 obtain⟨hp,g,d,tk,os⟩:=s
 refine EK PySem.F.excBase_ValueError (tail_of_in I.kIn tl) (I.kIn _ _ lk) ns hi hz (λself=>PySem.W.bind_fn I.kIn self Z.ini) (codeAny_mono run λrr s' z=>?_)
 cases rr with
 |error e=>exact False.elim z
 |ok fl=>
  cases fl with
  |ret u=>
   obtain⟨v,H',I3,rv,ev,q3⟩:=I2.after z
   subst ev
   exact⟨rv,⟨V.ref (hp.objs.size+1),H',I3,rfl,q3⟩⟩
  |next=>exact False.elim z
  |brk=>exact False.elim z
  |cont=>exact False.elim z
end
end L2
namespace L3
open PySem PySem.Spec PyProof.Rows L2 SeqAt
def Hw:Bool->V->Prop
 |true,v=>∃ n,v=.int n/\Iw (.int n)
 |false,v=>Iw v
def SmallL:List (Str×Bool)->List V->Prop
 | [],[]=>True
 |k::ks,v::vs=>Hw k.2 v/\SmallL ks vs
 |_,_=>False
def spG(C:Addr)(ks:List (Str×Bool)):Sp:=λvs H Q _=>∃ a xs,vs=.ref a::xs/\SmallL ks xs/\H a=some (.ext (Jp a C))/\∀ d,H d=none->Q .non (Ib (Ib H a (.ext (Yi a C (some d)))) d (.xd ((ks.map (·.1)).zip xs)))
theorem SmallL.length:∀ {ks:List (Str×Bool)} {xs:List V},SmallL ks xs->xs.length=ks.length
 | [],[],_=>rfl
 |_::_,_::_,h=>by rw[List.length_cons,List.length_cons,SmallL.length h.2]
 | [],_::_,h=>h.elim
 |_::_,[],h=>h.elim
structure XInG(X:Cx)(C:Addr)(ks:List (Str×Bool))(sts:List Stmt):Prop where
 h:PSs X sts (λD σ H=>∃ a xs,σ[0]? =some (some (.ref a))/\(∀ i v,xs[i]? =some v->σ[i+1]? =some (some v))/\SmallL ks xs/\H a=some (.ext (Jp a C))/\∀ d,H d=none->D.nx σ (Ib (Ib H a (.ext (Yi a C (some d)))) d (.xd ((ks.map (·.1)).zip xs))))
variable{X:Cx}{C f:Addr}{x:Str}
section
variable {S:Addr}{xb self y attr attr2:Str}{p1 p2 p3 p7 p8 p9 q1 q2 q3 q4 r1 r2 r3 r4:Pos}{v1 v2:Expr}{rest:List Expr}{P:L2.St->Prop}{b:Nat}{k k2:Bool}
theorem TY{pl:Sem Bool}(Z:XInit X.K C S f)(hm:X.mg xb=some (.ref S))(hna:findIn X.K (.ref C) attr=some none)(hj:PJ X (v1::v2::rest) P b)(hP:∀ σ v,σ[1]? =some (some v)->Hw k v->P σ)(hb:b<=10000:=by decide)(hex:X.ex= []:=by rfl)(hg:Gl X xb:=by rfl)(hN0:X.N[0]? =some self:=by rfl)(hN1:X.N[1]? =some x:=by rfl)(hv0:Jw X.env.scope self:=by first|exact Or.inl rfl|exact Or.inr (Or.inl rfl)|exact Or.inr (Or.inr rfl))(hv1:Jw X.env.scope x:=by first|exact Or.inl rfl|exact Or.inr (Or.inl rfl)|exact Or.inr (Or.inr rfl))(d0:(self==("__debug__":Str))=false:=by decide)(d1:(x==("__debug__":Str))=false:=by decide)(d2:(xb==("__debug__":Str))=false:=by decide)(e0:(self==("__classdict__":Str))=false:=by decide)(e1:(x==("__classdict__":Str))=false:=by decide)(s1:starEach [.Name self p3, .JoinedStr (v1::v2::rest) p7] X.env=(false,eval (.Name self p3) X.env)::starEach [.JoinedStr (v1::v2::rest) p7] X.env:=by rfl)(s2:starEach [.JoinedStr (v1::v2::rest) p7] X.env=(false,eval (.JoinedStr (v1::v2::rest) p7) X.env)::starEach [] X.env:=by rfl)(hpl:(backTo p8 (starEach [.JoinedStr (v1::v2::rest) p7] X.env)).any (·.1)=false:=by rfl)(hkw:backToKw p8 (keywordEach [] X.env)= []:=by rfl)(ht:eval (.Call (.Attribute (.Name xb p1) "__init__" p2) [.Name self p3, .JoinedStr (v1::v2::rest) p7] [] p8) X.env=(do
   let ov <-eval (.Name xb p1) X.env
   standAt p2.atName
   let (f,first) <-holding [ov] (getMethod ov "__init__" pl)
   callWith p8 f first (backTo p8 (starEach [.Name self p3, .JoinedStr (v1::v2::rest) p7] X.env)) (backToKw p8 (keywordEach [] X.env))):=by rfl)(w1:swapsWith (.Call (.Attribute (.Name xb p1) "__init__" p2) [.Name self p3, .JoinedStr (v1::v2::rest) p7] [] p8) none p9.line X.env=pure false:=by rfl)(w2:swapsWithSole [.Attribute (.Name self q1) attr q2] (.Name x q3) q4.line X.env=pure false:=by rfl)(w3:swappedStores [.Attribute (.Name self q1) attr q2] (.Name x q3) X.env=pure none:=by rfl)(w4:(assignEach [.Attribute (.Name self q1) attr q2] X.env).map (·.2)= [assign (.Attribute (.Name self q1) attr q2) X.env]:=by rfl):
  XInG X C [(attr,k)] [.Expr (.Call (.Attribute (.Name xb p1) "__init__" p2) [.Name self p3, .JoinedStr (v1::v2::rest) p7] [] p8) p9, .Assign [.Attribute (.Name self q1) attr q2] (.Name x q3) q4]:=⟨by
 refine PSs.weak (Jt (Wo (KN (pl:=pl) Z hg hm (Sd (Fh hN0 hv0 d0 e0) (Sd (EU hj hb) Eh s2) s1) d2 s1 hpl hkw ht) w1) (Zx (Y0 (Fh hN1 hv1 d1 e1) (S0 hex Z hna (Fh hN0 hv0 d0 e0)) w2 w3 w4))) λD σ H ⟨a,xs,h0,hx,hs,hH,q⟩=>?_
 match xs,hs with
 | [v],hs=>
  have h1:=hx 0 v rfl
  exact⟨.ref a,h0,hP σ v h1 hs.1,λt=>⟨a,t,rfl,hH,v,h1,.ref a,h0,a,rfl,hH,λd hd _=>q d hd⟩⟩⟩
end
structure FnG(P:Program)(w:World)(K:Frag)(mg:Str->Option Value)(base:Heap)(k:Nat)(c:Str)(ks:List (Str×Bool)):Prop where
 ex:∃ j C S f fd ps,j+1<=k/\FnOkH P w K mg base Co j f fd ps (spG C ks)/\XInit K C S f/\mg c=some (.ref C)/\nsIn K mainGlobals c=some (some (.ref C))/\Binds K fd ps []
variable{P:Program}{k:Nat}{w:World}{K:Frag}{mg:Str->Option Value}{base:Heap}{c:Str}{ks:List (Str×Bool)}
theorem FnG.mono{j:Nat}(F:FnG P w K mg base j c ks)(h:j<=k):FnG P w K mg base k c ks:=by
 obtain⟨i,C,S,f,fd,ps,a,b⟩:=F.ex
 exact⟨i,C,S,f,fd,ps,le_trans a h,b⟩
variable{fd:FuncData}{ps:List Str}
theorem ZR{qual:Str}{st:Stmt}{S fa:Addr}{N:List Str}(F:Fun K "__init__" qual st fa fd)(T:FnScope N ps (Da st))(Z:XInit K C S fa)(hm:mg c=some (.ref C))(hc:nsIn K mainGlobals c=some (some (.ref C)))(hb:Binds K fd ps [])(body:∀ (cdv:Value) (A:Around) (outer:List Env) (s:Shared) (H:Hp) (E:XK),RoomH k (A.deeper (envOfC qual (Da st) s.heap.objs.size fa cdv))->
   XInG (E3 Co P w K mg base N qual (Da st) fa cdv A outer s H E).nox C ks (Xa st))(hps:ps.length=ks.length+1:=by rfl):FnG P w K mg base (k+1+1) c ks:=by
 refine⟨k+1,C,S,fa,fd,ps,le_refl _,F.okH T (λvs H Q E h=>?_) (λcdv A outer s H vs Q E hr h=>?_),Z,hm,hc,hb⟩
 .obtain⟨a,xs,rfl,hs,_⟩:=h
  rw[hps,List.length_cons,hs.length]
 .obtain⟨a,xs,rfl,hs,h3,q⟩:=h
  refine⟨_,(body cdv A outer s _ E hr).h,a,xs,rfl,λi v e=>?_,hs,h3,q⟩
  have hi:=(List.getElem?_eq_some_iff.mp e).1
  show((V.ref a::xs).map some++replicate _ none)[i+1]? =_
  rw[List.getElem?_append_left (by rw[length_map,List.length_cons];omega),getElem?_map,List.getElem?_cons_succ,e];rfl
def G2:Bool->D->Bool
 |_,.int i=>decide (0<=i)&&decide (i<1000)
 |false,.str x=>decide (x.length<=60)&&x.cps.all (λc=>decide (c<1114112))
 |false,.non=>true
 |_,_=>false
def Ut:List (Str×Bool)->List D->Bool
 | [],[]=>true
 |k::ks,d::ds=>G2 k.2 d&&Ut ks ds
 |_,_=>false
theorem CD(h1:x.length<=60)(h2:x.cps.all (λc=>decide (c<1114112))=true):(reprText x).length<=1000:=by
 have:=StrLaws.reprText_len x λc hc=>by
  rw[<-Array.all_toList,all_eq_true]at h2
  have:=of_decide_eq_true (h2 c hc)
  exact Nat.lt_trans this (by decide)
 omega
variable{W:WS}{H:Hp}{v:V}
theorem UO{k:Bool}{d:D}(h:G2 k d=true)(r:Has K W H d v):Hw k v/\OO d=some v:=by
 cases d with
 |int i=>
  rw[Has]at r;subst r
  have h':(decide (0<=i)&&decide (i<1000))=true:=by cases k<;>exact h
  rw[and_eq_true,decide_eq_true_eq,decide_eq_true_eq]at h'
  have:=AV h'.1 h'.2
  cases k with
  |true=>exact⟨⟨i,rfl,this⟩,rfl⟩
  |false=>exact⟨this,rfl⟩
 |str x=>
  rw[Has]at r;subst r
  cases k with
  |true=>cases h
  |false=>
   have h':(decide (x.length<=60)&&x.cps.all (λc=>decide (c<1114112)))=true:=h
   rw[and_eq_true,decide_eq_true_eq]at h'
   exact⟨CD h'.1 h'.2,rfl⟩
 |non=>
  rw[Has]at r;subst r
  cases k with
  |true=>cases h
  |false=>exact⟨trivial,rfl⟩
 |_=>cases k<;>cases h
theorem Vt{K:Frag}{W:WS}{H:Hp}:∀ {ks:List (Str×Bool)} {ds:List D} {vs:List V},Ut ks ds=true->HasL K W H ds vs->SmallL ks vs/\∀ H',ExVs H' ds vs
 | [],[],vs,_,r=>by rw[HasL]at r;subst r;exact⟨trivial,λ_=>trivial⟩
 |k::ks,d::ds,vs,h,r=>by
  rw[HasL]at r
  obtain⟨v,r',rfl,hv,hr⟩:=r
  have h':(G2 k.2 d&&Ut ks ds)=true:=h
  rw[and_eq_true]at h'
  obtain⟨a,b⟩:=UO h'.1 hv
  obtain⟨c,e⟩:=Vt h'.2 hr
  exact⟨⟨a,c⟩,λH'=>⟨.inl b,e H'⟩⟩
 | [],_::_,_,h,_=>by cases h
 |_::_,[],_,h,_=>by cases h
theorem LG:∀ {ks:List (Str×Bool)} {vs:List V},SmallL ks vs->((ks.map (·.1)).zip vs).map (·.1)=ks.map (·.1)/\((ks.map (·.1)).zip vs).map (·.2)=vs
 | [],[],_=>⟨rfl,rfl⟩
 |k::ks,v::vs,h=>by
  obtain⟨a,b⟩:=LG h.2
  exact⟨by rw[map_cons,List.zip_cons_cons,map_cons,a],by rw[map_cons,List.zip_cons_cons,map_cons,b]⟩
 | [],_::_,h=>h.elim
 |_::_,[],h=>h.elim
def Mj(ks:List (Str×Bool))(ds:List D):List D:=.tup (ks.map λk=>D.str k.1)::ds
def M1(c:Str)(ks:List (Str×Bool))(ds:List D):Out:=if Ut ks ds=true then .ex c (Mj ks ds) else .stuck
def Ji(c:Str)(ks:List (Str×Bool))(fs:Ga->Res (List D)):Ga->Out:=λδ=>Wk (fs δ) (M1 c ks)
theorem GL{d:Addr}{ds:List D}{xs:List V}(h:SmallL ks xs)(e:H d=some (.xd ((ks.map (·.1)).zip xs)))(v:ExVs H ds xs):ExD H (some d) (ks.map λk=>D.str k.1) ds:=by
 obtain⟨a,b⟩:=LG h
 refine⟨d,_,rfl,e,?_,by rw[b];exact v⟩
 rw[show((ks.map (·.1)).zip xs).map (λp=>D.str p.1)=(((ks.map (·.1)).zip xs).map (·.1)).map D.str by rw[map_map];rfl,a,map_map]
 rfl
variable{σ:L2.St}
section
variable {xw:XW}{S:Addr}{p pos np cpos:Pos}{e a:Expr}{es:List Expr}{t:TA}{fs:Ga->Res (List D)}
theorem NF(Z:XInit X.K C S f)(G:FnOkH X.prog X.w X.K X.mg X.base Co k f fd ps (spG C ks))(hr:RoomH (k+1) X.A)(hg:Gl X x)(hm:X.mg x=some (.ref C))(hb:Binds X.K fd ps [])(hex:X.ex= [])(ha:PA X (e::es) t)(hdb:(x==("__debug__":Str))=false:=by decide)(he:starEach (e::es) X.env=(false,eval e X.env)::starEach es X.env:=by rfl)(hpl:(backTo pos (starEach es X.env)).any (·.1)=false:=by rfl)(hks:ks.length<=50:=by decide):
  PE X (.Call (.Name x p) (e::es) [] pos) (λσ H Q=>t σ H λvs H1=>SmallL ks vs/\∀ a d,H1 a=none->H1 d=none->d≠a->X.s₀.heap.get? a=none->Q (.ref a) (Ib (Ib H1 a (.ext (Yi a C (some d)))) d (.xd ((ks.map (·.1)).zip vs)))):=by
 intro pins s σ H Q I h
 refine wpAny_Call_Name_kw (Cj I hg hm ?_ hdb)
 refine callWith_K (h₀:=X.base) I.ok.mod.kin Z.kpC (thn (ha pos pins s σ H _ I h) λus s1 ⟨vs,H1,I1,r,hs,q⟩=>⟨I1.kIn,?_⟩) he hpl
 refine EO Z G hr hb I1 r (by show us.length<=_;rw[<-r.length,hs.length,sizeLine_eq];omega) λb hb1 hb2=>?_
 refine⟨b,vs,rfl,hs,Ra,λd hd=>⟨rfl,?_⟩⟩
 have hdb':d≠b:=λz=>by rw[z,Ra]at hd;cases hd
 rw[Ea hdb']at hd
 rw[GV]
 refine q b d hb1 hd hdb' ?_
 cases z:X.s₀.heap.get? b with
 |none=>rfl
 |some o=>
  obtain⟨o',e'⟩:=I1.base.there b o z (by rw[hex];simp)
  rw[hb2]at e';cases e'
def P4(X:Cx)(xw:XW)(C:Addr)(c:Str)(ks:List (Str×Bool))(pre:List D):VK:=λv H'=>∃ b d H2 vs ds,v=.ref b/\H'=Ib (Ib H2 b (.ext (Yi b C (some d)))) d (.xd ((ks.map (·.1)).zip vs))/\H2 b=none/\H2 d=none/\d≠b/\X.s₀.heap.get? b=none/\SmallL ks vs/\(∀ H,ExVs H ds vs)/\xw c (pre++Mj ks ds) (Ib H2 d (.xd ((ks.map (·.1)).zip vs)))
theorem D9{W₀:WS}{H₀:Hp}{δ:Ga}{Dn:Ends}{pre:List D}(st:StHas X.K W₀ H₀ W H σ δ)(q:RS X.K xw W₀ H₀ W H (Wk (fs δ) λds=>if Ut ks ds=true then .ex c (pre++Mj ks ds) else .stuck) Dn):
  Z5 X.K xw fs σ H (λvs H1=>SmallL ks vs/\∀ b d,H1 b=none->H1 d=none->d≠b->X.s₀.heap.get? b=none->P4 X xw C c ks pre (.ref b) (Ib (Ib H1 b (.ext (Yi b C (some d)))) d (.xd ((ks.map (·.1)).zip vs)))):=by
 refine⟨W₀,H₀,W,δ,st,?_⟩
 cases hf:fs δ with
 |stuck=>rw[hf]at q;exact q
 |ex c' fs'=>rw[hf]at q;exact λH2 k2=>q H2 (st.fr.ext.trans k2)
 |ok ds=>
  rw[hf]at q
  have q':RS X.K xw W₀ H₀ W H (if Ut ks ds=true then .ex c (pre++Mj ks ds) else .stuck) Dn:=q
  clear q
  split at q'
  .rename_i hi
   intro vs H2 k2 hv
   obtain⟨s1,s2⟩:=Vt hi hv
   exact⟨s1,λb d hb1 hd1 hdb hb2=>⟨b,d,H2,vs,ds,rfl,rfl,hb1,hd1,hdb,hb2,s1,s2,q' _ ((st.fr.ext.trans k2).trans λx o e=>by rw[Ea (Pa e hd1)];exact e)⟩⟩
  .exact q'.elim
theorem Zo(F:FnG X.prog X.w X.K X.mg X.base k c ks)(hr:Room k X.A)(hx:YJ X xw)(hcalm:X.calm=true)(ha:XA X xw (a::es) fs)(hex:X.ex= []:=by rfl)(hg:Gl X c:=by rfl)(hdb:(c==("__debug__":Str))=false:=by decide)(he:starEach (a::es) X.env=(false,eval a X.env)::starEach es X.env:=by rfl)(hpl:(backTo cpos (starEach es X.env)).any (·.1)=false:=by rfl)(hks:ks.length<=50:=by decide):
  XS X xw (.Raise (some (.Call (.Name c np) (a::es) [] cpos)) none pos) (Ji c ks fs):=⟨by
 obtain⟨j,C,S,f,fd,ps,hj,G,Z,hm,hn,hb⟩:=F.ex
 intro pins s σ H Dn I ⟨W₀,H₀,W,δ,st,q⟩
 have rd:=D9 (C:=C) (pre:= []) st q
 obtain⟨nm,qn,N,bs,bm,hdct,sn,sub,ab,col,dd,k0,k1,k2,k3,k5,lk,_,_,tl⟩:=Z.obj
 have T:=tail_of_in I.kIn tl
 rw[arm_exec_Raise]
 refine wpAny_bind (wpAny_standAt (BD (C:=C) (nm:=nm) (q:=qn) (N:=N) (bs:=bs) (bm:=bm) (hdct:=hdct) (sn:=sn) (sub:=sub) (ab:=ab) (col:=col) (dd:=dd) (k0:=k0) (k1:=k1) (k2:=k2) (k3:=k3) (k5:=k5) (newId:="ValueError.__new__") (T.hasType PySem.F.excBase_ValueError.hasBase) (I.ok.hd hcalm) ?_))
 refine wpAny_bind (thn (NF Z G (hr.h.mono hj) hg hm hb hex ha.h hdb he hpl hks pins s σ H (P4 X xw C c ks []) I rd) λv s1 ⟨y,H1,I1,r,b,d,H2,vs,ds,ey,eH,h1,hd1,hdb',h2,hs,hv,qx⟩=>?_)
 subst ey eH
 obtain rfl:v=.ref b:=r
 have hbb:Ib (Ib H2 b (.ext (Yi b C (some d)))) d (.xd ((ks.map (·.1)).zip vs)) b=some (.ext (Yi b C (some d))):=by rw[Ea (Ne.symm hdb')];exact Ra
 obtain⟨⟨t0,sl,hb'⟩,_,_⟩:=I1.hok b _ hbb
 refine wpAny_bind (wpAny_standAt (wpAny_pure ?_))
 refine⟨b,some d,t0,sl,rfl,I1.kIn _ _ lk,hb',?_⟩
 exact hx pins σ _ s1 b C (some d) c (Mj ks ds) I1 hbb h2 hn (by rw[Jo h1 hdb'];exact⟨rfl,GL hs Ra (hv _)⟩) (by rw[Jo h1 hdb'];exact qx)⟩
end
theorem QY{i:Nat}(h:σ[i]? =some (some v))(s:Hw true v):∃ n,σ[i]? =some (some (.int n))/\Iw (.int n):=by
 obtain⟨n,rfl,q⟩:=s
 exact⟨n,h,q⟩
end L3
namespace PySem
open Sem (wp)
variable{ar:Addr}
section
variable {prog:Program}{w:World}{A:Around}{E:Value->Shared->Prop}{s:Shared}{env:Env}
theorem Iu:entryFor table "proto.unchain"=some Builtin.«proto.unchain» :=entryFor_of_fast (by kernel_rfl)
theorem Qy{e:Value}{oa:Obj}{va:Array Value}{Q:Value->Shared->Prop}(ho:s.heap.get? ar=some oa)(hd:oa.data=.fields va)(h2:va[2]? =some .none)(hq:Q .none s):
  wpAny (model prog w) A (runValue (.builtin "proto.unchain" ⟨[e,.ref ar,.ref ar,.bool false],[]⟩)) Q E s:=by
 refine wpAny_runValue (codeAny_builtin Iu ?_)
 unfold Builtin.«proto.unchain»
 refine wpAny_bind (wpAny_field ho hd h2 ?_)
 exact wpAny_pure hq
variable {nm q:Str}{C N:Addr}{bs bm:List Value}{hdct:Bool}{sn:List Str}{sub:List Value}{ab:Bool}{col:Option Bool}{dd:Option Addr}{k0 k1 k2 k3 k5:Option Value}{newId:String}
theorem LA{x:Sem Value}{Q:Flow->Shared->Prop}(hbase:bm.contains (.type "BaseException")=true)(hh:A.handled=some (.ref ar)){j:Nat}{p pos:Pos}(h:wpAny (model prog w) A x (λv s1=>∃ e dx t0 sl oa va,v=.ref e/\s1.heap.get? C=some (excClassObj nm q C N bs bm hdct sn sub ab col dd k0 k1 k2 k3 k5 newId)/\
   s1.heap.get? e=some ⟨.ref C,dx,.fields #[.ref t0,.none,.none,.none,.bool false,.none],sl⟩/\e≠ar/\s1.heap.get? ar=some oa/\oa.data=.fields va/\va[2]? =some .none/\
   ∀ h',SameBut e s1.heap h'->h'.get? e=some ⟨.ref C,dx,.fields #[.ref t0,.none,.ref ar,.none,.bool true,.none],sl⟩->E (.ref e) {s1 with heap:=h'}) E s):
  wpAny (model prog w) A (raiseStmt env (some x) (some (do let v <-eval (.Constant .none j p) env;standAt pos;pure v))) Q E s:=by
 have own:(Value.ref C::bm).contains (.type "BaseException")=true:=by rw[List.contains_cons,hbase,Bool.or_true]
 unfold raiseStmt
 refine wpAny_bind (wpAny_mono h (λv s1 z=>?_) λ_ _ y=>y)
 obtain⟨e,dx,t0,sl,oa,va,rfl,kl,at1,ne,ha,hda,h2',last⟩:=z
 obtain⟨hp,g,d,tk,os⟩:=s1
 refine wpAny_bind (wpAny_holding ?_)
 refine wpAny_bind (wpAny_Constant_none (wpAny_bind (wpAny_standAt (wpAny_pure (wpAny_bind (wpAny_pure ?_))))))
 refine wpAny_bind ?_
 unfold excFromValue
 have nC:C≠e:=λz=>by rw[z,at1]at kl;cases kl
 generalize hSF:setField=SF
 repeat (first|with_reducible refine wpAny_loadPart_at at1 ?_|with_reducible refine wpAny_loadPart_at kl ?_|(with_reducible refine wpAny_isSubtype_exc kl ?_;rw[own])|wp_step)
 subst hSF
 have up:∀ (h0:Heap) (vs:Array Value) (i:Nat) (x:Value),h0.get? e=some ⟨.ref C,dx,.fields vs,sl⟩->(h0.update e (Obj.mapFields (·.setIfInBounds i x))).get? e=some ⟨.ref C,dx,.fields (vs.setIfInBounds i x),sl⟩:=λh0 vs i x e0=>get?_update_self _ e0 rfl
 have sb:∀ (h0:Heap) (i:Nat) (x:Value),SameBut e h0 (h0.update e (Obj.mapFields (·.setIfInBounds i x))):=λh0 i x=>SameBut.update h0 e _
 refine wpAny_setField at1 rfl (by simp) ?_
 refine wpAny_bind (wpAny_setField (up _ _ _ _ at1) rfl (by simp) ?_)
 have at2:=up _ _ 4 (.bool true) (up hp _ 3 .none at1)
 have s2:=(sb hp 3 .none).trans (sb _ 4 (.bool true))
 have kl2:=(s2.2 C nC).trans kl
 have ha2:=(s2.2 ar (Ne.symm ne)).trans ha
 revert at2 s2 kl2 ha2
 generalize ((hp.update e (Obj.mapFields (·.setIfInBounds 3 Value.none))).update e (Obj.mapFields (·.setIfInBounds 4 (Value.bool true))))=h2
 intro at2 s2 kl2 ha2
 generalize hRN:(raiseNew:Value->Sem Flow)=RN
 repeat (first|with_reducible refine wpAny_loadPart_at at2 ?_|with_reducible refine wpAny_loadPart_at kl2 ?_|(with_reducible refine wpAny_isSubtype_exc kl2 ?_;rw[own])|wp_step)
 subst hRN
 show wpAny _ _ (raiseNew (.ref e)) _ _ ⟨h2,g,d,tk,os⟩
 unfold raiseNew
 refine wpAny_bind (wpAny_handled ?_)
 rw[hh]
 have nb:(Value.ref ar != Value.ref e)=true:=by simp[Ne.symm ne]
 dsimp only
 rw[if_pos nb]
 refine wpAny_bind (wpAny_holding (Qy ha2 hda h2' ?_))
 have at3:=up h2 _ 2 (.ref ar) at2
 have s3:=s2.trans (sb h2 2 (.ref ar))
 refine wpAny_bind ?_
 show wpAny _ _ (setField (.ref e) 2 (.ref ar)) _ _ _
 exact wpAny_setField (a:=e) (i:=2) (x:=.ref ar) at2 rfl (by simp) (wpAny_throw (last _ s3 at3))
end
end PySem
namespace L3
open PySem PySem.Spec PyProof.Rows L2 SeqAt
def Wu(X:Cx)(s:Shared)(b:Addr)(cls a0:Value)(dx:Option Addr)(s1:Shared):Prop:=
 ∃ h1 t1,s1= {s with heap:=h1,toks:=t1}/\Heap.HeldW (hideAll s.heap (b::Re X.stack)) (X.env::X.outer) b cls a0 X.env.locals h1/\
  (∀ c o,c≠X.env.locals->s.heap.get? c=some o->(∀ vs,o.data≠ .fields vs)->∃ sl,h1.get? c=some {o with slots:=sl})/\(∃ o,h1.get? b=some o/\o.dict=dx)/\∃ m,h1.Ns X.env.locals m
variable{X:Cx}{pins:List (Addr×Obj)}{σ:L2.St}{H:Hp}{s:Shared}{C:Addr}{cls:Value}{A:Around}{Ex:Value->Shared->Prop}{u:HO}{E:XK}
section
variable {s1:Shared}{b:Addr}{a0:Value}{dx:Option Addr}{M:Model}{Q:Unit->Shared->Prop}
theorem PH{hb:Heap}{vs:Array Value}{sl:Array (Option Value)}(I:Inv X pins σ H s)(hst:X.stack=X.env::X.outer)(hfr:X.env.frame=some X.env.locals)(hA:A.frames=X.A.frames)(hH:H b=some u)(hbf:∃ o vs,s.heap.get? b=some o/\o.data=.fields vs)(same:SameBut b s.heap hb)(at':hb.get? b=some ⟨.ref C,dx,.fields vs,sl⟩)(h0:vs[0]? =some a0)(h1:vs[1]? =some .none)(hq:∀ s1,Wu X s b (.ref C) a0 dx s1->Q () s1):
  wpAny M A (noteFrame (.ref b) X.env) Q Ex {s with heap:=hb}:=by
 have hin:∀ env∈X.env::X.outer,∀ c,env.frame=some c->c∈b::Re X.stack:=λenv q c hc=>by
  rw[hst];exact mem_cons_of_mem _ (mem_filterMap.mpr ⟨env,q,hc⟩)
 have nst:b∉Re X.stack:=λz=>by rw[I.stkFree b z]at hH;cases hH
 have ff0:s.heap.FunFrames (hideAll s.heap (b::Re X.stack)) (X.env::X.outer):=PySem.W.funFrames_hide (by rw[<-hst];exact I.stack) hin
 have keep:∀ c o,c≠b->s.heap.get? c=some o->hb.get? c=some o:=λc o hc q=>(same.2 c hc).trans q
 obtain⟨ob,eb⟩:=To (I.hok b u hH)
 have ff:hb.FunFrames (hideAll s.heap (b::Re X.stack)) (X.env::X.outer):=by
  have:∀ l:List Env,(∀ env∈l,∀ c,env.frame=some c->c≠b)->s.heap.FunFrames (hideAll s.heap (b::Re X.stack)) l->hb.FunFrames (hideAll s.heap (b::Re X.stack)) l:=by
   intro l
   induction l with
   |nil=>intro _ _;trivial
   |cons env l ih=>
    intro hl ⟨h1,⟨L,o,f1,f2,f3,f4⟩,h3⟩
    exact⟨h1,⟨L,o,f1,f2,keep L o (hl env mem_cons_self L f1) f3,f4⟩,ih (λe he=>hl e (mem_cons_of_mem _ he)) h3⟩
  refine this _ (λenv he c hc z=>nst ?_) ff0
  rw[<-z,hst];exact mem_filterMap.mpr ⟨env,he,hc⟩
 have gone:(hideAll s.heap (b::Re X.stack)).get? b=none:=PySem.W.hideAll_none _ (mem_cons_self ..)
 have stays:(hideAll s.heap (b::Re X.stack)).StaysIn hb:=λc o q=>keep c o (λz=>by rw[z,gone]at q;cases q) (of_hideAll _ q)
 obtain⟨m,hm,_⟩:=id I.loc
 have hbl:X.env.locals≠b:=λz=>nst (by rw[Oj hst hfr,z];exact mem_cons_self)
 have hmb:hb.Ns X.env.locals m:=hm.sameBut same hbl
 refine(Ix (.ref b) X.env).thn (Q:=λ_ s'=>∃ h',s'= {s with heap:=h'}/\Heap.NotedW (hideAll s.heap (b::Re X.stack)) (X.env::X.outer) b (.ref C) a0 (rawInt X.env.locals) hb h') ?_ λ_ s' ⟨h',e',nt⟩ dk=>?_
 .unfold noteFrame
  simp only[hfr]
  refine wpAny_bind (wpAny_field at' rfl h1 ?_)
  rw[if_neg (by decide)]
  exact wpAny_entryW (by rw[hA,<-hst];exact I.ok.frames) ff hfr at' stays gone rfl (Array.getElem?_eq_some_iff.mp h1).1 h0 λh' nt=>⟨h',rfl,nt⟩
 .subst e'
  obtain⟨k1,k2,k3,k4⟩:=nt
  obtain⟨o',eo,d2⟩:=dk b _ at'
  refine hq _ ⟨h',s.toks,rfl,⟨k1,gone,k2,k3⟩,λc o hc q nf=>?_,⟨o',eo,d2.1⟩,m,?_⟩
  .have hcb:c≠b:=λz=>by
    obtain⟨o2,vs2,e2,d2⟩:=hbf
    rw[z,e2]at q
    cases q
    exact nf vs2 d2
   exact k4 c o (keep c o hcb q) nf
  .exact Heap.UpToSlots.ns (h:=hb) k4 hmb
theorem Pz(hfr:X.env.frame=some X.env.locals)(hX:Wu X s b cls a0 dx s1)(hq:∀ s2,Wu X s b cls a0 dx s2->Q () s2):
  wpAny M A (setFlight (.ref b) X.env.frame) Q Ex s1:=by
 obtain⟨h1,t1,rfl,⟨w1,w2,w3,oe,vs,T,oT,ts,he,hcls,hd,h1',hnT,hTe,hT,hdT,h3⟩,hs,⟨o,eo,ed⟩,m,hm⟩:=hX
 have hsz:3<ts.size:=(Array.getElem?_eq_some_iff.mp h3).1
 rw[hfr]
 unfold setFlight
 refine wpAny_bind (wpAny_field he hd h1' ?_)
 rw[if_pos (show(Value.ref T != Value.none)=true from by simp)]
 have other:∀ c,c≠T->(h1.update T (Obj.mapFields (·.setIfInBounds 3 ((some X.env.locals:Option Addr).elim Value.none λf=>rawInt f)))).get? c=h1.get? c:=λc hc=>Heap.get?_update_other _ _ (Ne.symm hc)
 have noRec:∀ c o',h1.get? c=some o'->(∀ vs,o'.data≠ .fields vs)->c≠T:=λc o' q nf z=>by
  rw[z,hT]at q;cases q;exact nf ts hdT
 obtain⟨oL,esL,epL,eL,dL,rL⟩:=id hm
 have hLT:X.env.locals≠T:=noRec _ oL eL λvs z=>by rw[dL]at z;cases z
 refine wpAny_setField hT hdT hsz (hq _ ⟨_,t1,rfl,⟨λc o' q=>(other c λz=>by rw[z,hnT]at q;cases q).trans (w1 c o' q),w2,w3.of_keeps λc o' q nf=>⟨o',(other c (noRec c o' q nf)).trans q,rfl⟩,oe,vs,T,_,_,(other b (Ne.symm hTe)).trans he,hcls,hd,h1',hnT,hTe,get?_update_self _ hT (Obj.isFreed_of_fields (Obj.data_mapFields hdT _)),Obj.data_mapFields hdT _,by simp[hsz]⟩,
  λc o' hc q nf=>?_,⟨o,(other b (Ne.symm hTe)).trans eo,ed⟩,m,⟨oL,esL,epL,(other _ hLT).trans eL,dL,rL⟩⟩)
 obtain⟨sl,e⟩:=hs c o' hc q nf
 exact⟨sl,(other c (noRec c _ e nf)).trans e⟩
theorem FS{α:Type}{what:String}{k:Sem α}{Q:α->Shared->Prop}(hX:Wu X s b cls a0 dx s1)(hq:wpAny M A k Q Ex s1):wpAny M A (do
  if(<-field (.ref b) 1)== .none then unsupported what
  k) Q Ex s1:=by
 obtain⟨h1,t1,rfl,⟨w1,w2,w3,oe,vs,T,oT,ts,he,hcls,hd,h1',_⟩,_⟩:=hX
 refine wpAny_bind (wpAny_field he hd h1' ?_)
 rw[if_neg (show ¬ ((Value.ref T==Value.none)=true) from by simp)]
 exact hq
theorem GC(I:Inv X pins σ H s)(hex:X.ex= [])(hst:X.stack=X.env::X.outer)(hfr:X.env.frame=some X.env.locals)(hH:H b=some u)(hn1:∀ xs,u≠ .tup xs)(hn2:∀ o v,u≠ .frz o v)(hn3:∀ ps,u≠ .tbl ps)(hn4:∀ c,u≠ .own c)(hnew:X.s₀.heap.get? b=none)(hX:Wu X s b cls a0 dx s1)(hE:E cls (dx,false) (Ev H b))(hQ:∀ s'',Ty X.prog X.w X.outer X.H₀ X.s₀ E (.ref b) s''->Q () s''):wpAny M A (leaving X.env (.ref b)) Q Ex s1:=by
 have es:=Oj hst hfr
 have noex:∀ c,c∉X.ex:=λc=>by rw[hex];simp
 obtain⟨h1,t1,rfl,hw,hs,⟨o1,eo1,ed1⟩,m,hm⟩:=hX
 have nst:∀ c v,H c=some v->c∉Re X.stack:=λc v q z=>by rw[I.stkFree c z]at q;cases q
 have old:∀ c o,X.s₀.heap.get? c=some o->c≠b:=λc o q z=>by rw[z,hnew]at q;cases q
 have ne:∀ {c:Addr} {v:HO},H c=some v->v≠u->c≠b:=λ{c v} q hv z=>by rw[z,hH]at q;cases q;exact hv rfl
 have nl:∀ c,c∉Re X.outer->((Ev H b c).isSome=true\/(X.s₀.heap.get? c).isSome=true)->c∉b::Re X.stack:=λc hc h z=>by
  rcases mem_cons.mp z with z|z
  .rw[z,Hj,hnew]at h
   rcases h with h|h<;>cases h
  .rw[es]at z
   rcases mem_cons.mp z with z|z
   .rw[z]at h
    rcases h with h|h
    .obtain⟨o,q⟩:=isSome_iff_exists.mp h
     have:=(Ij q).2
     rw[I.free]at this;cases this
    .obtain⟨o,q⟩:=isSome_iff_exists.mp h
     exact absurd (lt_of_lt_of_le (lt_size q) I.ok.above) (lt_irrefl _)
   .exact hc z
 have inB:∀ c o,s.heap.get? c=some o->c∉b::Re X.stack->(hideAll s.heap (b::Re X.stack)).get? c=some o:=λc o q hc=>hideAll_get _ q hc
 unfold leaving
 refine wpAny_bind (wpAny_noteFrame_againW hfr hw.2.2.2 ?_)
 refine(Rj (.ref b) none).thn (Q:=λ_ s''=>∃ h',s''= {s with heap:=h',toks:=t1}/\FlyingW (hideAll s.heap (b::Re X.stack)) (X.env::X.outer) b cls a0 h'/\h1.UpToSlots h') (wpAny_landsW hw λh' hfl up=>⟨h',rfl,hfl,up⟩) λ_ s'' ⟨h',e'',hfl,up⟩ dk=>?_
 subst e''
 obtain⟨o2,eo2,d2⟩:=dk b _ eo1
 obtain⟨k1,k2,⟨_,_,k3⟩,k4⟩:=hfl
 have slots:∀ {c:Addr} {o:Obj},c∈Re X.outer->s.heap.get? c=some o->∃ sl,h'.get? c=some {o with slots:=sl}:=λ{c o} hc q=>by
  obtain⟨_,o',e',nf⟩:=I.funs.mem hc
  rw[q]at e';cases e'
  have hcL:c≠X.env.locals:=λz=>by
   obtain⟨_,o0,e0,_⟩:=I.ok.funs.mem hc
   rw[z]at e0
   exact absurd (lt_of_lt_of_le (lt_size e0) I.ok.above) (lt_irrefl _)
  obtain⟨sl,e1⟩:=hs c o hcL q nf
  obtain⟨sl2,e2⟩:=up c _ e1 nf
  exact⟨sl2,e2⟩
 refine hQ _ ⟨b,cls,(dx,false),Ev H b,rfl,I.os,I.bare,⟨⟨λc o e n hc hx=>?_,λc o e n hc hx=>?_,λc o e n hx=>?_,λc o e hx=>?_,λc xs e=>?_,λc o v e=>?_,λc ps e=>?_⟩,λc v e=>?_,λc hc=>?_,hnew,Hj,⟨o2,eo2,d2.1.trans ed1,λz=>by cases z⟩,_,_,⟨k1,k2,k3,k4⟩,λc hc h=>?_⟩,hE⟩
 .exact k1 c o (inB c o (I.base.keep c o e n hc (noex c)) (nl c hc (.inr (by rw[e];rfl))))
 .obtain⟨z1,e1⟩:=I.base.slot c o e n hc (noex c)
  obtain⟨z2,e2⟩:=slots hc e1
  exact⟨z2,e2⟩
 .rw[Lg (old c o e)];exact I.base.free c o e n (noex c)
 .obtain⟨o',e1⟩:=I.base.there c o e (noex c)
  by_cases hc:c∈Re X.outer
  .obtain⟨z,e2⟩:=slots hc e1
   exact⟨_,e2⟩
  .exact⟨o',k1 c o' (inB c o' e1 (nl c hc (.inr (by rw[e];rfl))))⟩
 .have q:=I.base.tups c xs e
  rw[Lg (ne q (Ne.symm (hn1 xs)))];exact q
 .have q:=I.base.frzs c o v e
  rw[Lg (ne q (Ne.symm (hn2 o v)))];exact q
 .obtain⟨more,q⟩:=I.base.tbls c ps e
  exact⟨more,by rw[Lg (ne q (Ne.symm (hn3 _)))];exact q⟩
 .obtain⟨nb,q⟩:=Ij e
  have nin:∀ c v,c≠b->H c=some v->c∉b::Re X.stack:=λc v hc hq z=>by
   rcases mem_cons.mp z with z|z
   .exact hc z
   .exact nst c v hq z
  refine(I.hok c v q).stay (λc' v' hc q2=>?_) (λc' z=>?_) λc' xs z=>?_
  .rcases hc with rfl|hc
   .exact k1 c' v' (inB c' v' q2 (nin c' v nb q))
   .exact k1 c' v' (inB c' v' q2 (nin c' _ (ne hc (Ne.symm (hn4 _))) hc))
  .rw[Lg (ne z (Ne.symm (hn4 _)))];exact z
  .rw[Lg (ne z (Ne.symm (hn1 _)))];exact z
 .by_cases hcb:c=b
  .rw[hcb];exact Hj
  .rw[Lg hcb];exact I.stkFree c (by rw[es];exact mem_cons_of_mem _ hc)
 .have hb':=nl c hc h
  have:∃ o,s.heap.get? c=some o:=by
   rcases h with h|h
   .obtain⟨v,q⟩:=isSome_iff_exists.mp h
    exact To (I.hok c v (Ij q).2)
   .obtain⟨o,q⟩:=isSome_iff_exists.mp h
    exact I.base.there c o q (noex c)
  obtain⟨o,q⟩:=this
  rw[inB c o q hb'];rfl
end
abbrev Oz(X:Cx)(ar:Addr)(Ex:Value->Shared->Prop):Cx:= {X with A:=X.A.mark (some (.ref ar)),calm:=false,xe:=Ex}
def NB(X:Cx)(xw:XW):Prop:=∀ (pins:List (Addr×Obj)) (σ:L2.St) (H:Hp) (s s1:Shared) (b C:Addr) (dx:Option Addr) (a0:Value) (c:Str) (fs:List D),Inv X pins σ H s->H b=some (.ext (Yi b C dx))->X.s₀.heap.get? b=none->
 Wu X s b (.ref C) a0 dx s1->nsIn X.K mainGlobals c=some (some (.ref C))->ExF (Ev H b) (dx,false) fs->xw c fs (Ev H b)->X.xe (.ref b) s1
variable{w:World}{K:Frag}{scope:Scope}{H₀:Hp}
theorem NI{P:Program}{mg:Str->Option Value}{base:Heap}{N:List Str}{qual:Str}{f:Addr}{cd:Value}{outer:List Env}{s₀:Shared}:
  NB (Vk (Ty P w) P w K mg base N qual scope f cd A outer s₀ H₀ E) (M3 K E):=by
 intro pins σ H s s1 b C dx a0 c fs I hH hnew hX hn xf q
 exact GC I rfl rfl rfl hH (λ_ z=>by cases z) (λ_ _ z=>by cases z) (λ_ z=>by cases z) (λ_ z=>by cases z) hnew hX (q (.ref C) (dx,false) hn xf) λs'' z=>z
variable{xw:XW}{k:Nat}{c:Str}{ks:List (Str×Bool)}{np cpos pos:Pos}{a:Expr}{es:List Expr}{W₀ W:WS}{δ:Ga}{Dn:Ends}
section
variable {ar:Addr}{p:Pos}{j:Nat}{fs:Ga->Res (List D)}
theorem IT(ok:X.Ok):(Oz X ar Ex).Ok:=
 ⟨ok.mod,ok.kind,ok.glob,ok.blt,ok.above,ok.inj,ok.has,ok.cab,λz=>absurd (show false=true from z) (by decide),ok.frames,ok.stk,ok.exf,ok.bs,ok.bsz,ok.noex,ok.exfs,ok.funs,ok.frf⟩
theorem ZL(I:Inv X pins σ H s):Inv (Oz X ar Ex) pins σ H s:=⟨IT I.ok,I.os,I.bare,I.base,I.loc,I.cell,I.free,I.freeC,I.pin,I.hok,I.len⟩
theorem MC(ok:X.Ok)(I:Inv (Oz X ar Ex) pins σ H s):Inv X pins σ H s:=⟨ok,I.os,I.bare,I.base,I.loc,I.cell,I.free,I.freeC,I.pin,I.hok,I.len⟩
theorem BU{t:TA}(h:PA (Ml X ar) es t):PA (Oz X ar Ex) es t:=λps pins s σ H Q I hw=>by
 have I':Inv (Ml X ar) pins σ H s:=⟨⟨I.ok.mod,I.ok.kind,I.ok.glob,I.ok.blt,I.ok.above,I.ok.inj,I.ok.has,I.ok.cab,I.ok.hd,I.ok.frames,I.ok.stk,I.ok.exf,I.ok.bs,I.ok.bsz,I.ok.noex,I.ok.exfs,I.ok.funs,I.ok.frf⟩,I.os,I.bare,I.base,I.loc,I.cell,I.free,I.freeC,I.pin,I.hok,I.len⟩
 refine wpAny_mono (h ps pins s σ H Q I' hw) (λus s1 ⟨v,H',J,r,z⟩=>⟨v,H',?_,r,z⟩) λ_ _ z=>False.elim z
 exact⟨I.ok,J.os,J.bare,J.base,J.loc,J.cell,J.free,J.freeC,J.pin,J.hok,J.len⟩
theorem MA{H':Hp}{dz:Dx}{Q:Flow->Shared->Prop}(F:FnG X.prog X.w X.K X.mg X.base k c ks)(hr:RoomH k X.A)(ha:XA (Ml X ar) Jq (a::es) fs)(hex:X.ex= [])(hg:Gl X c)(hdb:(c==("__debug__":Str))=false)(he:starEach (a::es) X.env=(false,eval a X.env)::starEach es X.env)(hpl:(backTo cpos (starEach es X.env)).any (·.1)=false)(hks:ks.length<=50)(I:Inv X pins σ H s)(hA:H ar=some (.ext (Fi ar cls dz)))(hz:dz.2=true)(st:StHas X.K W₀ H₀ W H σ δ)(q:RS X.K xw W₀ H₀ W H (Wk (Ci fs δ) λds=>if Ut ks ds=true then .ex c (.non::Mj ks ds) else .stuck) Dn)(hEx:∀ (b C:Addr) (dx:Option Addr) (H1:Hp) (s1:Shared) (h':Heap) (t0:Addr) (sl:Array (Option Value)) (fs':List D),Inv X pins σ H1 s1->H1 b=some (.ext (Yi b C dx))->X.s₀.heap.get? b=none->SameBut b s1.heap h'->
   h'.get? b=some ⟨.ref C,dx,.fields #[.ref t0,.none,.ref ar,.none,.bool true,.none],sl⟩->nsIn X.K mainGlobals c=some (some (.ref C))->ExF (Ev H1 b) (dx,false) fs'->xw c fs' (Ev H1 b)->Ex (.ref b) {s1 with heap:=h'}):
  wpAny (model X.prog X.w) (X.A.mark (some (.ref ar))) (execs [.Raise (some (.Call (.Name c np) (a::es) [] cpos)) (some (.Constant .none j p)) pos] X.env) Q Ex s:=by
 obtain⟨i,C,S,f,fd,ps,hj,G,Z,hm,hn,hb⟩:=F.ex
 obtain⟨nm,qn,N,bs,bm,hdct,sn,sub,ab,col,dd,k0,k1,k2,k3,k5,lk,_,_,tl⟩:=Z.obj
 have T:=tail_of_in I.kIn tl
 have rd:Z5 X.K Jq fs σ H (λvs H1=>(SmallL ks vs/\∀ b d,H1 b=none->H1 d=none->d≠b->X.s₀.heap.get? b=none->(∃ H2 ds vs',H1=H2/\vs'=vs/\(∀ H,ExVs H ds vs)/\H2 b=none/\H2 d=none/\H2 ar=some (.ext (Fi ar cls dz))/\xw c (.non::Mj ks ds) (Ib H2 d (.xd ((ks.map (·.1)).zip vs)))))):=by
  refine⟨W₀,H₀,W,δ,st,?_⟩
  have q0:RS X.K xw W₀ H₀ W H (Wk (noex (fs δ)) λds=>if Ut ks ds=true then .ex c (.non::Mj ks ds) else .stuck) Dn:=q
  cases hf:fs δ with
  |stuck=>rw[hf]at q0;exact q0
  |ex c' fs'=>rw[hf]at q0;exact q0.elim
  |ok ds=>
   rw[hf]at q0
   have q':RS X.K xw W₀ H₀ W H (if Ut ks ds=true then .ex c (.non::Mj ks ds) else .stuck) Dn:=q0
   split at q'
   .rename_i hi
    intro vs H2 k2 hv
    obtain⟨s1,s2⟩:=Vt hi hv
    exact⟨s1,λb d hb1 hd1 hdb hb2=>⟨H2,ds,vs,rfl,rfl,s2,hb1,hd1,k2 _ _ hA,q' _ ((st.fr.ext.trans k2).trans λx o e=>by rw[Ea (Pa e hd1)];exact e)⟩⟩
   .exact q'.elim
 refine wpAny_execs_cons ?_
 rw[arm_exec_Raise]
 refine wpAny_bind (wpAny_standAt (LA (C:=C) (ar:=ar) (nm:=nm) (q:=qn) (N:=N) (bs:=bs) (bm:=bm) (hdct:=hdct) (sn:=sn) (sub:=sub) (ab:=ab) (col:=col) (dd:=dd) (k0:=k0) (k1:=k1) (k2:=k2) (k3:=k3) (k5:=k5) (newId:="ValueError.__new__") (T.hasType PySem.F.excBase_ValueError.hasBase) rfl ?_))
 have pe:=NF (X:=Oz X ar Ex) (p:=np) (pos:=cpos) Z G ((hr.mark _).mono hj) hg hm hb hex (BU (Ex:=Ex) ha.h) hdb he hpl hks pins s σ H (λv H'=>∃ b d H2 vs ds,v=.ref b/\H'=Ib (Ib H2 b (.ext (Yi b C (some d)))) d (.xd ((ks.map (·.1)).zip vs))/\H2 b=none/\H2 d=none/\d≠b/\X.s₀.heap.get? b=none/\SmallL ks vs/\(∀ H,ExVs H ds vs)/\H2 ar=some (.ext (Fi ar cls dz))/\xw c (.non::Mj ks ds) (Ib H2 d (.xd ((ks.map (·.1)).zip vs)))) (ZL I) (by
  obtain⟨W₀',H₀',W',δ',st',q'⟩:=rd
  refine⟨W₀',H₀',W',δ',st',?_⟩
  revert q'
  cases hf:fs δ' with
  |stuck=>exact id
  |ex c' fs'=>exact id
  |ok ds0=>
   intro q' vs H1 k1 hv
   obtain⟨s1,q1⟩:=q' vs H1 k1 hv
   refine⟨s1,λb d hb1 hd1 hdb' hb2=>?_⟩
   obtain⟨H2,ds,vs',rfl,rfl,s2,e1,e2,e3,e4⟩:=q1 b d hb1 hd1 hdb' hb2
   exact⟨b,d,_,_,ds,rfl,rfl,hb1,hd1,hdb',hb2,s1,s2,e3,e4⟩)
 refine wpAny_bind (thn pe λv s1 ⟨y,H1,I1,r,b,d,H2,vs,ds,ey,eH,h1,hd1,hdb',h2,hs,hv,hA2,qx⟩=>?_)
 subst ey eH
 obtain rfl:v=.ref b:=r
 have hbb:Ib (Ib H2 b (.ext (Yi b C (some d)))) d (.xd ((ks.map (·.1)).zip vs)) b=some (.ext (Yi b C (some d))):=by rw[Ea (Ne.symm hdb')];exact Ra
 obtain⟨⟨t0,sl,hb'⟩,_,_⟩:=I1.hok b _ hbb
 have hab:ar≠b:=λz=>by rw[z,h1]at hA2;cases hA2
 have had:ar≠d:=λz=>by rw[z,hd1]at hA2;cases hA2
 obtain⟨⟨oa,va,ea,_,_,da,za⟩,_,_⟩:=I1.hok ar (.ext (Fi ar cls dz)) (by rw[Ea had,Ea hab];exact hA2)
 refine wpAny_bind (wpAny_standAt (wpAny_pure ?_))
 refine⟨b,some d,t0,sl,oa,va,rfl,I1.kIn _ _ lk,hb',Ne.symm hab,ea,da,za hz,λh' same at'=>?_⟩
 refine hEx b C (some d) _ s1 h' t0 sl (.non::Mj ks ds) (MC I.ok I1) hbb h2 same at' hn ?_ ?_
 .rw[Jo h1 hdb'];exact GL hs Ra (hv _)
 .rw[Jo h1 hdb'];exact qx
end
def OH(c2:Str)(ks:List (Str×Bool))(fa:Ga->Res (List D)):Str->List D->Ga->Out:=λ_ xs δ=>match xs with
 | .non::_=>.stuck
 |_=>Wk (Ci fa δ) λds=>if Ut ks ds=true then .ex c2 (.non::Mj ks ds) else .stuck
theorem IL{dx:Dx}{xs:List D}(h:ExF H dx xs)(hn:∀ r,xs≠ .non::r):dx.2=true:=by
 cases xs with
 |nil=>exact h.1
 |cons y r=>
  cases y with
  |non=>exact absurd rfl (hn r)
  |_=>exact h.1
variable{pos2 p2:Pos}{st:Stmt}{x:Str}
section
variable {ea:Expr}{eas:List Expr}{fs fa:Ga->Res (List D)}{p hpos tpos np2 cpos2:Pos}{orelse:List Stmt}{k2 nn jj:Nat}{C n c2:Str}{m:List D->Res D}{gK:D->Ga->Out}{go:Ga->Out}
theorem QW(cs:List Str)(hcs:∀ c∈cs,MatchX X.K C c)(hex:X.ex= [])(hst:X.stack=X.env::X.outer)(hfr:X.env.frame=some X.env.locals)(hgC:Gl X C)(hdC:(C==("__debug__":Str))=false)(F:FnG X.prog X.w X.K X.mg X.base k2 c2 ks)(hr:RoomH k2 X.A)(hx:NB X xw)(ha:∀ ar,XA (Ml X ar) Jq (ea::eas) fa)(hg:Gl X c2)(hdb:(c2==("__debug__":Str))=false)(he:starEach (ea::eas) X.env=(false,eval ea X.env)::starEach eas X.env)(hpl:(backTo cpos2 (starEach eas X.env)).any (·.1)=false)(hks:ks.length<=50)(pins:List (Addr×Obj))(σ:L2.St)(H H0 H':Hp)(s s':Shared)(ar:Addr)(cls:Value)(dx:Dx)(c:Str)(xs:List D)(W₀:WS)(H₀:Hp)(W:WS)(δ:Ga)(Dn:Ends)(I:Inv X pins σ H s)(os:s'.os=s.os)(bare:AllBare s'.gens)(fl:Fly X.prog X.w X.stack H s H' ar cls dx s'.heap)(xf:ExF H' dx xs)(hn:nsIn X.K mainGlobals c=some (some cls))(hc:c∈cs)(sth:StHas X.K W₀ H₀ W H0 σ δ)(sm:Same H0 H')(q:RS X.K xw W₀ H₀ W H0 (OH c2 ks fa c xs δ) Dn):
  wpAny (model X.prog X.w) X.A (noteFrame (.ref ar) X.env) (λ_ s₂=>wpAny (model X.prog X.w) X.A (setFlight (.ref ar) none) (λ_ s₃=>
   wpAny (model X.prog X.w) X.A (handleBy (.ref ar) X.env [.ExceptHandler (some (.Name C np)) none [.Raise (some (.Call (.Name c2 np2) (ea::eas) [] cpos2)) (some (.Constant .none jj p2)) pos2] hpos]) (SP X pins Dn) X.xe s₃) X.xe s₂) X.xe s':=by
 obtain⟨vc,vC,e1,e2,e3⟩:=(hcs c hc).ex
 rw[hn]at e1
 cases e1
 have k2:Same H0 (Ib H' ar (.ext (Fi ar cls dx))):=λb o e=>by rw[Ea (Pa (sm b o e) fl.nh)];exact sm b o e
 have hnn:∀ r,xs≠ .non::r:=λr z=>by rw[z]at q;exact q
 have q1:RS X.K xw W₀ H₀ W H0 (Wk (Ci fa δ) λds=>if Ut ks ds=true then .ex c2 (.non::Mj ks ds) else .stuck) Dn:=by
  unfold OH at q
  split at q
  .exact q.elim
  .exact q
 have q2:=RS.step q1 (Step.same (W:=W) k2)
 refine Oq I hst hfr fl λh5 x5=>?_
 refine wpAny_handleBy_cons (Pq (s':= {s' with heap:=h5}) I hst hfr os bare x5 hgC e2 e3 hdC λh6 x6=>codeAny_handlers_suite ?_) (by intro q;cases q)
 obtain⟨B,a0,f,cov⟩:=x6.fl
 refine(Rj (.ref ar) none).thn (Q:=λ_ s7=>∃ h7,s7= {s' with heap:=h7}/\FlyingW B X.stack ar cls a0 h7/\h6.UpToSlots h7) (lands_againW f λh7 f7 up7=>⟨h7,rfl,f7,up7⟩) λ_ s7 ⟨h7,e7,f7,up7⟩ dk7=>?_
 subst e7
 have x7:=Hs (s':= {s' with heap:=h6}) x6 f cov f7 up7 dk7
 have I7:Inv X pins σ H' {s' with heap:=h7}:=Cm (s':= {s' with heap:=h7}) I os bare x7
 have I8:=Ov I I7 hex x7.new x7.nh (FL (UE x7))
 refine MA (H':=H') F hr (ha ar) hex hg hdb he hpl hks I8 Ra (IL xf hnn) (sth.same k2) q2 λb C1 dx1 H1 s1 h' t0 sl fs' I1 hb1 hb2 same at' hn1 xf1 qx=>?_
 obtain⟨⟨t9,sl9,e9⟩,_,_⟩:=I1.hok b _ hb1
 refine PH I1 hst hfr rfl hb1 ⟨_,_,e9,rfl⟩ same at' rfl rfl λs2 h2=>?_
 unfold cameBackBy
 exact FS h2 (Pz hfr h2 λs5 h5=>hx pins _ H1 s1 s5 b C1 dx1 _ c2 fs' I1 hb1 hb2 h5 hn1 xf1 qx)
theorem UU(cs:List Str)(F:FnX X.prog X.w X.K X.mg X.base k x nn m)(hcs:∀ c∈cs,MatchX X.K C c)(hr:Room k X.A)(ha:XA X.nox Jq (a::es) fs)(kd:KindX X (.Call (.Name x p) (a::es) [] cpos) st gK)(hor:XSs X xw orelse go)(F2:FnG X.prog X.w X.K X.mg X.base k2 c2 ks)(hr2:Room k2 X.A)(hx:NB X xw)(ha2:∀ ar,XA (Ml X ar) Jq (ea::eas) fa)(hex:X.ex= []:=by rfl)(hst:X.stack=X.env::X.outer:=by rfl)(hfr:X.env.frame=some X.env.locals:=by rfl)(hgC:Gl X C:=by rfl)(hdC:(C==("__debug__":Str))=false:=by decide)(hg:Gl X x:=by rfl)(hdb:(x==("__debug__":Str))=false:=by decide)(he:starEach (a::es) X.env=(false,eval a X.env)::starEach es X.env:=by rfl)(hpl:(backTo cpos (starEach es X.env)).any (·.1)=false:=by rfl)(hg2:Gl X c2:=by rfl)(hdb2:(c2==("__debug__":Str))=false:=by decide)(he2:starEach (ea::eas) X.env=(false,eval ea X.env)::starEach eas X.env:=by rfl)(hpl2:(backTo cpos2 (starEach eas X.env)).any (·.1)=false:=by rfl)(hks:ks.length<=50:=by decide):
  XS X xw (.Try [st] [.ExceptHandler (some (.Name C np)) none [.Raise (some (.Call (.Name c2 np2) (ea::eas) [] cpos2)) (some (.Constant .none jj p2)) pos2] hpos] orelse [] tpos) (Yp cs (Dq fs nn m []) gK go (OH c2 ks fa)):=by
 obtain⟨fa',fd,ps,G,hm,hkp,hb⟩:=F.ex
 exact KB cs G hm hkp hb .nil (λW H=>HasL.nil) hr ha kd hor (QW cs hcs hex hst hfr hgC hdC F2 hr2.h hx ha2 hg2 hdb2 he2 hpl2 hks) hg hdb he hpl
end
section
variable {p:Pos}{fa:Ga->Res D}
end
section
variable {W1:WS}{H1:Hp}
def S3(K:Frag)(W₀:WS)(H₀:Hp)(ks:List Jd)(ds:List D)(Q:V->Hp->Prop):Prop:=∀ a kvs H',Same H₀ H'->H₀ a=none->H' a=some (.dK kvs)->kvs.map (·.1)=ks->HasL K (λb=>W₀ b\/b=a) H' ds (kvs.map (·.2))->Q (.ref a) H'
def RSQ(K:Frag)(xw:XW)(W₀:WS)(H₀:Hp)(W:WS)(H:Hp)(o:Out)(Dn:Ends):Prop:=match o with
 | .rt (.dct ks ds)=>S3 K W₀ H₀ ks ds Dn.rt
 |o=>RS K xw W₀ H₀ W H o Dn
def Q9(K:Frag)(xw:XW)(g:Ga->Out):TS:=λDn σ H=>∃ W₀ H₀ W δ,StHas K W₀ H₀ W H σ δ/\RSQ K xw W₀ H₀ W H (g δ) Dn
end
structure NoQ(g:Ga->Out):Prop where
 h:∀ δ ks ds,g δ≠ .rt (.dct ks ds)
section
variable {sts:List Stmt}{g1 g2:Ga->Out}{p:Pos}
structure XSQ(X:Cx)(xw:XW)(sts:List Stmt)(g:Ga->Out):Prop where
 h:PSs X sts (Q9 X.K xw g)
def J9(K:Frag)(n:Nat)(m:List D->Res D):Sp:=λvs H Q E=>vs.length=n/\∃ W ds,WL W H/\HasL K W H ds vs/\match m ds with
 | .ok (.dct ks fs)=>S3 K W H ks fs Q
 | .ok d=>∀ v H',Same H H'->Has K W H' d v->Q v H'
 | .ex c fs=>∀ cls dx H',nsIn K mainGlobals c=some (some cls)->Same H H'->ExF H' dx fs->E cls dx H'
 | .stuck=>False
structure FnQX(P:Program)(w:World)(K:Frag)(mg:Str->Option Value)(base:Heap)(k:Nat)(x:Str)(n:Nat)(m:List D->Res D):Prop where
 ex:∃ f fd ps,FnOk P w K mg base (Ty P w) k f fd ps (J9 K n m)/\mg x=some (.ref f)/\keepIn K (.ref f)=true/\Binds K fd ps []
end
variable{f:Ga->Res D}{e:Expr}
section
variable {p:Pos}
end
variable{apos:Pos}
section
variable {p:Pos}
end
section
variable {b:Expr}{fa fb:Ga->Res (List (Jd×D))}{p:Pos}
end
section
variable {H':Hp}
end
variable{p1 p3:Pos}{tg:Expr}
section
variable {p:Pos}{ie:Expr}{fi:Ga->Res D}{ff:Ga->Res (List D)}
def RN(K:Frag)(xw:XW)(W:WS)(H:Hp)(r:Res (List D))(Q:VK):Prop:=match r with
 | .ok all=>∀ a (bs:List Addr) H1,Same H H1->H a=none->H1 a=some (.lst (bs.map V.ref))->bs.Nodup->a∉bs->bs.length=all.length->(∀ b∈bs,H b=none/\H1 b=some (.lst []))->Q (.ref a) H1
 | .ex c fs=>∀ H',Same H H'->xw c fs H'
 | .stuck=>False
def tNil:TE:=λ_ H Q=>∀ a,H a=none->Q (.ref a) (Ib H a (.lst []))
variable {iter:Expr}{fl:Ga->Res (List D)}{t:D->Ga->Res Ga}
end
section
variable {p:Pos}{fs:Ga->Res (List D)}
end
structure NoR(g:Ga->Out):Prop where
 h:∀ δ d,g δ≠ .rt d
def A4(xs:List Str):Prop:=xs.length<=100/\∀ x∈xs,(reprText x).length<=1000
section
variable {p:Pos}
end
def spR(K:Frag)(C:Addr)(attr:Str):Sp:=λvs H Q _=>∃ a l xs,vs= [.ref a,.ref l]/\SqL K H l (xs.map V.str)/\A4 xs/\H a=some (.ext (Jp a C))/\∀ n o d,H n=none->H d=none->d≠n->Q .non (Ib (Ib (Ib H n (.frz o (.lst (xs.map V.str)))) a (.ext (Yi a C (some d)))) d (.xd [(attr,.ref n)]))
structure XInR(X:Cx)(C:Addr)(attr:Str)(sts:List Stmt):Prop where
 h:PSs X sts (λD σ H=>∃ a l xs,σ[0]? =some (some (.ref a))/\σ[1]? =some (some (.ref l))/\SqL X.K H l (xs.map V.str)/\A4 xs/\H a=some (.ext (Jp a C))/\∀ n o d,H n=none->H d=none->d≠n->D.nx σ (Ib (Ib (Ib H n (.frz o (.lst (xs.map V.str)))) a (.ext (Yi a C (some d)))) d (.xd [(attr,.ref n)])))
variable{attr:Str}
section
variable {S f:Addr}{xb self:Str}{p7 p8 p9 q1 q2 q3 q4 q5 q6 r1 r2 r3:Pos}{z:Str}
end
structure FnR(P:Program)(w:World)(K:Frag)(mg:Str->Option Value)(base:Heap)(k:Nat)(c attr:Str):Prop where
 ex:∃ j C S f fd ps,j+1<=k/\FnOkH P w K mg base Co j f fd ps (spR K C attr)/\XInit K C S f/\mg c=some (.ref C)/\nsIn K mainGlobals c=some (some (.ref C))/\Binds K fd ps []
section
variable {S f:Addr}{fd:FuncData}{ps:List Str}{p:Pos}{t:TA}{fs:Ga->Res (List D)}
end
section
variable {o:Expr}{fs:Ga->Res (List D)}
end
section
variable {prog:Program}{E:Value->Shared->Prop}{it l:Addr}{xs:Array Value}
end
section
variable {p:Pos}
end
section
variable {p:Pos}{fs:Ga->Res (List D)}
end
end L3
namespace L3
open PySem
open Sem (wp)
variable{K:Type}
def DQ[DecidableEq K](σ:List K)(k:K):List K:=if k∈σ then σ else σ++ [k]
def Wp[DecidableEq K](ks:List K):List K:=ks.foldl DQ []
theorem YQ[DecidableEq K](σ:List K)(k:K):(DQ σ k).length<=σ.length+1:=by unfold DQ;split<;>simp
theorem Jv{K:Type}[DecidableEq K]:∀ (ns σ:List K),(ns.foldl DQ σ).length<=σ.length+ns.length
 | [],σ=>by simp
 |n::ns,σ=>by have:=Jv ns (DQ σ n);have:=YQ σ n;rw[foldl_cons,List.length_cons];omega
theorem FF[DecidableEq K](ns:List K):(Wp ns).length<=ns.length:=by have:=Jv ns [];simpa [Wp] using this
theorem XM[DecidableEq K]{ns:List K}{i:Nat}{k:K}(h:ns[i]? =some k):Wp (ns.take (i+1))=DQ (Wp (ns.take i)) k:=by
 unfold Wp
 rw[List.take_add_one,List.foldl_append,h]
 rfl
variable{a:Addr}
section
variable {prog:Program}{w:World}[DecidableEq K]{knd:KeyKind prog w K}{A:Around}{R:Result->Shared->Prop}{I:Addr}{fp wr:List Addr}{G:Array GenState->Array GenState->Prop}{n:Nat}{P:Nat->Value->Prop}{St:Nat->Shared->Prop}{E:Value->Shared->Prop}{s:Shared}
def SB(knd:KeyKind prog w K)(h:Heap)(a:Addr)(σ:List K):Prop:=h.SetOf knd a (λk=>decide (k∈σ)) σ.length
theorem SB.at'{h h':Heap}{σ:List K}(x:SB knd h a σ)(k:∀ o,h.get? a=some o->h'.get? a=some o):SB knd h' a σ:=by
 obtain⟨o,es,ep,t,ho,r⟩:=x;exact⟨o,es,ep,t,k o ho,r⟩
theorem A2{σ:List K}{k:K}{v:Value}{Q:Bool->Shared->Prop}(hk:knd.is k v=true)(hsc:v.scannable=true)(hS:SB knd s.heap a σ)(room:σ.length+1<scanBound)(h:∀ h' b,SameBut a s.heap h'->SB knd h' a (DQ σ k)->Q b {s with heap:=h'}):wpAny (model prog w) A (setAddHashed a v (knd.hash k)) Q E s:=by
 refine wpAny_setAddHashed_of hk hsc hS room λh' sb hS'=>h h' _ sb ?_
 unfold SB DQ
 by_cases hm:k∈σ
 .rw[if_pos hm]
  rw[decide_eq_true hm]at hS'
  have e:(λk'=>decide (k'∈σ)||decide (k'=k))=λk'=>decide (k'∈σ):=by
   funext k'
   by_cases h1:k'=k
   .rw[h1,decide_eq_true hm];rfl
   .rw[decide_eq_false h1,Bool.or_false]
  rw[e]at hS'
  exact hS'
 .rw[if_neg hm]
  rw[decide_eq_false hm]at hS'
  have e:(λk'=>decide (k'∈σ)||decide (k'=k))=λk'=>decide (k'∈σ++ [k]):=by
   funext k'
   by_cases h1:k'=k
   .rw[h1];simp
   .simp[h1]
  rw[e]at hS'
  rw[length_append,length_singleton]
  exact hS'
theorem WU(W:WalksS prog w A.in1 I fp wr G n P St)(S:Addr)(hSf:S∉fp)(ks:List K)(hn:ks.length=n)(hv:∀ i v,P i v->∃ k,ks[i]? =some k/\knd.is k v=true/\v.scannable=true)(hb:n+1<scanBound):
  ∀ (k i:Nat) (s:Shared),n-i=k->i<=n->St i s->SB knd s.heap S (Wp (ks.take i))->(∀ s',Moved (S::wr) G s s'->SB knd s'.heap S (Wp ks)->R (.ok (.ret .none)) s')->
   codeAny (model prog w) A (.builtin "set.update.loop" ⟨[.ref S,.ref I],[]⟩) R s:=by
 have hSw:S∉wr:=λh=>hSf (W.sub _ h)
 have up:∀ b∈wr,b∈S::wr:=λb hb=>mem_cons_of_mem _ hb
 intro k
 induction k with
 |zero=>
  intro i s hk hi st hS hR
  have:i=n:=by omega
  subst this
  refine codeAny_builtin PyProof.Rows.F.entry_set_update_loop ?_;rw[Around.under_plainId PyProof.Rows.F.plain_set_update_loop _]
  show wpAny _ A.in1 (pyNext (.ref I) >>= _) _ _ s
  refine wpAny_bind (W.done s _ _ st λs' mv=>wpAny_pure (hR s' (mv.mono up) ?_))
  rw[take_of_length_le (Nat.le_of_eq hn)]at hS
  exact hS.at' λo e=>mv.heap S o hSw e
 |succ k ih=>
  intro i s hk hi st hS hR
  have lt:i<n:=by omega
  refine codeAny_builtin PyProof.Rows.F.entry_set_update_loop ?_;rw[Around.under_plainId PyProof.Rows.F.plain_set_update_loop _]
  show wpAny _ A.in1 (pyNext (.ref I) >>= _) _ _ s
  refine wpAny_bind (W.item i s _ _ lt st λv s' pv st' mv=>?_)
  obtain⟨kk,ek,hkk,hsc⟩:=hv i v pv
  have hS':SB knd s'.heap S (Wp (ks.take i)):=hS.at' λo e=>mv.heap S o hSw e
  have room:(Wp (ks.take i)).length+1<scanBound:=by have:=FF (ks.take i);rw[length_take]at this;omega
  show wpAny _ A.in1 (holding [v] (setAdd S v) >>= _) _ _ s'
  refine wpAny_bind (wpAny_holding ?_)
  unfold setAdd
  refine wpAny_holding (wpAny_bind (knd.pyHash (k:=kk) hkk ?_))
  refine A2 (s:= {s' with toks:=s'.toks+1}) hkk hsc hS' room λh' b sb hS2=>wpAny_pure ⟨plainId_quiet PyProof.Rows.F.plain_set_update_loop _,?_⟩
  refine ih (i+1) _ (by omega) lt (W.frame _ s' _ _ st' (le_succ _) λb hb o e=>sb.extBut _ _ (λq=>hSf (q▸hb)) e) (by rw[XM ek];exact hS2) λs'' mv2 hS3=>hR s'' ?_ hS3
  exact Moved.trans W.gtrans ((mv.mono up).then_heap (le_succ _) λb o hb e=>sb.extBut _ _ (λq=>hb (by rw[q];exact mem_cons_self)) e) mv2
theorem LO{h:Heap}{led:Bool}(hg:h.get? a=some {cls:=.type "set",dict:=none,data:=.set #[] 0 (.fresh 0 0 led)}):SB knd h a []:=
 ⟨_,#[],0,_,hg,⟨rfl,rfl,rfl⟩,rfl,λe he=>by simp at he,λk=>by simp,by decide,by rfl,rfl⟩
theorem Gu{T:String}{l:Addr}{ol:Obj}{items:Array Value}{ks:List K}{Q:Value->Shared->Prop}(hh:A.handled=none)(hol:s.heap.get? l=some ol)(hcl:ol.cls=.type T)(hs1:isSubtype (.type T) (.type "set")=pure false)(hs2:isSubtype (.type T) (.type "frozenset")=pure false)(hnd:(Value.type T==Value.type "dict")=false)(hit:Itr prog w l ol items)(hn:ks.length=items.size)(hv:∀ (i:Nat) (v:Value),items[i]? =some v->∃ k,ks[i]? =some k/\knd.is k v=true/\v.scannable=true)(hb:items.size+1<scanBound)(h:∀ h' tk,SB knd h' s.heap.objs.size (Wp ks)->(∀ b o,s.heap.get? b=some o->h'.get? b=some o)->Q (.ref s.heap.objs.size) {s with heap:=h',toks:=tk}):wpAny (model prog w) A (call (.type "set") [.ref l]) Q E s:=by
 obtain⟨c,tl,hmro⟩:=PySem.F.called_set.mro
 have hmade:=PySem.F.called_set.made
 have hsub:=PySem.F.called_set.sub
 refine wpAny_call (codeAny_of_tree ?_);show wpAny _ _ (callAny (.type "set") _) _ _ _
 refine wpAny_pure ⟨Code.quiet_builtin _ (by decide +kernel),codeAny_builtin PySem.F.entry_type_call ?_⟩;rw[Around.under_plain (weight_type_call_type "set" [.ref l] []) rfl]
 have q1:=PySem.F.called_set.notType
 have q2:=PySem.F.called_set.canCreate
 have q3:=PySem.F.typeCall_set_1 (.ref l)
 repeat (any_goals (first|assumption|wp_step))
 refine codeAny_mono (QO (.ref l) (E:=E) (Q₁:=λobj s₁=>∃ led:Bool,led=(!w.params.followText "set-order")/\obj=.ref s.heap.objs.size/\s₁= {s with heap:=s.heap.push {cls:=.type "set",dict:=none,data:=.set #[] 0 (.fresh 0 0 led)}}) λled e=>⟨led,e,rfl,rfl⟩) λr s₁ hr=>?_
 cases r with
 |error e=>exact hr
 |ok fl=>
  cases fl with
  |ret obj=>
   obtain⟨led,hled,rfl,rfl⟩:=hr
   generalize hg:s.heap.push {cls:=.type "set",dict:=none,data:=.set #[] 0 (.fresh 0 0 led)}=h1
   have k1:∀ b o,s.heap.get? b=some o->h1.get? b=some o:=λb o e=>by rw[<-hg];exact get?_push_of_some _ e
   have n1:h1.get? s.heap.objs.size=some {cls:=.type "set",dict:=none,data:=.set #[] 0 (.fresh 0 0 led)}:=by rw[<-hg];exact get?_push_size _ rfl
   have z1:h1.objs.size=s.heap.objs.size+1:=by rw[<-hg,size_push]
   clear hg
   have hT:Shared.TypeIs {s with heap:=h1} (.ref s.heap.objs.size) "set":=⟨_,n1,rfl⟩
   have q4:=PySem.F.called_set.init.lookup
   have q5:=PySem.F.called_set.init.bind (.ref s.heap.objs.size)
   repeat (any_goals (first|assumption|wp_step))
   refine codeAny_mono (codeAny_call_builtin (R:=wants (λr s₂=>r=.none/\∃ h' tk,s₂= {s with heap:=h',toks:=tk}/\SB knd h' s.heap.objs.size (Wp ks)/\∀ b o,s.heap.get? b=some o->h'.get? b=some o) E)
    PySem.F.called_set.init.plain PySem.F.entry_set_init (check_set_init_1 hT ?_)) λr₂ s₂ hr₂=>?_
   .have hol':=k1 _ _ hol
    have hTl:Shared.TypeIs {s with heap:=h1} (.ref l) T:=⟨_,hol',hcl⟩
    unfold Builtin.«set.__init__» noKeywords Builtin.Frozenset.updateFrom
    generalize hPI:pyIter=PI
    wp_walk
    subst hPI
    refine hit _ _ _ _ hol' λI St h2 W st eI k2=>?_
    refine wpAny_bind (wpAny_runValue ?_)
    have lS:s.heap.objs.size<I:=by rw[eI];show _<h1.objs.size;rw[z1];exact Nat.lt_succ_self _
    have ll:l<s.heap.objs.size:=lt_size hol
    have hSf:s.heap.objs.size∉ [I,l]:=by
     simp only[mem_cons,not_mem_nil,or_false,not_or]
     exact⟨ne_of_lt lS,ne_of_gt ll⟩
    refine WU ((W _ (by simp[hh])).toS) s.heap.objs.size hSf ks hn hv hb items.size 0 _ (by omega) (zero_le _) st (LO (k2 _ _ n1)) λs' mv hS=>?_
    obtain⟨h',g',d',tk',os'⟩:=s'
    have eg:g'=s.gens:=mv.gens
    have ed:d'=s.drawn:=mv.drawn
    have eo:os'=s.os:=mv.os
    subst eg ed eo
    refine wpAny_pure (wpAny_pure ⟨rfl,h',tk',rfl,hS,λb o e=>?_⟩)
    have lb:b<s.heap.objs.size:=lt_size e
    refine mv.heap b o (λz=>?_) (k2 _ _ (k1 _ _ e))
    simp only[mem_cons,not_mem_nil,or_false]at z
    rcases z with z|z
    .rw[z]at lb;exact lt_irrefl _ lb
    .rw[z]at lb;exact lt_irrefl _ (Nat.lt_trans lb lS)
   .cases r₂ with
    |error e=>exact hr₂
    |ok fl₂=>
     cases fl₂ with
     |ret r=>
      obtain⟨rfl,h',tk,rfl,hS',hk'⟩:=hr₂
      repeat (any_goals (first|assumption|wp_step))
      exact h _ _ hS' hk'
     |_=>exact hr₂.elim
  |_=>exact hr.elim
end
open PySem.Spec PyProof.Rows L2 SeqAt
variable{a e:Expr}{X:Cx}{xw:XW}{pos p2:Pos}{fa:Ga->Res D}
section
variable {p pos2:Pos}
theorem AG:∀ {us:List Value} {xs:List Str},Vals (xs.map V.str) us->xs.length=us.length/\∀ (i:Nat) v,us[i]? =some v->∃ k,xs[i]? =some k/\Value.isStrOf k v=true/\v.scannable=true
 |us,[],r=>by cases r;exact⟨rfl,λi v h=>by simp at h⟩
 |us,x::xs,r=>by
  cases r with
  |cons h1 t=>
   obtain⟨l,q⟩:=AG t
   refine⟨by rw[List.length_cons,List.length_cons,l],λi v hv=>?_⟩
   cases i with
   |zero=>
    obtain⟨tk,rfl⟩:=h1
    have e:Value.str x tk=v:=by simpa using hv
    subst e
    exact⟨x,rfl,by simp[Value.isStrOf],rfl⟩
   |succ i=>
    obtain⟨k,e1,e2⟩:=q i v (by simpa using hv)
    exact⟨k,by simpa using e1,e2⟩
def tLT(K:Frag)(ta:TE):TE:=λσ H Q=>ta σ H λv H1=>∃ l xs,v=.ref l/\SqL K H1 l (xs.map V.str)/\xs.length<64/\Q (.int (Wp xs).length) H1
theorem YC{ta:TE}(hc:X.calm=true)(hg1:Gl X "len")(hm1:X.mg "len"=none)(hg2:Gl X "set")(hm2:X.mg "set"=none)(ha:PE X a ta)(h1:starEach [.Call (.Name "set" p2) [a] [] pos2] X.env=(false,eval (.Call (.Name "set" p2) [a] [] pos2) X.env)::starEach [] X.env)(h2:starEach [a] X.env=(false,eval a X.env)::starEach [] X.env)(h3:(backTo pos (starEach [] X.env)).any (·.1)=false)(h4:(backTo pos2 (starEach [] X.env)).any (·.1)=false):PE X (.Call (.Name "len" p) [.Call (.Name "set" p2) [a] [] pos2] [] pos) (tLT X.K ta):=by
 intro pins s σ H Q I h
 refine wpAny_Call_Name_kw (Sn I hg1 hm1 (show bootBuiltins "len"=some (.builtin "len") by decide +kernel) ?_)
 refine PyProof.Rows.callWith_builtin1 ?_ h1 h3
 rw[h1]
 show wpAny _ _ (spliced ((false,eval (.Call (.Name "set" p2) [a] [] pos2) X.env)::backTo pos (starEach [] X.env))) _ _ s
 refine Calls.spliced_cons ?_
 refine wpAny_Call_Name_kw (Sn I hg2 hm2 (show bootBuiltins "set"=some (.type "set") by decide +kernel) ?_)
 refine PyProof.Rows.callWith_type1 ?_ h2 h4
 rw[h2]
 show wpAny _ _ (spliced ((false,eval a X.env)::backTo pos2 (starEach [] X.env))) _ _ s
 refine Calls.spliced_cons (thn (ha pins s σ H _ I h) λu s1 ⟨x,H1,I1,r1,q1⟩=>?_)
 refine Calls.spliced_nil ?_
 obtain⟨l,xs,rfl,sq,hl,q⟩:=q1
 cases (show u=Value.ref l from r1)
 obtain⟨its,rv,ps,_⟩:=I1.list sq
 obtain⟨el,hat⟩:=AG rv
 have hb:its.toArray.size+1<scanBound:=by rw[size_toArray,<-el];unfold scanBound;omega
 obtain⟨ol,nl,hol,hcl,_,hd⟩:=ps
 refine Gu (knd:=strKind X.prog X.w) (I1.ok.hd hc) hol hcl (by rw[isSubtype_type];kernel_rfl) (by rw[isSubtype_type];kernel_rfl) (by decide) (EM hcl hd) (by rw[size_toArray];exact el) (λi v e=>hat i v (by simpa using e)) hb λh' tk hS k=>?_
 refine Calls.spliced_nil ?_
 obtain⟨o,es,ep,t,ho,hex,hd,hel,hp,hb,hf,ht⟩:=hS
 have hsz:es.size=(Wp xs).length:=ht
 have hfit:(es.size:Int)<2^63:=by
  have:=FF xs
  rw[hsz];omega
 refine call_len_set (s:= {s1 with heap:=h',toks:=tk}) ho hex hd hf hfit ?_
 rw[hsz]
 exact⟨.int ((Wp xs).length:Int),H1,(I1.kept (t':=tk) k).tok _,⟨_,rfl⟩,q⟩
def Qs:D->Res D
 | .lst ds=>match Pk ds with
  |some xs=>@ite _ (xs.length<64) (propDecidable _) (.ok (.int (Wp xs).length)) .stuck
  |none=>.stuck
 |_=>.stuck
theorem TJ(hc:X.calm=true)(hm1:X.mg "len"=none)(hm2:X.mg "set"=none)(ha:XP X xw a fa)(hg1:Gl X "len":=by rfl)(hg2:Gl X "set":=by rfl)(h1:starEach [.Call (.Name "set" p2) [a] [] pos2] X.env=(false,eval (.Call (.Name "set" p2) [a] [] pos2) X.env)::starEach [] X.env:=by rfl)(h2:starEach [a] X.env=(false,eval a X.env)::starEach [] X.env:=by rfl)(h3:(backTo pos (starEach [] X.env)).any (·.1)=false:=by rfl)(h4:(backTo pos2 (starEach [] X.env)).any (·.1)=false:=by rfl):
  XE X xw (.Call (.Name "len" p) [.Call (.Name "set" p2) [a] [] pos2] [] pos) (b1 Qs fa):=
 ⟨PE.weak (YC hc hg1 hm1 hg2 hm2 ha.h h1 h2 h3 h4) λσ H Q ⟨W₀,H₀,W,δ,st,q⟩=>Rg st q λH2 d v k w st2 hv _ q2=>by
  unfold Qs at q2
  split at q2
  .split at q2
   .rename_i xs hn
    split at q2
    .rename_i hl
     obtain⟨p,ys,e,sq,r⟩:=hv.lst
     have:=Yn hn r
     subst this
     exact⟨p,xs,e,sq,hl,q2 _ H2 (Same.refl _) (by rw[Has])⟩
    .exact q2.elim
   .exact q2.elim
  .exact q2.elim⟩
end
section
variable {o:Expr}{es:List Expr}{f:Ga->Res D}{gs:Ga->Res (List D)}{p apos:Pos}{fld m:Str}{cs:List Str}
structure OwnK(K:Frag)(C:Addr):Prop where
 hg:plainGet K C "__class__"=true
 hd:hasDictIn K C=true
 ha:findIn K (.ref C) "__class__"=some (some (.builtin "object.__class__"))
 hn:specialIn K (.builtin "object.__class__") "__get__"=some (some (.builtin "getset_descriptor.__get__"))
 ht:PySem.W.takesIn K (.builtin "object.__class__")=some true
 hm:mroIn K C (.type "object")=some true
structure IsiO(K:Frag)(tb:List (Str×Bool))(vc:V):Prop where
 cls:∃ a,vc=.ref a
 ok:∀ c b,tb.lookup c=some b->∃ C,nsIn K mainGlobals c=some (some (.ref C))/\OwnK K C/\kitOne K (.ref C) (WD vc)=some b
structure MtK(P:Program)(w:World)(K:Frag)(mg:Str->Option Value)(base:Heap)(k:Nat)(c m:Str)(n:Nat)(g:List D->Res D):Prop where
 ex:∃ C f fd ps,nsIn K mainGlobals c=some (some (.ref C))/\Cls K C/\Meth K C m f/\FnOk P w K mg base Co k f fd ps (K2 K n g)/\Binds K fd ps []
end
end L3
namespace L3
open PySem PyProof.Rows
section
variable {prog:Program}{w:World}{A:Around}{E:Value->Shared->Prop}{s:Shared}{T:String}{r d:Addr}{n:Nat}{P:Nat->Value->Prop}{OK:Heap->Prop}
end
open PySem.Spec L2 SeqAt
section
variable {X:Cx}{xw:XW}{e:Expr}{f:Ga->Res D}{p pos:Pos}
end
end L3
namespace L3
open PySem PySem.SeqAt PySem.MeetsSeq PySem.MeetsSeq2 PySem.MeetsSeq3
section
variable {P:Program}{w:World}
end
end L3
namespace L3
open PySem PySem.Spec PyProof.Rows L2 SeqAt
variable{X:Cx}{xw:XW}{pins:List (Addr×Obj)}{σ:L2.St}{W:WS}{H:Hp}{s:Shared}
variable{W₀:WS}{H₀:Hp}{δ:Ga}{i:Nat}{cs:List Ch}{a:Addr}{sl:S}
section
variable {K:Frag}{H':Hp}
theorem StHas.innerK{j:Nat}{t:Tp}{c c':Ch}{b:Addr}{ob ob':HO}(h:StHas K W₀ H₀ W H σ δ)(hi:δ[i]? =some (some (.k t cs)))(hs:σ[i]? =some (some (.ref a)))(ha:H a=some ob)(hc:cs[j]? =some c)(co:MG c)(hb:(RH ob)[j]? =some (.ref b))(mo:Do ob')(co':MG c')(q:H₀ b=none->W b->Zi W H (Ib H b ob')->ChHas K H₀ W (Ib H b ob') c' (.ref b)):StHas K W₀ H₀ W (Ib H b ob') σ (δ.set i (some (.k t (cs.set j c')))):=by
 obtain⟨v,e,a',ob2,e',h1,h2,h3,h4,h5,h6⟩:=h.at' i _ hi
 rw[hs]at e;cases e;cases e'
 rw[ha]at h1;cases h1
 have own:Owns H (.k t cs) (.ref a) b:=.inr ⟨a,ob,j,c,rfl,ha,hc,co,hb⟩
 obtain⟨hba,hap⟩:=h5 j c b hc co hb
 have ha':Ib H b ob' a=some ob:=by rw[Ea (Ne.symm hba)];exact ha
 have hj:j<cs.length:=(List.getElem?_eq_some_iff.mp hc).1
 obtain⟨hWb,h0b,_⟩:=(h.at' i _ hi).elim λv z=>by
  have:v=.ref a:=by have:=z.1;rw[hs]at this;exact(Option.some.inj (Option.some.inj this)).symm
  subst this
  exact z.2.owns own
 have get:∀ k z,(cs.set j c')[k]? =some z->(k=j/\z=c')\/(k≠j/\cs[k]? =some z):=λk z e=>by
  by_cases hk:j=k
  .subst hk
   rw[getElem?_set_self hj]at e
   exact .inl ⟨rfl,(Option.some.inj e).symm⟩
  .rw[getElem?_set_ne hk]at e
   exact .inr ⟨Ne.symm hk,e⟩
 refine h.changeS hi hs own mo (λh0 kk=>⟨a,ob,rfl,ha',h2,h3,by rw[List.length_set];exact h4,?_,λk z x e1 e2=>?_⟩) (λb2 o m t' v hm e e'=>h.ap i m _ _ _ _ b2 hm hi e hs e' ?_)
 .intro k z b2 e1 zo e2
  have old:∀ m z,(cs.set j c')[m]? =some z->MG z->∃ z',cs[m]? =some z'/\MG z':=λm z e o=>by
   rcases get m z e with⟨rfl,rfl⟩|⟨_,e⟩
   .exact⟨c,hc,co⟩
   .exact⟨z,e,o⟩
  obtain⟨z',g1,g2⟩:=old k z e1 zo
  obtain⟨f1,f2⟩:=h5 k z' b2 g1 g2 e2
  refine⟨f1,λm z2 hm e3 o3=>?_⟩
  obtain⟨z3,g3,g4⟩:=old m z2 e3 o3
  exact f2 m z3 hm g3 g4
 .rcases get k z e1 with⟨rfl,rfl⟩|⟨hk,e1⟩
  .rw[hb]at e2;cases e2
   exact q h0b hWb kk
  .have hz:=h6 k z x e1 e2
   cases z with
   |d y=>exact Has.keep kk h.fr.wl (λb z=>.inl z) hz
   |l ds=>
    obtain⟨b2,xs,rfl,f1,f2,f3,f4⟩:=hz
    have ne:b2≠b:=λy=>hap k _ hk e1 trivial (by rw[<-y];exact e2)
    exact⟨b2,xs,rfl,f1,f2,by rw[Ea ne];exact f3,HasL.keep kk h.fr.wl (λb z=>.inl z) f4⟩
   |q ks ds=>
    obtain⟨b2,xs,rfl,f1,f2,f3,f4,f5⟩:=hz
    have ne:b2≠b:=λy=>hap k _ hk e1 trivial (by rw[<-y];exact e2)
    exact⟨b2,xs,rfl,f1,f2,by rw[Ea ne];exact f3,f4,HasL.keep kk h.fr.wl (λb z=>.inl z) f5⟩
 .rcases o with o|⟨a2,ob2,k,z,e2,g,e3,zo,e4⟩
  .exact .inl o
  .cases e2
   rw[ha']at g;cases g
   rcases get k z e3 with⟨rfl,rfl⟩|⟨_,e3⟩
   .exact .inr ⟨a,ob,_,c,rfl,ha,hc,co,e4⟩
   .exact .inr ⟨a,ob,k,z,rfl,ha,e3,zo,e4⟩
theorem StHas.demote{N:WS}{so:S}{w:V}(h:StHas K W₀ H₀ W H σ δ)(hi:δ[i]? =some (some so))(hs:σ[i]? =some (some w))(oN:∀ b,N b->Owns H so w b)(hd:SlotHas K W₀ H₀ (λb=>W b/\¬ N b) H sl w)(ow:∀ b,Owns H sl w b->Owns H so w b):StHas K W₀ H₀ (λb=>W b/\¬ N b) H σ (δ.set i (some sl)):=by
 obtain⟨v,h1,h2⟩:=h.at' i _ hi
 rw[hs]at h1
 cases h1
 have kk:Zi W H H:=λ_ _ e _=>e
 have hw:∀ b,(W b/\¬ N b)->W b\/H b=none:=λb z=>.inl z.1
 have hl:i<δ.length:=(List.getElem?_eq_some_iff.mp hi).1
 have back:∀ (m:Nat) (t:S) (x:V) (b:Addr),(δ.set i (some sl))[m]? =some (some t)->σ[m]? =some (some x)->Owns H t x b->∃ t',δ[m]? =some (some t')/\Owns H t' x b:=λm t x b e e' o=>by
  by_cases hm:i=m
  .subst hm
   rw[getElem?_set_self hl]at e;cases e
   rw[hs]at e';cases e'
   exact⟨so,hi,ow b o⟩
  .rw[getElem?_set_ne hm]at e
   exact⟨t,e,o⟩
 refine⟨⟨h.fr.ext,λb z=>⟨h.fr.sub b z,λe=>?_⟩,λb z=>h.fr.wl b z.1,h.fr.wl0⟩,by simp[h.len],λj s e=>?_,λj l s1 s2 u u' b hjl e1 e2 e3 e4 os ot=>?_⟩
 .obtain⟨ys,z',_⟩:=h.fr.wl0 _ z
  rw[(h2.owns (oN _ e)).2.1]at z';cases z'
 .by_cases hj:i=j
  .subst hj
   rw[getElem?_set_self hl]at e
   cases e
   exact⟨_,hs,hd⟩
  .rw[getElem?_set_ne hj]at e
   obtain⟨v,g1,g2⟩:=h.at' j s e
   exact⟨v,g1,g2.mv h.fr.wl kk hw λb o e1 h1' _ h3' _=>⟨⟨h1',λz=>h.ap i j _ _ _ _ b hj hi e hs g1 (oN b z) e1⟩,h3'⟩⟩
 .obtain⟨t1,g1,o1⟩:=back j s1 u b e1 e3 os
  obtain⟨t2,g2,o2⟩:=back l s2 u' b e2 e4 ot
  exact h.ap j l t1 t2 u u' b hjl g1 g2 e3 e4 o1 o2
def Z6:Ch->D
 | .d x=>x
 | .l ds=>.lst ds
 | .q ks ds=>.dct ks ds
def Z7:Ch->Bool
 | .q _ _=>false
 |_=>true
theorem StHas.demoteQ{ks:List Jd}(h:StHas K W₀ H₀ W H σ δ)(hi:δ[i]? =some (some (.k (.dct ks) cs)))(hL:cs.all Z7=true):
  ∃ W':WS,(∀ b,W' b->W b)/\StHas K W₀ H₀ W' H σ (δ.set i (some (.q ks (cs.map Z6)))):=by
 obtain⟨v,hs,a,ob,rfl,h1,h2,h3,h4,h5,h6⟩:=h.at' i _ hi
 cases ob with
 |dK kvs=>
  have hk:kvs.map (·.1)=ks:=h2
  refine⟨λb=>W b/\¬ ∃ (j:Nat) (c:Ch),cs[j]? =some c/\MG c/\(kvs.map (·.2))[j]? =some (V.ref b),λb z=>z.1,h.demote (N:=λb=>∃ (j:Nat) (c:Ch),cs[j]? =some c/\MG c/\(kvs.map (·.2))[j]? =some (V.ref b)) hi hs (λb ⟨j,c,e1,co,e2⟩=>.inr ⟨a,_,j,c,rfl,h1,e1,co,e2⟩) ?_ (λb o=>.inl ⟨trivial,o⟩)⟩
  have na:¬ ∃ (j:Nat) (c:Ch),cs[j]? =some c/\MG c/\(kvs.map (·.2))[j]? =some (V.ref a):=λ⟨j,c,e1,co,e2⟩=>(h5 j c a e1 co e2).1 rfl
  refine⟨a,kvs,rfl,⟨(h3 trivial).1,na⟩,(h3 trivial).2,h1,hk,?_⟩
  have hl:cs.length=(kvs.map (·.2)).length:=h4
  have kk:Zi W H H:=λ_ _ e _=>e
  have hw:∀ b,(W b/\¬ ∃ (j:Nat) (c:Ch),cs[j]? =some c/\MG c/\(kvs.map (·.2))[j]? =some (V.ref b))->W b\/H b=none:=λb z=>.inl z.1
  have el:∀ (j:Nat) (c:Ch) (x:V),cs[j]? =some c->(kvs.map (·.2))[j]? =some x->Has K (λb=>W b/\¬ ∃ (j:Nat) (c:Ch),cs[j]? =some c/\MG c/\(kvs.map (·.2))[j]? =some (V.ref b)) H (Z6 c) x:=λj c x e1 e2=>by
   have hc:=h6 j c x e1 e2
   cases c with
   |d y=>exact Has.keep kk h.fr.wl hw hc
   |l ds=>
    obtain⟨b,xs,rfl,f1,f2,f3,f4⟩:=hc
    show Has _ _ _ (.lst ds) _
    rw[Has]
    exact⟨b,xs,rfl,.inl ⟨f3,λz=>z.2 ⟨j,_,e1,trivial,e2⟩⟩,HasL.keep kk h.fr.wl hw f4⟩
   |q ks' ds=>
    have:=all_eq_true.mp hL _ (mem_of_getElem? e1)
    cases this
  generalize (λb=>W b/\¬ ∃ (j:Nat) (c:Ch),cs[j]? =some c/\MG c/\(kvs.map (·.2))[j]? =some (V.ref b))=W' at*
  generalize kvs.map (·.2)=vs at*
  clear na hw h4 h5 h6 hL h2 hk h3 hi
  induction cs generalizing vs with
  |nil=>
   cases vs with
   |nil=>exact HasL.nil
   |cons _ _=>cases hl
  |cons c cs ih=>
   cases vs with
   |nil=>cases hl
   |cons x vs=>
    exact HasL.cons (el 0 c x rfl rfl) (ih vs (by simpa using hl) λj c x e1 e2=>el (j+1) c x (by simpa using e1) (by simpa using e2))
 |_=>exact h2.elim
end
section
variable {e:Expr}{f:Ga->Res D}
theorem _root_.L2.Inv.thaw{o:Obj}{kvs:List (Jd×V)}(I:Inv X pins σ H s)(ha:H a=some (.frz o (.dK kvs)))(h1:∀ o u,X.H₀ a≠some (.frz o u))(h2:∀ xs,X.H₀ a≠some (.tup xs))(h3:∀ ps,X.H₀ a≠some (.tbl ps)):Inv X pins σ (Ib H a (.dK kvs)) s:=by
 have ne:∀ {b:Addr},H b=none->b≠a:=λ{b} e z=>by rw[z,ha]at e;cases e
 have st:∀ {b:Addr} {u:HO},ObjOk X.prog X.w H s.heap b u->ObjOk X.prog X.w (Ib H a (.dK kvs)) s.heap b u:=λ{b u} x=>x.stay (λ_ _ _ q=>q)
  (λc e=>by rw[Ea (λz=>by rw[z,ha]at e;cases e)];exact e) λc xs e=>by rw[Ea (λz=>by rw[z,ha]at e;cases e)];exact e
 refine⟨I.ok,I.os,I.bare,⟨I.base.keep,I.base.slot,λb u e n x=>?_,I.base.there,λb xs e=>?_,λb u v e=>?_,λb ps e=>?_⟩,I.loc,I.cell,by rw[Ea (ne I.free)];exact I.free,λx c e=>by rw[Ea (ne (I.freeC x c e))];exact I.freeC x c e,λp hp=>?_,λb u e=>?_,I.len⟩
 .have:=I.base.free b u e n x
  rw[Ea (ne this)];exact this
 .rw[Ea (λz=>by rw[z]at e;exact h2 xs e)];exact I.base.tups b xs e
 .rw[Ea (λz=>by rw[z]at e;exact h1 _ _ e)];exact I.base.frzs b u v e
 .rw[Ea (λz=>by rw[z]at e;exact h3 _ e)];exact I.base.tbls b ps e
 .obtain⟨g1,g2,g3⟩:=I.pin p hp
  exact⟨g1,by rw[Ea (ne g2)];exact g2,g3⟩
 .by_cases hb:b=a
  .rw[hb,Ra]at e
   cases e
   rw[hb]
   exact st (I.hok a _ ha).2
  .rw[Ea hb]at e
   exact st (I.hok b u e)
def KP:S->Option D
 | .q ks ds=>some (.dct ks ds)
 | .k (.dct ks) cs=>if cs.all Z7=true then some (.dct ks (cs.map Z6)) else none
 |_=>none
def Bu(i:Nat)(f:Ga->Res D):Ga->Res D:=λδ=>match δ[i]? with
 |some (some s)=>match KP s with
  |some d=>match f (δ.set i (some (.d d))) with
   | .ok x=>if Bj x=true then .ok x else .stuck
   |_=>.stuck
  |none=>.stuck
 |_=>.stuck
theorem RJ{d:D}(I:Inv X pins σ H s)(st:StHas X.K W₀ H₀ W H σ δ)(hi:δ[i]? =some (some sl))(hv:KP sl=some d):
  ∃ (a:Addr) (kvs:List (Jd×V)) (o:Obj) (W':WS),H a=some (.dK kvs)/\(∀ b,W' b->W b)/\Inv X pins σ (Ib H a (.frz o (.dK kvs))) s/\StHas X.K W₀ H₀ W' (Ib H a (.frz o (.dK kvs))) σ (δ.set i (some (.d d))):=by
 have main:∀ {W:WS} {δ:Ga} {ks:List Jd} {ds:List D},StHas X.K W₀ H₀ W H σ δ->δ[i]? =some (some (.q ks ds))->∃ (a:Addr) (kvs:List (Jd×V)) (o:Obj) (W':WS),H a=some (.dK kvs)/\(∀ b,W' b->W b)/\Inv X pins σ (Ib H a (.frz o (.dK kvs))) s/\StHas X.K W₀ H₀ W' (Ib H a (.frz o (.dK kvs))) σ (δ.set i (some (.d (.dct ks ds)))):=by
  intro W δ ks ds st h
  obtain⟨v,e,a,kvs,rfl,r2,r3,r4,r5,r6⟩:=st.at' i _ h
  have ok:=I.hok _ _ r4
  obtain⟨z,hS,vs,rel,dd⟩:=id ok
  obtain⟨o,es,ep,ho,_⟩:=dd
  exact⟨a,kvs,o,_,r4,λb z=>z.1,I.write (x:=a) (e:=a) (o:=.frz o (.dK kvs)) (h':=s.heap) (t':=s.toks) (by rw[r4];exact trivial) (.inl rfl) (λb' u hb hu=>hu) ⟨_,ho⟩ ⟨ho,ok⟩,st.frzQ o h e r2 r5 r6⟩
 cases sl with
 |q ks ds=>cases hv;exact main st hi
 |k t cs=>
  cases t with
  |dct ks=>
   unfold KP at hv
   dsimp only at hv
   split at hv
   .rename_i hL
    cases hv
    obtain⟨W',hw,st'⟩:=st.demoteQ hi hL
    have hl:i<δ.length:=(List.getElem?_eq_some_iff.mp hi).1
    obtain⟨a,kvs,o,W2,g1,g2,g3,g4⟩:=main st' (getElem?_set_self hl)
    rw[List.set_set]at g4
    exact⟨a,kvs,o,W2,g1,λb z=>hw b (g2 b z),g3,g4⟩
   .cases hv
  |_=>cases hv
 |_=>cases hv
theorem A3(i:Nat)(h:XE X xw e f):XE X xw e (Bu i f):=⟨λpins s σ H Q I ⟨W₀,H₀,W,δ,st,q⟩=>by
 unfold Bu at q
 split at q
 .rename_i sl hi
  split at q
  .rename_i d hv
   split at q
   .rename_i x hf
    split at q
    .rename_i fl
     obtain⟨a,kvs,o,W',ha,hw,I',st'⟩:=RJ I st hi hv
     refine thn (h.h pins s σ _ (λv H2=>Same (Ib H a (.frz o (.dK kvs))) H2/\Has X.K W' H2 x v) I' ⟨W₀,H₀,W',_,st',?_⟩) λu s' ⟨v,H2,I2,rv,k2,hx⟩=>?_
     .rw[hf]
      exact λv H2 k2 hx=>⟨k2,hx⟩
     .have h2:H2 a=some (.frz o (.dK kvs)):=k2 _ _ Ra
      refine⟨v,Ib H2 a (.dK kvs),I2.thaw h2 (λo u z=>by have:=I.base.frzs _ _ _ z;rw[ha]at this;cases this) (λxs z=>by have:=I.base.tups _ _ z;rw[ha]at this;cases this) (λps z=>by obtain⟨m,this⟩:=I.base.tbls _ _ z;rw[ha]at this;cases this),rv,q v _ (λb u e=>?_) (LL hx fl)⟩
      by_cases hb:b=a
      .rw[hb]at e ⊢;rw[Ra,<-ha];exact e
      .rw[Ea hb]
       exact k2 _ _ (by rw[Ea hb];exact e)
    .exact q.elim
   .exact q.elim
  .exact q.elim
 .exact q.elim⟩
end
end L3
namespace L3
open PySem PySem.Spec PyProof.Rows L2
variable{prog:Program}{w:World}{A:Around}{E:Value->Shared->Prop}{s:Shared}{z i1 i2:Addr}{k:Nat}
section
variable {TI TO:Addr}{f1 f2:List Addr}{n1 n2:Nat}{P1 P2:Nat->Value->Prop}{S1 S2:Nat->Heap->Prop}
end
structure ZN(z TI TO i1 i2 l1 l2 N:Addr):Prop where
 za:ZA z TI TO i1 i2 [i1,l1] [i2,l2]
 n1:l1≠i1
 n2:l2≠i2
 nz:N≠z
 nT:N≠TI
 nO:N≠TO
 m1:N≠i1
 m2:N≠i2
 k1:N≠l1
 k2:N≠l2
variable{l1 l2 N:Addr}{t1 t2:Bool}{xs ys:Array Value}
section
variable {TI TO:Addr}
end
structure ZG(xs ys:Array Value)(lo:Addr)(h:Heap)(as:List Addr):Prop where
 rise:as.Pairwise (· < ·)
 above:∀ a∈as,lo<a
 pairs:∀ (j:Nat) (a:Addr),as[j]? =some a->∃ x y,xs[j]? =some x/\ys[j]? =some y/\IsPair h a x y
section
variable {R:Result->Shared->Prop}{TI TO:Addr}
end
variable{X:Cx}{xw:XW}{a:Expr}{p2 pos:Pos}
section
variable {b:Expr}{fs:Ga->Res (List D)}{p pos2:Pos}
end
open SeqAt
variable{pos':Pos}
section
variable {p spos:Pos}{fa:Ga->Res D}
end
variable{e:Expr}
section
variable {f:Ga->Res Bool}
end
variable{x:Str}{p1 p3 p0:Pos}{a1 a2 a3:Expr}
section
variable {ie:Expr}{f fi:Ga->Res D}
def DZ:List Jd->Jd->Option Nat
 | [],_=>none
 |k::ks,x=>if k=x then some 0 else(DZ ks x).map (· +1)
theorem CF{α:Type}{x:Jd}:∀ {kvs:List (Jd×α)} {j:Nat},DZ (kvs.map (·.1)) x=some j->∃ v,Cp kvs x=some v/\(kvs.map (·.2))[j]? =some v
 | [],_,e=>by cases e
 |p::kvs,j,e=>by
  unfold DZ at e
  rw[map_cons]at e
  dsimp only at e
  by_cases hk:p.1=x
  .rw[if_pos hk]at e
   cases e
   exact⟨p.2,Ep hk,rfl⟩
  .rw[if_neg hk]at e
   cases h:DZ (kvs.map (·.1)) x with
   |none=>rw[h]at e;cases e
   |some i=>
    rw[h]at e
    cases e
    obtain⟨v,g1,g2⟩:=CF h
    exact⟨v,by rw[Dp hk];exact g1,by simpa using g2⟩
theorem QJ{σ:L2.St}{H:Hp}{W₀ W:WS}{H₀:Hp}{δ:Ga}{k:D->Out}{Dn:Ends}{R:V->Hp->Prop}(st:StHas X.K W₀ H₀ W H σ δ)(q:RS X.K xw W₀ H₀ W H (Wk (f δ) k) Dn)(h:∀ H2 d v,Same H H2->StHas X.K W₀ H₀ W H2 σ δ->Has X.K W H2 d v->RS X.K xw W₀ H₀ W H2 (k d) Dn->R v H2):BV X.K xw f σ H R:=by
 refine⟨W₀,H₀,W,δ,st,?_⟩
 cases h1:f δ with
 |stuck=>rw[h1]at q;exact q
 |ex c fs=>rw[h1]at q;exact λH' k'=>q H' (st.fr.ext.trans k')
 |ok d=>
  rw[h1]at q
  exact λv H2 k2 hv=>h H2 d v k2 (st.same k2) hv (RS.step (o:=k d) q (Step.same k2))
def B4(i:Nat)(f:Ga->Res D)(δ:Ga)(ks:List Jd)(cs:List Ch)(kd:D):Out:=match SS kd with
 |some k=>match DZ ks k with
  |some j=>match cs[j]? with
   |some (.l ds)=>if ds.length<=100000 then Wk (f δ) λd=>.nx (δ.set i (some (.k (.dct ks) (cs.set j (.l (ds++ [d])))))) else .stuck
   |_=>.stuck
  |none=>.stuck
 |none=>.stuck
def TF(i:Nat)(fi f:Ga->Res D):Ga->Out:=λδ=>match δ[i]? with
 |some (some (.k (.dct ks) cs))=>Wk (fi δ) (B4 i f δ ks cs)
 |_=>.stuck
theorem U1(i:Nat){p4:Pos}(hi:XE X xw ie fi)(he:XE X xw e f)(hs:Oh ie:=by intro _ _;rfl)(hN:X.N[i]? =some x:=by rfl)(hv:Jw X.env.scope x:=by first|exact Or.inl rfl|exact Or.inr (Or.inl rfl)|exact Or.inr (Or.inr rfl))(hd:(x==("__debug__":Str))=false:=by decide)(hcd:(x==("__classdict__":Str))=false:=by decide)(hsE:starEach [e] X.env=(false,eval e X.env)::starEach [] X.env:=by rfl)(hbase:attributeBase (.Subscript (.Name x p1) ie p4) "append" X.env (eval (.Subscript (.Name x p1) ie p4) X.env)=eval (.Subscript (.Name x p1) ie p4) X.env:=by rfl)(hfew:((backTo p3 (starEach [e] X.env)).all (λx=> !x.1)&&(backToKw p3 (keywordEach [] X.env)).all (λx=>x.1.isSome)
   &&decide (([e]:List Expr).length+([]:List Keyword).length+(if([]:List Keyword).isEmpty then 0 else 1)<30))=true:=by rfl)(hline:(p2.endLine==p3.line)=true:=by rfl)(hplain:(backTo p3 (starEach [] X.env)).any (·.1)=false:=by rfl)(hsw:swapsWith (.Call (.Attribute (.Subscript (.Name x p1) ie p4) "append" p2) [e] [] p3) none pos.line X.env=pure false:=by rfl):
  XS X xw (.Expr (.Call (.Attribute (.Subscript (.Name x p1) ie p4) "append" p2) [e] [] p3) pos) (TF i fi f):=
 ⟨PS.weak (Wo (Ft PySem.F.plainAttrs_list PySem.F.slot_list_append PySem.F.type_list_append Vp (MF (Fh hN hv hd hcd) hi.h hs) (Sd he.h Eh hsE) hbase hfew hline hsE hplain) hsw) λDn σ H ⟨W₀,H₀,W,δ,st,q⟩=>by
  unfold TF at q
  split at q
  .rename_i ks cs h
   obtain⟨v,e1,a,ob,rfl,_⟩:=st.at' i _ h
   refine⟨_,e1,?_⟩
   refine Fp st q λH2 kd y st2 hy q2=>?_
   unfold B4 at q2
   split at q2
   .rename_i k hk
    split at q2
    .rename_i j hj
     split at q2
     .rename_i ds hc
      split at q2
      .rename_i hlen
       obtain⟨v2,e2,a2,ob2,e',r1,r2,r3,r4,r5,r6⟩:=st2.at' i _ h
       rw[e1]at e2
       cases e2
       cases e'
       cases ob2 with
       |dK kvs=>
        have hks:kvs.map (·.1)=ks:=r2
        obtain⟨z,g1,g2⟩:=CF (kvs:=kvs) (by rw[hks];exact hj)
        obtain⟨b,xs,rfl,f1,f2,f3,f4⟩:=r6 j _ z hc g2
        refine⟨a,kvs,k,.ref b,rfl,.inl r1,Tz (.inl hy) hk,g1,.inl ⟨rfl,xs,.of f3⟩,?_⟩
        refine QJ st2 q2 λH3 d u k3 st3 hu q3=>?_
        have sz:sizeLine=16777216:=sizeLine_eq
        have f3':=k3 _ _ f3
        have f4':=HasL.keep (Same.keep k3) st2.fr.wl (λb z=>.inl z) f4
        refine⟨b,xs,u,rfl,rfl,f3',?_,?_⟩
        .rw[<-f4.length];omega
        .refine q3 W _ σ ⟨λc o e n=>?_,λ_ z=>.inl z⟩ (st3.innerK (c':=.l (ds++ [d])) h e1 (k3 _ _ r1) hc trivial g2 trivial trivial λh0 hw kk=>⟨b,xs++ [u],rfl,hw,h0,Ra,HasL.keep kk st3.fr.wl (λb z=>.inl z) (f4'.snoc hu)⟩)
         rw[Ea (λz=>n (by rw[z];exact f1))];exact e
       |_=>exact r2.elim
      .exact q2.elim
     .exact q2.elim
    .exact q2.elim
   .exact q2.elim
  .exact q.elim⟩
def Y8(t1 t2 t3:TE):TE:=λσ H Q=>∀ d,H d=none->t1 σ (Ib H d (.dK [])) λx1 H1=>∀ c1,H1 c1=none->t2 σ (Ib H1 c1 (.lst [])) λx2 H2=>∀ c2,H2 c2=none->t3 σ (Ib H2 c2 (.lst [])) λx3 H3=>∀ c3,H3 c3=none->
 ∃ k1 k2 k3,x1=kV k1/\x2=kV k2/\x3=kV k3/\k1≠k2/\k1≠k3/\k2≠k3/\Ib H3 c3 (.lst []) d=some (.dK [])/\Q (.ref d) (Ib (Ib H3 c3 (.lst [])) d (.dK [(k1,.ref c1),(k2,.ref c2),(k3,.ref c3)]))
theorem K0{t1 t2 t3:TE}(h1:PE X a1 t1)(h2:PE X a2 t2)(h3:PE X a3 t3):PE X (.Dict [some a1,some a2,some a3] [.List [] p1, .List [] p2, .List [] p3] p0) (Y8 t1 t2 t3):=by
 intro pins s σ H Q I h
 have big:sysModules<s.heap.objs.size:=by
  have h:mainGlobals<s.heap.objs.size:=(I.mod.glob.keeps I.bk).lt
  exact Nat.lt_trans (by decide) h
 refine wpAny_Dict_walk (knd:=Ef X.prog X.w) rfl rfl (by simp) (by simp) ?_
 have I0:=I.laid (a:=s.heap.objs.size) (o:=.dK []) (t':=s.toks) (λ_ _ q=>get?_push_of_some _ q) (le_refl _) (SK s.heap big)
 have nl:∀ {p:Pos},PE X (.List [] p) (C6 L2.tNil):=SN Eh
 refine pairTrees_cons_walk (thn (h1 pins _ σ _ _ I0 (h _ I.fresh)) λu1 s1 ⟨x1,H1,I1,r1,q1⟩=>thn (nl pins s1 σ H1 (λv H'=>∃ c,v=.ref c/\H1 c=none/\H'=Ib H1 c (.lst [])) I1 ⟨zero_le _,λc hc=>⟨c,rfl,hc,rfl⟩⟩) λw1 s1' ⟨y1,H1',I1',ry1,c1,e1,n1,g1⟩=>?_)
 subst e1 g1
 refine pairTrees_cons_walk (thn (h2 pins _ σ _ _ I1' (q1 c1 n1)) λu2 s2 ⟨x2,H2,I2,r2,q2⟩=>thn (nl pins s2 σ H2 (λv H'=>∃ c,v=.ref c/\H2 c=none/\H'=Ib H2 c (.lst [])) I2 ⟨zero_le _,λc hc=>⟨c,rfl,hc,rfl⟩⟩) λw2 s2' ⟨y2,H2',I2',ry2,c2,e2,n2,g2⟩=>?_)
 subst e2 g2
 refine pairTrees_cons_walk (thn (h3 pins _ σ _ _ I2' (q2 c2 n2)) λu3 s3 ⟨x3,H3,I3,r3,q3⟩=>thn (nl pins s3 σ H3 (λv H'=>∃ c,v=.ref c/\H3 c=none/\H'=Ib H3 c (.lst [])) I3 ⟨zero_le _,λc hc=>⟨c,rfl,hc,rfl⟩⟩) λw3 s3' ⟨y3,H3',I3',ry3,c3,e3,n3,g3⟩=>pairTrees_nil_walk ?_)
 subst e3 g3
 obtain⟨k1,k2,k3,rfl,rfl,rfl,k12,k13,k23,hd,q⟩:=q3 c3 n3
 obtain⟨_,hS,vs,rkv,dof⟩:=I3'.hok _ _ hd
 have hvs:vs= []:=by cases rkv;rfl
 subst hvs
 refine⟨[(k1,w1),(k2,w2),(k3,w3)],?_,dof,λh' hd' sb=>?_⟩
 .exact⟨Ur r1,rfl,Ur r2,rfl,Ur r3,rfl,trivial⟩
 .have em:merged ([]:List (Jd×Value)) [(k1,w1),(k2,w2),(k3,w3)]= [(k1,w1),(k2,w2),(k3,w3)]:=by
   exact merged_nil_of_nodup _ (by simp[k12,k13,k23])
  rw[em]at hd'
  obtain⟨o,es,ep,e,rr⟩:=id hd'
  refine⟨.ref _,_,I3'.write (x:=s.heap.objs.size) (e:=s.heap.objs.size) (by rw[hd];exact trivial) (.inl rfl) (λb' u hb hu=>(sb.2 b' hb).trans hu) ⟨_,e⟩ ?_,rfl,q⟩
  exact⟨by show 3<=sizeLine;rw[sizeLine_eq];decide,hS,_,.cons ⟨rfl,ry1⟩ (.cons ⟨rfl,ry2⟩ (.cons ⟨rfl,ry3⟩ .nil)),hd'⟩
def T1(i:Nat)(a b c:Str):Ga->Out:=λδ=>.nx (δ.set i (some (.k (.dct [.inr a,.inr b,.inr c]) [.l [],.l [],.l []])))
theorem T5(i:Nat){a b c:Str}(h1:XE X xw a1 (kD (.str a)))(h2:XE X xw a2 (kD (.str b)))(h3:XE X xw a3 (kD (.str c)))(hN:X.N.Nodup)(hab:a≠b:=by decide)(hac:a≠c:=by decide)(hbc:b≠c:=by decide)(hi:X.N[i]? =some x:=by rfl)(hx:UJ X.env.scope x:=by first|exact Or.inl rfl|exact Or.inr rfl)(hs:swapsWith (.Dict [some a1,some a2,some a3] [.List [] p1, .List [] p2, .List [] p3] p0) (some (.Name x pos')) pos.line X.env=pure false:=by rfl)(hf:X.fn x=true\/X.env.scope.names.lookup x=some .local:=by first|exact .inl rfl|exact .inr rfl|assumption):XS X xw (.Assign [.Name x pos'] (.Dict [some a1,some a2,some a3] [.List [] p1, .List [] p2, .List [] p3] p0) pos) (T1 i a b c):=
 ⟨PS.weak (AD hN hi hx (K0 h1.h h2.h h3.h) hs hf) λDn σ H ⟨W₀,H₀,W,δ,st,q⟩=>by
  intro d hd
  have k0:Same H (Ib H d (.dK [])):=Je hd
  refine⟨W₀,H₀,W,δ,st.same k0,λx1 H1 m1 hx1 c1 n1=>?_⟩
  have k1:Same H1 (Ib H1 c1 (.lst [])):=Je n1
  refine⟨W₀,H₀,W,δ,((st.same k0).same m1).same k1,λx2 H2 m2 hx2 c2 n2=>?_⟩
  have k2:Same H2 (Ib H2 c2 (.lst [])):=Je n2
  refine⟨W₀,H₀,W,δ,((((st.same k0).same m1).same k1).same m2).same k2,λx3 H3 m3 hx3 c3 n3=>?_⟩
  have k3:Same H3 (Ib H3 c3 (.lst [])):=Je n3
  rw[Has]at hx1 hx2 hx3
  have d1:H1 d=some (.dK []):=m1 _ _ Ra
  have d2:H2 d=some (.dK []):=m2 _ _ (k1 _ _ d1)
  have d3:H3 d=some (.dK []):=m3 _ _ (k2 _ _ d2)
  have b2:H2 c1=some (.lst []):=m2 _ _ Ra
  have b3:H3 c1=some (.lst []):=m3 _ _ (k2 _ _ b2)
  have g3:H3 c2=some (.lst []):=m3 _ _ Ra
  have s3:Same H H3:=k0.trans (m1.trans (k1.trans (m2.trans (k2.trans m3))))
  have nd1:c1≠d:=λz=>by rw[z,d1]at n1;cases n1
  have nd2:c2≠d:=λz=>by rw[z,d2]at n2;cases n2
  have nd3:c3≠d:=λz=>by rw[z,d3]at n3;cases n3
  have n12:c2≠c1:=λz=>by rw[z,b2]at n2;cases n2
  have n13:c3≠c1:=λz=>by rw[z,b3]at n3;cases n3
  have n23:c3≠c2:=λz=>by rw[z,g3]at n3;cases n3
  have f1:H c1=none:=Same.free (k0.trans m1) n1
  have f2:H c2=none:=Same.free (k0.trans (m1.trans (k1.trans m2))) n2
  have f3:H c3=none:=Same.free s3 n3
  refine⟨.inr a,.inr b,.inr c,hx1,hx2,hx3,λz=>hab (Sum.inr.inj z),λz=>hac (Sum.inr.inj z),λz=>hbc (Sum.inr.inj z),by rw[Ea (Ne.symm nd3)];exact d3,?_⟩
  generalize hH:Ib (Ib H3 c3 (.lst [])) d (.dK [(.inr a,.ref c1),(.inr b,.ref c2),(.inr c,.ref c3)])=H'
  have e0:H' d=some (.dK [(.inr a,.ref c1),(.inr b,.ref c2),(.inr c,.ref c3)]):=by rw[<-hH];exact Ra
  have e1:H' c1=some (.lst []):=by rw[<-hH,Ea nd1,Ea (Ne.symm n13)];exact b3
  have e2:H' c2=some (.lst []):=by rw[<-hH,Ea nd2,Ea (Ne.symm n23)];exact g3
  have e3:H' c3=some (.lst []):=by rw[<-hH,Ea nd3];exact Ra
  have kk:Same H H':=λy o e=>by
   rw[<-hH,Ea (Pa e hd)]
   exact k3 _ _ (s3 _ _ e)
  clear hH
  have q':RS X.K xw W₀ H₀ W H (.nx (δ.set i (some (.k (.dct [.inr a,.inr b,.inr c]) [.l [],.l [],.l []])))) Dn:=q
  have ow:∀ y,Owns H' (.k (.dct [.inr a,.inr b,.inr c]) [.l [],.l [],.l []]) (.ref d) y->y=d\/y=c1\/y=c2\/y=c3:=λy o=>by
   rcases o with⟨_,o⟩|⟨a',ob,j,ch,z,g,z1,_,z2⟩
   .cases o;exact .inl rfl
   .cases z
    rw[e0]at g
    cases g
    match j with
    |0=>cases z2;exact .inr (.inl rfl)
    |1=>cases z2;exact .inr (.inr (.inl rfl))
    |2=>cases z2;exact .inr (.inr (.inr rfl))
    |j+3=>cases z2
  have nn:∀ y,(y=d\/y=c1\/y=c2\/y=c3)->H y=none/\∃ ob,H' y=some ob/\Do ob:=λy hy=>by
   rcases hy with rfl|rfl|rfl|rfl
   .exact⟨hd,_,e0,trivial⟩
   .exact⟨f1,_,e1,trivial⟩
   .exact⟨f2,_,e2,trivial⟩
   .exact⟨f3,_,e3,trivial⟩
  have st1:=st.ownS (i:=i) (a:=d) (sl:=.k (.dct [.inr a,.inr b,.inr c]) [.l [],.l [],.l []]) (N:=λy=>y=d\/y=c1\/y=c2\/y=c3) kk nn ⟨d,_,rfl,e0,rfl,λ_=>⟨.inr (.inl rfl),Same.free st.fr.ext hd⟩,rfl,?_,?_⟩ (λy o=>(nn y (ow y o)).1)
  .exact q' _ _ _ ⟨λy o e _=>kk _ _ e,λy z=>z.elim .inl λz=>.inr (nn y z).1⟩ st1
  .intro j ch y z1 _ z2
   have key:∀ (j:Nat) (y:Addr),(RH (.dK [(.inr a,.ref c1),(.inr b,.ref c2),(.inr c,.ref c3)]))[j]? =some (.ref y)->(j=0/\y=c1)\/(j=1/\y=c2)\/(j=2/\y=c3):=λj y z=>by
    match j with
    |0=>cases z;exact .inl ⟨rfl,rfl⟩
    |1=>cases z;exact .inr (.inl ⟨rfl,rfl⟩)
    |2=>cases z;exact .inr (.inr ⟨rfl,rfl⟩)
    |j+3=>cases z
   refine⟨?_,λm ch' hm _ _ z3=>?_⟩
   .rcases key j y z2 with⟨_,rfl⟩|⟨_,rfl⟩|⟨_,rfl⟩<;>assumption
   .rcases key j y z2 with⟨rfl,rfl⟩|⟨rfl,rfl⟩|⟨rfl,rfl⟩<;>rcases key m _ z3 with⟨rfl,z⟩|⟨rfl,z⟩|⟨rfl,z⟩<;>first|exact hm rfl|exact absurd z (by assumption)|exact absurd z.symm (by assumption)
  .intro j ch y z1 z2
   match j with
   |0=>cases z1;cases z2;exact⟨c1,[],rfl,.inr (.inr (.inl rfl)),Same.free st.fr.ext f1,e1,HasL.nil⟩
   |1=>cases z1;cases z2;exact⟨c2,[],rfl,.inr (.inr (.inr (.inl rfl))),Same.free st.fr.ext f2,e2,HasL.nil⟩
   |2=>cases z1;cases z2;exact⟨c3,[],rfl,.inr (.inr (.inr (.inr rfl))),Same.free st.fr.ext f3,e3,HasL.nil⟩
   |j+3=>cases z1⟩
def qK(i:Nat)(δ:Ga):Ga:=match δ[i]? with
 |some (some (.k (.dct ks) cs))=>if cs.all Z7=true then δ.set i (some (.q ks (cs.map Z6))) else δ
 |_=>δ
def HW(i:Nat)(g:Ga->Out):Ga->Out:=λδ=>SU i g (qK i δ)
theorem V1(i:Nat){st:Stmt}{g:Ga->Out}(h:XS X xw st g):XS X xw st (HW i g):=⟨λpins s σ H Dn I ⟨W₀,H₀,W,δ,st,q⟩=>(U5 i h).h pins s σ H Dn I (by
 have q':RS X.K xw W₀ H₀ W H (SU i g (qK i δ)) Dn:=q
 unfold qK at q'
 split at q'
 .rename_i ks cs h
  split at q'
  .rename_i hL
   obtain⟨W',k,st2⟩:=st.demoteQ h hL
   exact⟨W₀,H₀,W',_,st2,RS.less k q'⟩
  .exact⟨W₀,H₀,W,δ,st,q'⟩
 .exact⟨W₀,H₀,W,δ,st,q'⟩)⟩
end
end L3
namespace L3
open PySem PySem.Spec PyProof.Rows L2
theorem KH(t:Bool)(l:Addr)(xs:Array Value)(tk:Tok):Meets (Builtin.«enumerate.__new__» ⟨[.type "enumerate",.ref l],[("start",.int 1 tk)]⟩) (λ_ R s=>IsSq t s.heap l xs/\R (.ok (.ret (.ref (O4 t s.heap l).objs.size))) {s with heap:=(O4 t s.heap l).push {cls:=.type "enumerate",data:=.fields #[.none,.bool false,.ref s.heap.objs.size,rawInt 1,.none,.none]}}):=
 .of_wp λprog w A R s h=>by
  obtain⟨hp,g,d,tk,os⟩:=s;obtain⟨q,h⟩:=h
  have hsub:=sub_enumerate
  have e1:IsSq t (Shared.heap ⟨hp,g,d,tk,os⟩) l xs:=q
  wp_walk
  refine wpAny_stack_any λst=>wpAny_pure ?_
  split
  .rename_i c _ _ _ _ _
   cases (c==Value.type "enumerate")
   .wp_walk using Py e1
    exact⟨_,rfl,h⟩
   .wp_walk using Py e1
    exact⟨_,rfl,h⟩
  .wp_walk using Py e1
   exact⟨_,rfl,h⟩
variable{a:Value}
theorem AC{self k:Value}:Meets (Builtin.«object.__init__» ⟨[self,a],[("start",k)]⟩) (λ_ R s=>s.TypeIs self "enumerate"/\R (.ok (.ret .none)) s):=by
 have hl:=F.called_enumerate.init.lookup
 have hm:=F.called_enumerate.made
 have hne:(some "enumerate.__new__" != some "object.__new__")=true:=by decide
 refine Meets.of_wp λprog w A R s ⟨hT,hq⟩=>?_
 repeat (any_goals (first|wp_step|assumption))
 exact⟨_,rfl,hq⟩
variable{prog:Program}{w:World}{A:Around}{E Q:Value->Shared->Prop}{s:Shared}
theorem BC{v:Value}{S:PySem.Spec}(g:Meets (Builtin.«enumerate.__new__» ⟨[.type "enumerate",a],[("start",v)]⟩) S)(h:S A.in1 (wants (λobj s₁=>s₁.TypeIs obj "enumerate"/\Q obj s₁) E) s):
  wpAny (model prog w) A (call (.type "enumerate") [a] [("start",v)]) Q E s:=by
 have ft:=F.called_enumerate
 obtain⟨c,tl,m1⟩:=ft.mro
 have m2:=ft.made;have m3:=ft.sub;have m4:=ft.notType;have m5:=ft.canCreate
 have m6:checkTypeCall "enumerate" ⟨[a],[("start",v)]⟩=pure ():=by kernel_rfl
 have m7:checkBuiltinCall "enumerate.__new__" ⟨[.type "enumerate",a],[("start",v)]⟩=pure ():=by kernel_rfl
 refine wpAny_call (codeAny_of_tree (show wpAny _ _ (callAny (.type "enumerate") _) _ _ _ from wpAny_pure ⟨Code.quiet_builtin _ (by decide +kernel),codeAny_builtin F.entry_type_call ?_⟩))
 rw[Around.under_plain (weight_type_call_type "enumerate" [a] [("start",v)]) (units_type_call_type "enumerate" [a] [("start",v)])]
 repeat (any_goals (first|wp_step|assumption))
 refine codeAny_mono (codeAny_call_builtin ft.plain F.entry_enumerate_new (wpAny_of_eq m7 (g prog w A.in1 _ s h))) λr s1 hr=>?_
 cases r with
 |error e=>exact hr
 |ok fl=>
  cases fl with
  |ret obj=>
   obtain⟨hT,hQ⟩:=hr
   have m8:=ft.init.lookup;have m9:=ft.init.bind obj
   have ok:argsOk "object.__init__" ⟨[obj,a],[("start",v)]⟩:=by first|exact F.args_object_init_kw|kernel_rfl|(intro _ _;kernel_rfl)|decide +kernel
   repeat (any_goals (first|wp_step|assumption))
   refine codeAny_mono (codeAny_call_builtin ft.init.plain F.entry_object_init (ft.init.check _ _ _ _ _ _ _ _ hT ok (AC prog w A.in1 (wants (λr s2=>r=.none/\Q obj s2) E) s1 ⟨hT,rfl,hQ⟩))) λr2 s2 hr2=>?_
   cases r2 with
   |error e=>exact hr2
   |ok f2=>
    cases f2 with
    |ret z=>
     obtain⟨rfl,hq⟩:=hr2
     repeat (any_goals (first|wp_step|assumption))
    |_=>exact hr2.elim
  |_=>exact hr.elim
def P3(K : Frag)(t : Bool)(l : Addr) : It :=
  ⟨λi H => ∃ xs x, WV t K H l xs /\ xs[i]? = some x,
   λi H v H' => ∃ p x, v = .ref p /\ H p = none /\ H' = Ib H p (.tup [.int ((i + 1 : Nat) : Int), x]) /\ ∀ xs, WV t K H l xs -> xs[i]? = some x,
   λi H => ∃ xs, WV t K H l xs /\ i = xs.length⟩
variable{it:Addr}{n:Nat}
theorem UK{fp:List Addr}{P:Nat->Value->Prop}{St:Nat->Heap->Prop}(D:Draws prog w A it fp n P St):
  Draws prog w A it fp (n+1) (λi x=>P (i-1) x) (λi h=>∃ j,i=j+1/\St j h) where
 live:=λi h ⟨j,_,z⟩=>D.live j h z
 frame:=λi h h' ⟨j,e,z⟩ k=>⟨j,e,D.frame j h h' z k⟩
 item:=λi s Q E hi ⟨j,e,z⟩ hQ=>by
  subst e
  exact D.item j s Q E (by omega) z λx h' tk px st sb=>hQ x h' tk px ⟨j+1,rfl,st⟩ sb
 done:=λs Q E ⟨j,e,z⟩ hE=>by
  have:n=j:=by omega
  subst this
  exact D.done s Q E z hE
variable{l:Addr}
theorem ZB{t:Bool}{xs:Array Value}{tk:Tok}(q:IsSq t s.heap l xs)(h:∀ n h',n=s.heap.objs.size->IsEnum h' (n+1) n ((0+1:Nat):Int) .none->SqI t h' n l 0->(∀ c o,s.heap.get? c=some o->h'.get? c=some o)->Q (.ref (n+1)) {s with heap:=h'}):
  wpAny (model prog w) A (call (.type "enumerate") [.ref l] [("start",.int 1 tk)]) Q E s:=by
 refine BC (KH t l xs tk) ⟨q,?_⟩
 have z1:(O4 t s.heap l).objs.size=s.heap.objs.size+1:=size_push ..
 have g2:=get?_push_size (O4 t s.heap l) (o:= {cls:=.type "enumerate",data:=.fields #[.none,.bool false,.ref s.heap.objs.size,rawInt 1,.none,.none]}) rfl
 have f1:(D7 t l).isFreed=false:=by cases t<;>rfl
 have g1:((O4 t s.heap l).push {cls:=.type "enumerate",data:=.fields #[.none,.bool false,.ref s.heap.objs.size,rawInt 1,.none,.none]}).get? s.heap.objs.size=some (D7 t l):=get?_push_of_some _ (get?_push_size _ f1)
 show _/\_
 rw[z1]at g2 ⊢
 refine⟨⟨_,g2,rfl⟩,h _ _ rfl g2 ?_ λc o e=>get?_push_of_some _ (get?_push_of_some _ e)⟩
 cases t with
 |true=>exact⟨_,g1,rfl,rfl⟩
 |false=>exact⟨_,g1,rfl,rfl⟩
variable{P:Program}{elts:List Expr}{kt:Nat}
theorem RD{K:Frag}{pt:Pos}{t:Bool}{e:Addr}(n1:l≠it)(n2:e≠it)(n3:e≠l):
  Turn P w K (.Tuple elts kt pt) (P3 K t l) [e,it] e (λi h=>(∃ old,IsEnum h e it ((i+1:Nat):Int) old)/\SqI t h it l i) where
 mem:=by simp
 obj:=λi h st b hb=>by
  obtain⟨⟨old,he⟩,s1⟩:=st
  simp only[mem_cons,not_mem_nil,or_false]at hb
  rcases hb with rfl|rfl
  .exact⟨_,he,λv q=>nomatch q⟩
  .obtain⟨o,vs,e,d⟩:=s1.rec
   exact⟨o,e,λv q=>by rw[d]at q;cases q⟩
 keep:=λi h h' st k=>by
  obtain⟨⟨old,he⟩,s1⟩:=st
  exact⟨⟨old,k e (by simp) _ he⟩,s1.at' λo q=>k it (by simp) o q⟩
 item:=by
  intro X hP hw hK hc i pins s σ H E I hf st hg
  subst hP hw hK
  obtain⟨⟨old,he⟩,s1⟩:=st
  obtain⟨xs,x,q1,e1⟩:=hg
  obtain⟨it1,r1,p1,_⟩:=JC I q1
  obtain⟨u1,hu1,ru1⟩:=r1.get e1
  have hef:e∉ [it,l]:=by simp only[mem_cons,not_mem_nil,or_false,not_or];exact⟨n2,n3⟩
  have hlt:i<it1.toArray.size:=by
   rcases Nat.lt_or_ge i it1.length with z|z
   .simpa using z
   .rw[List.getElem?_eq_none z]at hu1;cases hu1
  refine wpAny_pyNext_enum_itemD (UK (TK (show X.A.in1.handled=none from I.ok.hd hc) t it l n1 it1.toArray)) he ⟨i,rfl,s1,p1⟩ (Nat.succ_lt_succ hlt) n2 hef λx' h1 tk px eo st1 nw sz kk=>⟨_,rfl,?_⟩
  have px':it1[i]? =some x':=by simpa using px
  rw[hu1]at px';cases px'
  refine wpAny_letOwnedTupleGo_enum (s:= {s with heap:=h1,toks:=tk+1}) eo λh2 e2 c2=>?_
  have le:e<s.heap.objs.size:=lt_size he
  have lit:it<s.heap.objs.size:=by obtain⟨o,_,q,_⟩:=s1.rec;exact lt_size q
  have up:∀ b o,b≠e->h1.get? b=some o->h2.get? b=some o:=λb o ne q=>c2.extBut _ _ ne q
  obtain⟨j,ej,st2⟩:=st1
  have:j=i+1:=by omega
  subst this
  refine⟨.ref s.heap.objs.size,Ib H s.heap.objs.size (.tup [.int ((i+1:Nat):Int),x]),?_,rfl,⟨_,x,rfl,I.hok.fresh (le_refl _),rfl,λzs hs=>by rw[KC I hs q1];exact e1⟩,⟨⟨_,e2⟩,st2.1.at' λo q=>up _ _ (Ne.symm n2) q⟩,λb hb=>?_⟩
  .show Inv X pins σ (Ib H s.heap.objs.size (.tup [.int ((i+1:Nat):Int),x])) {s with heap:=h2,toks:=tk+1}
   refine SH (ch:= [e,it]) (t':=tk+1) I hf (λb o hb q=>?_) (le_refl _) (.cons (by exact⟨tk,rfl⟩) (.cons ru1 .nil)) (show(2:Nat)<=sizeLine by rw[sizeLine_eq];decide) ⟨_,up _ _ (ne_of_gt le) nw,rfl,_,rfl⟩
   simp only[mem_cons,not_mem_nil,or_false,not_or]at hb
   exact up _ _ hb.1 (kk b o hb.1 hb.2 q)
  .have hb1:=(hf b hb).1
   have:b<s.heap.objs.size:=by
    simp only[mem_cons,not_mem_nil,or_false]at hb
    rcases hb with rfl|rfl
    .exact le
    .exact lit
   rw[Ea (ne_of_lt this)];exact hb1
 done:=by
  intro X hP hw hK hc i pins s σ H E I hf st hg
  subst hP hw hK
  obtain⟨⟨old,he⟩,s1⟩:=st
  obtain⟨xs,q1,rfl⟩:=hg
  obtain⟨it1,r1,p1,_⟩:=JC I q1
  have hsz:xs.length=it1.toArray.size:=by simp[r1.length]
  rw[hsz]at s1 he
  refine wpAny_pyNext_enum_endD (TK (show X.A.in1.handled=none from I.ok.hd hc) t it l n1 it1.toArray) he ⟨s1,p1⟩ λh1 k=>⟨rfl,?_⟩
  refine TH (ch:= [e,it]) (t':=s.toks) I hf λb o hb q=>?_
  simp only[mem_cons,not_mem_nil,or_false,not_or]at hb
  exact k b o hb.2 q
 self:=λ_ _ _ _ _ st h=>let ⟨⟨_,he⟩,_⟩:=st;wpAny_pyIter_enum he h
variable{a b:Expr}{X:Cx}{xw:XW}{pos:Pos}
section
variable {pt p kp:Pos}{fs:Ga->Res (List D)}
def RY(K:Frag)(ta:TA):TI:=λσ H R=>ta σ H λvs H1=>∃ t l xs,vs= [.ref l]/\WV t K H1 l xs/\R (P3 K t l) H1
theorem WN{ta:TA}(hg:Gl X "enumerate")(hm:X.mg "enumerate"=none)(ha:PA X [a] ta)(hb:PE X b (tC (.int 1)))(hs:starEach [a] X.env= [(false,eval a X.env)])(he:eval (.Call (.Name "enumerate" p) [a] [⟨some "start",b,kp⟩] pos) X.env=(do callWith pos (<-eval (.Name "enumerate" p) X.env) [] (backTo pos (starEach [a] X.env)) (backToKw pos (keywordEach [⟨some "start",b,kp⟩] X.env))):=by rfl)(hk:keywordEach [⟨some "start",b,kp⟩] X.env= [(some ("start":Str),eval b X.env)]:=by rfl):
  PI X (.Tuple elts kt pt) (.Call (.Name "enumerate" p) [a] [⟨some "start",b,kp⟩] pos) (RY X.K ta):=by
 intro pins s σ H R I h
 rw[he,hk]
 refine wpAny_bind (Sn I hg hm (show bootBuiltins "enumerate"=some (.type "enumerate") by decide +kernel) ?_)
 refine PySem.W.callWith_of (P:=λ_=>True) ?_ (λh _=>⟨.machine,.inr (.inl rfl),.now⟩) ?_
 .rw[hs];rfl
 .rw[hs]
  refine evalArgs_kw (by rfl) ?_
  have ha':=ha pos pins s σ H _ I h
  rw[hs]at ha'
  refine thn ha' λus s1 ⟨vs,H1,I1,r1,t,l,xs,e,q1,q⟩=>?_
  subst e
  obtain⟨u1,rfl,ru1⟩:=r1.one
  cases (show u1=Value.ref l from ru1)
  refine wpAny_evalAll_cons (wpAny_bind (thn (hb pins s1 σ H1 (λv H'=>v=.int 1/\H'=H1) I1 ⟨rfl,rfl⟩) λu s2 ⟨v,H2,I2,rv,ev,eh⟩=>wpAny_bind (wpAny_standAt (wpAny_pure (wpAny_evalAll_nil ⟨trivial,?_⟩)))))
  subst ev eh
  obtain⟨tk,rfl⟩:=rv
  obtain⟨it1,v1,p1,_⟩:=JC I2 q1
  have a1:=p1.lt
  refine ZB p1 λn h' hn he s1' kk=>wpAny_pyIter_enum he ?_
  subst hn
  have J:Inv X pins σ H2 {s2 with heap:=h'}:=I2.kept (t':=s2.toks) λc o e=>kk c o e
  refine⟨s2.heap.objs.size+1,[s2.heap.objs.size+1,s2.heap.objs.size],_,_,H2,rfl,J,RD (t:=t) (ne_of_lt a1) (ne_of_gt (Nat.lt_succ_self _)) (ne_of_gt (Nat.lt_succ_of_lt a1)),⟨⟨_,he⟩,s1'⟩,λc hc=>?_,q⟩
  have hcs:s2.heap.objs.size<=c:=by
   simp only[mem_cons,not_mem_nil,or_false]at hc
   rcases hc with rfl|rfl
   .exact le_succ _
   .exact le_refl _
  exact I2.fpOk hcs (I2.hok.fresh hcs)
def Ds(ds:List D):Res (List D):=match ds with
 | [x]=>match DM x with
  |some xs=>.ok (Sf 1 xs)
  |_=>.stuck
 |_=>.stuck
theorem GS{elts:List Expr}{kt:Nat}{pt:Pos}{fs:Ga->Res (List D)}(hm:X.mg "enumerate"=none)(ha:XA X xw [a] fs)(hb:PE X b (tC (.int 1)):=by exact QN)(hg:Gl X "enumerate":=by rfl)(hs:starEach [a] X.env= [(false,eval a X.env)]:=by rfl)(he:eval (.Call (.Name "enumerate" p) [a] [⟨some "start",b,kp⟩] pos) X.env=(do callWith pos (<-eval (.Name "enumerate" p) X.env) [] (backTo pos (starEach [a] X.env)) (backToKw pos (keywordEach [⟨some "start",b,kp⟩] X.env))):=by rfl)(hk:keywordEach [⟨some "start",b,kp⟩] X.env= [(some ("start":Str),eval b X.env)]:=by rfl):
  XI X xw (.Tuple elts kt pt) (.Call (.Name "enumerate" p) [a] [⟨some "start",b,kp⟩] pos) (b1 Ds fs):=
 ⟨PI.weak (WN hg hm ha.h hb hs he hk) λσ H R ⟨W₀,H₀,W,δ,st,q⟩=>by
  refine⟨W₀,H₀,W,δ,st,?_⟩
  simp only[b1]at q
  cases h1:fs δ with
  |stuck=>rw[h1]at q;exact q
  |ex c gs=>rw[h1]at q;exact q
  |ok ds=>
   rw[h1]at q
   intro vs H1 k1 hv
   dsimp only[Res.bind]at q
   unfold Ds at q
   split at q
   .rename_i ds' hq
    split at hq
    .rename_i x
     split at hq
     .rename_i xs ex
      have e':Sf 1 xs=ds':=by cases hq;rfl
      subst e'
      rw[HasL]at hv
      obtain⟨v1,r1,rfl,g1,hv⟩:=hv
      rw[HasL]at hv
      subst hv
      have w1:=st.fr.wl.same k1
      obtain⟨t1,l1,xs1,rfl,r1,f1⟩:=M2 w1 g1 ex
      refine⟨t1,l1,xs1,rfl,f1 W H1 Step.refl,q _ H1 k1 λW' H2 k2 w2=>?_⟩
      have c1:=f1 W' H2 k2
      refine⟨λi d e=>?_,xs1,c1,by rw[Gv,r1.length]⟩
      obtain⟨x0,e1,rfl⟩:=Fv e
      obtain⟨x1,o1,hx1⟩:=r1.get e1
      refine⟨⟨xs1,x1,c1,o1⟩,λu H3 ⟨p0,x2,e2,hp,e3,z1⟩=>?_⟩
      subst e2 e3
      have:=z1 xs1 c1
      rw[o1]at this;cases this
      refine⟨Je hp,?_⟩
      rw[Has]
      have hx2:=(Has.keep k2.keep w1 k2.new hx1).same (Je (o:=.tup [.int ((i+1:Nat):Int),x1]) hp) w2
      refine⟨p0,[.int ((i+1:Nat):Int),x1],rfl,.of Ra,HasL.cons ?_ (HasL.cons hx2 HasL.nil)⟩
      rw[Has,Nat.add_comm]
     .cases hq
    .cases hq
   .rename_i hq
    split at hq
    .split at hq<;>cases hq
    .cases hq
   .exact q.elim⟩
end
open SeqAt
variable{α:Type}{ad:Addr}{es:Array DictEntry}{x:Str}
section
variable {p p2 apos cpos:Pos}{e o:Expr}{f fa fb:Ga->Res D}{fs:Ga->Res (List D)}
def PU:V->List V->Hp->VK->Prop:=λx vs H Q=>∃ z y,x=.str z/\vs= [.str y]/\Q (.bl (PySem.Txt.startswith z y)) H
theorem CI:UV X "str.startswith" PU:=by
 intro pins s σ H x vs v us Q I rx rv h
 obtain⟨z,y,rfl,rfl,q⟩:=h
 obtain⟨t,rfl⟩:=rx
 obtain⟨u',rfl,ru⟩:=rv.one
 obtain⟨u,rfl⟩:=ru
 exact PySem.SC.startswith ⟨.bl _,H,I,rfl,q⟩
def Nk(z:Str):List D->Res D
 | [.str y]=>.ok (.bl (PySem.Txt.startswith z y))
 |_=>.stuck
theorem QP(ho:XE X xw o f)(ha:XA X xw [e] fs)(hbase:attributeBase o "startswith" X.env (eval o X.env)=eval o X.env:=by rfl)(hfew:((backTo cpos (starEach [e] X.env)).all (λx=> !x.1)&&(backToKw cpos (keywordEach [] X.env)).all (λx=>x.1.isSome)
   &&decide (([e]:List Expr).length+([]:List Keyword).length+(if([]:List Keyword).isEmpty then 0 else 1)<30))=true:=by rfl)(hline:(apos.endLine==cpos.line)=true:=by rfl)(hs:starEach [e] X.env=(false,eval e X.env)::starEach [] X.env:=by rfl)(hplain:(backTo cpos (starEach [] X.env)).any (·.1)=false:=by rfl):
  XE X xw (.Call (.Attribute o "startswith" apos) [e] [] cpos) (bM Nk f fs):=
 ⟨PE.weak (Ft (T:="str") F.plainAttrs_str F.slot_str_startswith F.type_str_startswith CI ho.h ha.h hbase hfew hline hs hplain) λσ H Q ⟨W₀,H₀,W,δ,st,q⟩=>by
  unfold bM at q
  refine⟨W₀,H₀,W,δ,st,?_⟩
  cases h1:f δ with
  |stuck=>rw[h1]at q;exact q
  |ex c fs=>rw[h1]at q;exact q
  |ok d=>
   rw[h1]at q
   intro v H1 k1 hv
   cases d with
   |str z=>
    rw[Has]at hv
    subst hv
    have q':RE X.K xw W H ((fs δ).bind (Nk z)) Q:=q
    refine⟨rfl,W₀,H₀,W,δ,st.same k1,?_⟩
    cases h2:fs δ with
    |stuck=>rw[h2]at q';exact q'
    |ex c gs=>rw[h2]at q';exact λH2 k2=>q' H2 (k1.trans k2)
    |ok ds=>
     rw[h2]at q'
     intro vs H2 k2 hvs
     have q2:RE X.K xw W H (Nk z ds) Q:=q'
     unfold Nk at q2
     split at q2
     .rename_i y
      rw[HasL]at hvs
      obtain⟨y',r,rfl,hy,hr⟩:=hvs
      rw[HasL]at hr
      rw[Has]at hy
      subst hr hy
      exact⟨z,y,rfl,rfl,q2 _ H2 (k1.trans k2) (by rw[Has])⟩
     .exact q2.elim
   |_=>exact q.elim⟩
def WJ(w:World)(R:Value->α->Prop)(e:DictEntry)(p:Str×α):Prop:=e.hash=GZ w (.inr p.1)/\(∃ t,e.key=.str p.1 t)/\R e.val p.2
theorem Zt{α:Type}{R:Value->α->Prop}{P:Program}{w:World}:∀ {es:List DictEntry} {l:List (Str×α)},Paired (WJ w R) es l->∃ vs:List (Jd×Value),Pairs (Ef P w) es vs/\vs.map (·.1)=l.map (λp=>Sum.inr p.1)/\
  (∀ k,match l.lookup k with|some v=>∃ u,valueAt vs (.inr k)=some u/\R u v|none=>valueAt vs (.inr k)=none)/\∀ e∈es,∃ k,(Ef P w).is k e.key=true/\e.hash=(Ef P w).hash k
 | [],_,h=>by
  cases h
  exact⟨[],.nil,rfl,λk=>rfl,λe he=>by simp at he⟩
 |e::es,_,h=>by
  cases h with
  |@cons _ p _ l h1 h2=>
   obtain⟨vs,g1,g2,g3,g4⟩:=Zt (P:=P) h2
   obtain⟨k1,⟨t,k2⟩,k3⟩:=h1
   have hk:(Ef P w).is (.inr p.1) e.key=true:=by rw[k2];exact Uq P w _ _
   refine⟨(.inr p.1,e.val)::vs,.cons hk rfl g1,by rw[map_cons,map_cons,g2],λk=>?_,λe' he=>?_⟩
   .rw[show p=(p.1,p.2) from rfl,lookup_cons]
    cases hb:k==p.1 with
    |true=>
     have:=eq_of_beq hb
     subst this
     exact⟨e.val,by simp[valueAt,find?_cons],k3⟩
    |false=>
     have ne:¬ p.1=k:=λz=>by rw[z]at hb;simp at hb
     have ev:valueAt ((Sum.inr p.1,e.val)::vs) (Sum.inr k:Jd)=valueAt vs (.inr k):=by simp[valueAt,find?_cons,ne]
     rw[ev]
     exact g3 k
   .rcases mem_cons.mp he with rfl|he
    .exact⟨_,hk,k1⟩
    .exact g4 e' he
structure GlobG{α:Type}(R:Value->α->Prop)(w:World)(K:Frag)(mg:Str->Option Value)(x:Str)(l:List (Str×α)):Prop where
 h:∃ (ad:Addr) (o:Obj) (es:Array DictEntry) (n:Nat),mg x=some (.ref ad)/\K.lookup ad=some o/\o.ExactDict/\o.data=.dict es n/\Paired (WJ w R) es.toList l/\(l.map (·.1)).Nodup/\(ad==sysModules)=false
theorem Mz{R:Value->α->Prop}{l:List (Str×α)}{o:Obj}{hp:Heap}(hx:hp.get? ad=some o)(h3:o.ExactDict)(h4:o.data=.dict es n)(h5:Paired (WJ w R) es.toList l)(h6:(l.map (·.1)).Nodup):
  ∃ vs,hp.DictOf (Ef P w) ad vs/\∀ k,match l.lookup k with|some v=>∃ u,valueAt vs (.inr k)=some u/\R u v|none=>valueAt vs (.inr k)=none:=by
 obtain⟨vs,g1,g2,g3,g4⟩:=Zt (P:=P) h5
 refine⟨vs,⟨o,es,n,hx,h3,h4,λe he=>g4 e (Array.mem_toList_iff.mpr he),g1,?_⟩,g3⟩
 rw[g2,show(l.map (λp=>(Sum.inr p.1:Jd)))=(l.map (·.1)).map Sum.inr by rw[map_map];rfl]
 exact List.Pairwise.map _ (λ_ _ h z=>h (Sum.inr.inj z)) h6
def Ws(l:List (Str×α)):D->Res D
 | .str k=>.ok (.bl (!(l.lookup k).isSome))
 |_=>.stuck
theorem ST{R:Value->α->Prop}{l:List (Str×α)}{o:Obj}(h2:X.K.lookup ad=some o)(h3:o.ExactDict)(h4:o.data=.dict es n)(h5:Paired (WJ X.w R) es.toList l)(h6:(l.map (·.1)).Nodup)(h7:(ad==sysModules)=false):
  OpR X (compareOp .NotIn) (λy x H Q=>∃ k,x=.ref ad/\y=.str k/\Q (.bl (!(l.lookup k).isSome)) H):=by
 intro pins s σ H y x u v Q I ry rx h
 obtain⟨k,rfl,rfl,q⟩:=h
 cases rx
 obtain⟨vs,dd,g⟩:=Mz (P:=X.prog) (I.kIn ad o h2) h3 h4 h5 h6
 refine wpAny_notIn_of (NC (k:=.inr k) ry) h7 dd.mapOf ⟨.bl (!(l.lookup k).isSome),H,I.tok _,?_,q⟩
 have:=g k
 cases hl:l.lookup k with
 |none=>rw[hl]at this;rw[this];rfl
 |some v=>rw[hl]at this;obtain⟨u,e,_⟩:=this;rw[e];rfl
theorem C3{R:Value->α->Prop}{l:List (Str×α)}(hm:GlobG R X.w X.K X.mg x l)(ha:XP X xw a fa)(hmk:behindInMarks .NotIn (.Name x p)=false:=by rfl)(hg:Gl X x:=by rfl)(hdb:(x==("__debug__":Str))=false:=by decide):
  XT X xw (.Compare a [.NotIn] [.Name x p] pos) (tR (b1 (Ws l) fa)):=⟨by
 obtain⟨ad,o,es,n,h1,h2,h3,h4,h5,h6,h7⟩:=hm.h
 refine DE.t_of (f:=b1 (Ws l) fa) (PT.weak (Ay (ST h2 h3 h4 h5 h6 h7) ha.h (Tr (v:=.ref ad) hg h1 rfl hdb) hmk) λσ H Q ⟨W₀,H₀,W,δ,st,q⟩=>?_)
 show IJ X.K xw fa σ H _
 refine Rg st q λH2 d v k w st2 hv _ q2=>?_
 unfold Ws at q2
 cases d with
 |str k=>rw[hv.str];exact⟨k,rfl,rfl,q2 _ _ (Same.refl _) (by rw[Has])⟩
 |_=>exact q2.elim⟩
def Bq(dd:α->D)(l:List (Str×α)):D->Res D
 | .str k=>match l.lookup k with
  |some v=>.ok (dd v)
  |none=>.stuck
 |_=>.stuck
def N5(K:Frag)(ad:Addr)(dd:α->D)(l:List (Str×α)):R2:=λx y H Q=>∃ k v,x=.ref ad/\y=.str k/\l.lookup k=some v/\∀ z,(∀ W H,Has K W H (dd v) z)->Q z H
theorem ON{R:Value->α->Prop}{dd:α->D}{ta tb:TE}{l:List (Str×α)}{o:Obj}(h2:X.K.lookup ad=some o)(h3:o.ExactDict)(h4:o.data=.dict es n)(h5:Paired (WJ X.w R) es.toList l)(h6:(l.map (·.1)).Nodup)(hR:∀ u v,R u v->∃ z,L2.RelV z u/\∀ W H,Has X.K W H (dd v) z)(ha:PE X a ta)(hb:PE X b tb)(hs:Oh b):PE X (.Subscript a b pos) (K3 (N5 X.K ad dd l) ta tb):=by
 intro pins s σ H Q I h
 refine Subscript_ (AK ha hb I h λv u s2 x y H2 I2 rx ry q=>?_)
 obtain⟨k,z,rfl,rfl,hg,q⟩:=q
 cases rx
 obtain⟨vs,dd',g⟩:=Mz (P:=X.prog) (I2.kIn ad o h2) h3 h4 h5 h6
 have g':=g k
 rw[hg]at g'
 obtain⟨uv,hw,hr⟩:=g'
 obtain⟨zv,r1,r2⟩:=hR _ _ hr
 unfold subscriptTail
 refine wpAny_bind ?_
 rw[getitemInPython_of_ne dd'.typeIs.not_modules]
 refine wpAny_bind (wpAny_specialOf dd'.typeIs PySem.F.slot_dict_getitem.lookup ?_)
 have fin:wpAny (model X.prog X.w) X.A (subscripted b false (.ref ad) u) (λr s₃=>wpAny (model X.prog X.w) X.A (letTemporaryGo a (.ref ad) r >>= λ_=>pure r) (EP X pins σ Q) X.xe s₃) X.xe s2:=by
  rw[hs (.ref ad) u]
  exact wpAny_operating (wpAny_getItem_of (NC (k:=.inr k) ry) dd'.mapOf hw (wpAny_bind (wpAny_letTemporaryGo (wpAny_pure ⟨zv,H2,I2.tok _,r1,q zv r2⟩))))
 first
  |exact wpAny_pure (wpAny_bind fin)
  |exact wpAny_bind (wpAny_pure (wpAny_bind fin))
  |exact wpAny_bind fin
theorem FG{R:Value->α->Prop}{dd:α->D}{l:List (Str×α)}(hm:GlobG R X.w X.K X.mg x l)(hR:∀ u v,R u v->∃ z,L2.RelV z u/\∀ W H,Has X.K W H (dd v) z)(hb:XP X xw b fb)(hs:Oh b:=by intro _ _;rfl)(hg:Gl X x:=by rfl)(hdb:(x==("__debug__":Str))=false:=by decide):
  XE X xw (.Subscript (.Name x p) b pos) (b1 (Bq dd l) fb):=⟨by
 obtain⟨ad,o,es,n,h1,h2,h3,h4,h5,h6,h7⟩:=hm.h
 refine PE.weak (ON h2 h3 h4 h5 h6 hR (Tr (v:=.ref ad) hg h1 rfl hdb) hb.h hs) λσ H Q ⟨W₀,H₀,W,δ,st,q⟩=>?_
 show IJ X.K xw fb σ H _
 refine Rg st q λH2 d v k w st2 hv _ q2=>?_
 unfold Bq at q2
 cases d with
 |str k=>
  dsimp only at q2
  split at q2
  .rename_i z hz
   rw[hv.str]
   exact⟨k,z,rfl,rfl,hz,λy hy=>q2 _ _ (Same.refl _) (hy _ _)⟩
  .exact q2.elim
 |_=>exact q2.elim⟩
def Y3:Value->Str->Prop:=λu x=>∃ t,u=.str x t
def V3(K:Frag):Value->List Str->Prop:=λu xs=>∃ (c:Addr) (o:Obj) (its:Array Value) (n:Nat),u=.ref c/\K.lookup c=some o/\o.cls=.type "tuple"/\o.data=.seq its n/\its.size<=sizeLine/\Vals (xs.map V.str) its.toList
def Fz(xs:List Str):D:=.tup (xs.map D.str)
theorem HG{l:List (Str×Str)}(hm:GlobG Y3 X.w X.K X.mg x l)(hb:XP X xw b fb)(hs:Oh b:=by intro _ _;rfl)(hg:Gl X x:=by rfl)(hdb:(x==("__debug__":Str))=false:=by decide):
  XE X xw (.Subscript (.Name x p) b pos) (b1 (Bq D.str l) fb):=FG hm (λu v ⟨t,e⟩=>⟨.str v,⟨t,e⟩,λW H=>by rw[Has]⟩) hb hs hg hdb
theorem LV{l:List (Str×List Str)}(hm:GlobG (V3 X.K) X.w X.K X.mg x l)(hb:XP X xw b fb)(hs:Oh b:=by intro _ _;rfl)(hg:Gl X x:=by rfl)(hdb:(x==("__debug__":Str))=false:=by decide):
  XE X xw (.Subscript (.Name x p) b pos) (b1 (Bq Fz l) fb):=FG hm (λu v ⟨c,o,its,n,e,g1,g2,g3,g4,g5⟩=>⟨.ref c,e,λW H=>by
   unfold Fz
   rw[Has]
   exact⟨c,v.map V.str,rfl,.inr ⟨o,its,n,g1,g2,g3,g4,g5⟩,Gp v⟩⟩) hb hs hg hdb
end
end L3
namespace L3
open PySem PySem.Spec PyProof.Rows L2 SeqAt
open Builtin Builtin.Str
variable{X:Cx}{xw:XW}{apos cpos:Pos}{o:Expr}{f:Ga->Res D}
section
variable {pos p p2:Pos}{a b e:Expr}{fa fb:Ga->Res D}{fs:Ga->Res (List D)}
theorem QI(bs:List Bool):(range bs.length).any (λi=>bs.getD i false)=bs.any id:=by
 induction bs with
 |nil=>rfl
 |cons b bs ih=>
  rw[List.length_cons,List.range_succ_eq_map,List.any_cons,List.any_map,List.any_cons,<-ih]
  rfl
theorem SG(hc:X.calm=true):CallR X (.builtin "any") (λxs H Q=>∃ W ds bs v,xs= [v]/\HasT X.K W H (.lst ds) v/\Mb ds=some bs/\Q (.bl (bs.any id)) H):=by
 intro pins s σ H xs us Q I r h
 obtain⟨W,ds,bs,v,rfl,hd,hb,q⟩:=h
 obtain⟨u,rfl,rx⟩:=Kn r
 obtain⟨a,ys,rfl,sq,rl⟩:=hd.lst
 cases (show u=Value.ref a from rx)
 obtain⟨its,rv,pl,hz⟩:=I.list sq
 have hlt:a<s.heap.objs.size:=by obtain⟨_,e,_⟩:=pl.isList;exact lt_size e
 have hh:X.A.in1.handled=none:=I.ok.hd hc
 refine call_any_walk (wpAny_pyIter_list pl.isList ⟨s.heap.objs.size,_,_,_,_,_,λi=>bs.getD i false,rfl,Walks.list hh s.heap.objs.size a (ne_of_lt hlt) its.toArray,⟨⟨_,get?_push_size _ rfl,rfl,rfl⟩,pl.isList.push _⟩,λi v s' Q' E' hP hQ'=>?_,λh' tk hk=>?_⟩)
 .have hi:its[i]? =some v:=by simpa using hP
  have hil:i<ys.length:=by rw[rv.length];exact(List.getElem?_eq_some_iff.mp hi).1
  obtain⟨x,e1⟩:∃ x,ys[i]? =some x:=⟨_,getElem?_eq_getElem hil⟩
  obtain⟨d,e2,hx⟩:=rl.at' e1
  obtain⟨b,rfl,e3⟩:=Zk hb e2
  rw[Has]at hx
  subst hx
  obtain⟨w',e4,rw'⟩:=rv.get e1
  rw[hi]at e4;cases e4
  cases (show v=Value.bool b from rw')
  have:bs.getD i false=b:=by rw[List.getD_eq_getElem?_getD,e3];rfl
  dsimp only at hQ'
  rw[this]at hQ'
  exact wpAny_truthy_bool hQ'
 .rw[show its.toArray.size=bs.length by rw[size_toArray,Al hb,rl.length,rv.length],QI]
  refine⟨.bl _,H,I.kept (λb o e=>hk b o (λz=>?_) (get?_push_of_some _ e)),rfl,q⟩
  have:b=s.heap.objs.size:=by simpa using z
  exact absurd (lt_size e) (by rw[this];exact lt_irrefl _)
def IB:D->Res D
 | .lst ds=>match Mb ds with
  |some bs=>.ok (.bl (bs.any id))
  |none=>.stuck
 |_=>.stuck
theorem N6(hc:X.calm=true)(hm:X.mg "any"=none)(ha:XP X xw a fa)(hg:Gl X "any":=by rfl)(he:starEach [a] X.env=(false,eval a X.env)::starEach [] X.env:=by rfl)(hpl:(backTo pos (starEach [] X.env)).any (·.1)=false:=by rfl):
  XE X xw (.Call (.Name "any" p) [a] [] pos) (b1 IB fa):=
 ⟨Lp (SG hc) (λW H d v Q w hv q=>by
  unfold IB at q
  split at q
  .split at q
   .rename_i hb
    exact⟨W,_,_,v,rfl,hv,hb,q.bl⟩
   .exact q.elim
  .exact q.elim) hm (by decide +kernel) ha.h hg (by decide) (by decide) he hpl⟩
def OU:V->List V->Hp->VK->Prop:=λx vs H Q=>∃ z y,x=.str z/\vs= [.str y]/\(y.length==0)=false/\z.length<=100000/\(partsBetween z (occurrences z y 0 z.length (z.length+1)) y.length).length<=1000/\
 ∀ p,H p=none->Q (.ref p) (Ib H p (.lst ((PySem.Txt.split z y).map V.str)))
theorem BI:UV X "str.split" OU:=by
 intro pins s σ H x vs v us Q I rx rv h
 obtain⟨z,y,rfl,rfl,hy,hz,hp,q⟩:=h
 obtain⟨t,rfl⟩:=rx
 obtain⟨u',rfl,ru⟩:=rv.one
 obtain⟨u,rfl⟩:=ru
 have hz':z.length<=sizeLine:=by rw[sizeLine_eq];omega
 have hp':=le_trans hp Jl
 have hs:=le_trans (Bw z y hp) Jl
 have one:PySem.Txt.split z y= [z]->∀ tk,EP X pins σ Q (.ref s.heap.objs.size) {s with heap:=s.heap.push {cls:=.type "list",data:=.seq [Value.str z t].toArray},toks:=tk}:=λe tk=>by
  rw[e]at q
  exact⟨.ref _,_,I.lnew (t':=tk) (ys:= [.str z]) (its:= [.str z t]) (.cons ⟨t,rfl⟩ .nil) (by rw[sizeLine_eq,length_singleton];decide),rfl,q _ I.fresh⟩
 cases h1:(decide (z.length<y.length)||decide (strKind z<strKind y))
 .cases hf:(occurrences z y 0 z.length (z.length+1)).isEmpty
  .refine call_meets F.slot_str_split (typeIs_str _ _ _) F.entry_str_split (F.args_str_split_2 _ _) (meets_str_split_sep z y t u h1 hy hf hz' hp') ?_
   have e:PySem.Txt.split z y=partsBetween z (occurrences z y 0 z.length (z.length+1)) y.length:=(if_neg (ne_true_of_eq_false h1)).trans (if_neg (ne_true_of_eq_false hf))
   rw[e]at q hs
   exact⟨.ref _,_,I.lnew (Fj s.toks _) (by rw[length_map];exact hs),rfl,q _ I.fresh⟩
  .exact call_meets F.slot_str_split (typeIs_str _ _ _) F.entry_str_split (F.args_str_split_2 _ _) (meets_str_split_not_found z y t u h1 hy hf) (one ((if_neg (ne_true_of_eq_false h1)).trans (if_pos hf)) s.toks)
 .exact call_meets F.slot_str_split (typeIs_str _ _ _) F.entry_str_split (F.args_str_split_2 _ _) (meets_str_split_cannot_occur z y t u h1) (one (if_pos h1) s.toks)
def Ug(z:Str):List D->Res (List D)
 | [.str y]=>@ite (Res (List D)) ((y.length==0)=false/\z.length<=100000/\(partsBetween z (occurrences z y 0 z.length (z.length+1)) y.length).length<=1000) (propDecidable _) (.ok ((PySem.Txt.split z y).map D.str)) .stuck
 |_=>.stuck
theorem Iz(ho:XE X xw o f)(ha:XA X xw [e] fs)(hbase:attributeBase o "split" X.env (eval o X.env)=eval o X.env:=by rfl)(hfew:((backTo cpos (starEach [e] X.env)).all (λx=> !x.1)&&(backToKw cpos (keywordEach [] X.env)).all (λx=>x.1.isSome)
   &&decide (([e]:List Expr).length+([]:List Keyword).length+(if([]:List Keyword).isEmpty then 0 else 1)<30))=true:=by rfl)(hline:(apos.endLine==cpos.line)=true:=by rfl)(hs:starEach [e] X.env=(false,eval e X.env)::starEach [] X.env:=by rfl)(hplain:(backTo cpos (starEach [] X.env)).any (·.1)=false:=by rfl):
  XF X xw (.Call (.Attribute o "split" apos) [e] [] cpos) (bM Ug f fs):=
 ⟨PE.weak (Ft (T:="str") F.plainAttrs_str F.slot_str_split F.type_str_split BI ho.h ha.h hbase hfew hline hs hplain) λσ H Q ⟨W₀,H₀,W,δ,st,q⟩=>by
  unfold bM at q
  refine⟨W₀,H₀,W,δ,st,?_⟩
  cases h1:f δ with
  |stuck=>rw[h1]at q;exact q
  |ex c fs=>rw[h1]at q;exact q
  |ok d=>
   rw[h1]at q
   intro v H1 k1 hv
   cases d with
   |str z=>
    rw[Has]at hv
    subst hv
    have q':RF X.K xw W H ((fs δ).bind (Ug z)) Q:=q
    refine⟨rfl,W₀,H₀,W,δ,st.same k1,?_⟩
    cases h2:fs δ with
    |stuck=>rw[h2]at q';exact q'
    |ex c gs=>rw[h2]at q';exact λH2 k2=>q' H2 (k1.trans k2)
    |ok ds=>
     rw[h2]at q'
     intro vs H2 k2 hvs
     have q2:RF X.K xw W H (Ug z ds) Q:=q'
     unfold Ug at q2
     split at q2
     .rename_i y
      split at q2
      .rename_i hz
       rw[HasL]at hvs
       obtain⟨x,r,rfl,hx,hr⟩:=hvs
       rw[HasL]at hr
       rw[Has]at hx
       subst hr hx
       exact⟨z,y,rfl,rfl,hz.1,hz.2.1,hz.2.2,λp hp=>q2 p _ H2 (k1.trans k2) hp (Gp _)⟩
      .exact q2.elim
     .exact q2.elim
   |_=>exact q.elim⟩
end
theorem WM:UV X "str.upper" (λx vs H Q=>∃ z,x=.str z/\vs= []/\tooLong (PySem.Txt.upper z).length=false/\Q (.str (PySem.Txt.upper z)) H):=by
 intro pins s σ H x vs v us Q I rx rv h
 obtain⟨z,rfl,rfl,hz,q⟩:=h
 obtain⟨t,rfl⟩:=rx
 cases rv
 exact PySem.SC.upper hz ⟨.str _,H,I.tok _,⟨_,rfl⟩,q⟩
def Fq:D->Res D
 | .str z=>if tooLong (PySem.Txt.upper z).length=false then .ok (.str (PySem.Txt.upper z)) else .stuck
 |_=>.stuck
theorem PV(ho:XE X xw o f)(hbase:attributeBase o "upper" X.env (eval o X.env)=eval o X.env:=by rfl)(hline:(apos.endLine==cpos.line)=true:=by rfl):
  XE X xw (.Call (.Attribute o "upper" apos) [] [] cpos) (b1 Fq f):=
 ⟨PE.weak (J0 (T:="str") F.plainAttrs_str F.slot_str_upper F.type_str_upper WM ho.h hbase hline) λσ H Q ⟨W₀,H₀,W,δ,st,q⟩=>by
  unfold b1 at q
  refine⟨W₀,H₀,W,δ,st,?_⟩
  cases h1:f δ with
  |stuck=>rw[h1]at q;exact q
  |ex c fs=>rw[h1]at q;exact q
  |ok d=>
   rw[h1]at q
   intro v H1 k1 hv
   have q2:RE X.K xw W H (Fq d) Q:=q
   cases d with
   |str z=>
    rw[Has]at hv
    subst hv
    unfold Fq at q2
    dsimp only at q2
    split at q2
    .rename_i hz
     exact⟨rfl,z,rfl,rfl,hz,q2 _ H1 k1 (by rw[Has])⟩
    .exact q2.elim
   |_=>exact q2.elim⟩
end L3
namespace G
open PySem PySem.Spec PyProof.Rows L2 L3
def Ni:Ga->Out:=(Sa (Xj (tR (b2 EQ (Ca 1) (b1 Pc (Ca 0)))) (Pb (b2 Ae (Ca 0) (Ca 1))) Out.nx)
  (Pb (kD (.int 0))))
def Hb:List D->Res D:=Df 2 Ni
def Fo:Ga->Out:=(Sa (Nb 2 (b2 Dh (b2 Mx (b2 Gb (b2 Dh (Ca 0) (kD (.int 2147483647))) (kD (.int 7))) (b2 Gb (kD (.int 48271)) (b2 Mx (kD (.int 2)) (Ca 1)))) (kD (.int 2147483629))))
  (Pb (b2 Dh (b2 Mx (Ca 2) (Ca 2)) (kD (.int 2147483587)))))
def Be:List D->Res D:=Df 3 Fo
def Qh:Ga->Out:=(Sa (Nb 2 (b2 Gb (Ca 2) (b2 Ae (kD (.str "abcdefghijklmnopqrstuvwxyz")) (b2 Dh (Ca 1) (kD (.int 26))))))
  (Nb 1 (b2 Um (Ca 1) (kD (.int 26)))))
def Lq:Ga->Out:=(Sa (Nb 1 (b2 Dh (b2 Um (Ca 0) (kD (.int 10))) (b2 XN (kD (.int 26)) (kD (.int 10)))))
  (Sa (Nb 2 (kD (.str "")))
  (Sa (Om (Yc 3) Qh (b1 Ol (Aa (b2 Gb (kD (.int 1)) (b2 Dh (Ca 0) (kD (.int 10)))) Ka)))
  (Pb (Qa 2)))))
def Zf:List D->Res D:=Df 4 Lq
def Cl:Ga->Out:=(Sa (Xj (tR (b2 inR (Ca 0) (Zc (b1 Sc (Aa (kD (.str "door")) (Aa (kD (.str "key")) (Aa (kD (.str "opens")) (Aa (kD (.str "rules")) (Aa (kD (.str "wing")) Ka))))))))) (Pb (b2 Gb (Ca 0) (kD (.str "x")))) Out.nx)
  (Pb (Qa 0)))
def Cf:List D->Res D:=Df 1 Cl
def Pg:Ga->Out:=(Sa (Nb 7 (b2 Gb (b2 Ae (Ca 4) (b2 Dh (Ca 6) (kD (.int 9)))) (b2 Ae (Ca 4) (b2 Dh (b2 Um (Ca 6) (kD (.int 9))) (kD (.int 9))))))
  (Xn 5 (b1 (La 1 Cf) (Aa (b2 Gb (b2 Gb (b3 DJ (Ca 2) Vc (b1 Ue (Qa 3))) (Ca 7)) (b3 DJ (Ca 2) (b1 Ue (Qa 3)) Vc)) Ka))))
def Go:Ga->Out:=(Sa (Nb 2 (b1 (La 1 Zf) (Aa (Qa 0) Ka)))
  (Sa (Nb 3 (b2 Dh (b2 Um (Ca 0) (kD (.int 7))) (b2 Gb (b1 Pc (Ca 2)) (kD (.int 1)))))
  (Sa (Nb 4 (b2 Ae (Zc (b1 Sc (Aa (kD (.str "bdfhkmpry")) (Aa (kD (.str "yrpmkhfdb")) (Aa (kD (.str "kbydrfmhp")) Ka))))) (b2 Dh (b2 Um (Ca 0) (kD (.int 5))) (kD (.int 3)))))
  (Sa (Of 5 (b1 Sc Ka))
  (Sa (Om (Yc 6) Pg (b1 Ol (Aa (Qa 1) Ka)))
  (Pb (Ca 5)))))))
def Fd:List D->Res D:=Df 8 Go
def Rk:Ga->Out:=(Sa (Of 1 (b1 Sc (Aa (kD (.str "rules")) (Aa (kD (.str "rules 3 4 2")) (Aa (kD (.str "rules 3 4 2 3 1")) (Aa (kD (.str "rules 0 4 2 3")) (Aa (kD (.str "rules 25 4 2 3")) (Aa (kD (.str "rules 3 1 1 1")) Ka))))))))
  (Sa (Xn 1 (kD (.str "rules 3 21 2 3")))
  (Sa (Of 1 (Bl Xg (Ca 1) (Zc (b1 Sc (Aa (kD (.str "rules 3 4 0 3")) (Aa (kD (.str "rules 3 4 5 3")) (Aa (kD (.str "rules 3 4 2 0")) (Aa (kD (.str "rules 3 4 2 4")) (Aa (kD (.str "rules 03 4 2 3")) Ka)))))))))
  (Sa (Xn 1 (kD (.str "rules 3 4 2 -1")))
  (Pb (b2 Ae (Zc (Bl Xg (Ca 1) (Zc (b1 Sc (Aa (kD (.str "rules 3  4 2 3")) (Aa (kD (.str "rules 3 4 2 3 ")) (Aa (kD (.str " rules 3 4 2 3")) (Aa (kD (.str "Rules 3 4 2 3")) (Aa (kD (.str "rules 3,4,2,3")) Ka))))))))) (b2 Dh (Ca 0) (kD (.int 18)))))))))
def Qc:List D->Res D:=Df 2 Rk
def Mq:Ga->Out:=(Sa (Of 2 (b1 Sc (Aa (kD (.str "")) (Aa (kD (.str " ")) (Aa (kD (.str "door")) (Aa (kD (.str "door ")) (Aa (Qa 0) (Aa (b2 Gb (kD (.str "door  ")) (Ca 0)) (Aa (b2 Gb (kD (.str " door ")) (Ca 0)) (Aa (b2 Gb (b2 Gb (kD (.str "door ")) (Ca 0)) (kD (.str " "))) (Aa (b2 Gb (kD (.str "door\t")) (Ca 0)) Ka)))))))))))
  (Sa (Of 2 (Bl Xg (Ca 2) (Zc (b1 Sc (Aa (b2 Gb (kD (.str "Door ")) (Ca 0)) (Aa (b2 Gb (kD (.str "door ")) (b1 Fq (Qa 0))) (Aa (b2 Gb (b2 Gb (kD (.str "door ")) (Ca 0)) (kD (.str "1"))) (Aa (kD (.str "door a b")) (Aa (kD (.str "door door")) (Aa (kD (.str "door opens")) Ka))))))))))
  (Sa (Of 2 (Bl Xg (Ca 2) (Zc (b1 Sc (Aa (kD (.str "door abcdefghijklm")) (Aa (b2 Gb (kD (.str "doors ")) (Ca 0)) (Aa (b2 Gb (kD (.str "wing ")) (Ca 0)) (Aa (b2 Gb (b2 Gb (kD (.str "wing ")) (Ca 0)) (kD (.str " ="))) (Aa (b2 Gb (b2 Gb (kD (.str "wing ")) (Ca 0)) (kD (.str " = "))) Ka)))))))))
  (Sa (Of 2 (Bl Xg (Ca 2) (Zc (b1 Sc (Aa (b2 Gb (b2 Gb (kD (.str "wing ")) (Ca 0)) (kD (.str " a"))) (Aa (b2 Gb (b2 Gb (kD (.str "wing ")) (Ca 0)) (kD (.str " = a a"))) (Aa (b2 Gb (b2 Gb (kD (.str "wing ")) (Ca 0)) (kD (.str " = a  b"))) Ka)))))))
  (Sa (Xn 2 (b2 Gb (b2 Gb (kD (.str "wing ")) (Ca 0)) (kD (.str " = a b a"))))
  (Sa (Of 2 (Bl Xg (Ca 2) (Zc (b1 Sc (Aa (b2 Gb (b2 Gb (kD (.str "wing ")) (Ca 0)) (kD (.str " = key"))) (Aa (kD (.str "wing wing = a")) (Aa (kD (.str "wing = a")) (Aa (b2 Gb (b2 Gb (kD (.str "wing ")) (Ca 0)) (kD (.str " opens a"))) (Aa (kD (.str "wing a b = c")) Ka)))))))))
  (Sa (Of 2 (Bl Xg (Ca 2) (Zc (b1 Sc (Aa (b2 Gb (b2 Gb (kD (.str "wing ")) (Ca 0)) (kD (.str " =a"))) (Aa (b2 Gb (b2 Gb (kD (.str "wing ")) (Ca 0)) (kD (.str "= a"))) (Aa (b2 Gb (b2 Gb (kD (.str "Wing ")) (Ca 0)) (kD (.str " = a"))) (Aa (b2 Gb (b2 Gb (kD (.str "wing ")) (Ca 0)) (kD (.str " = a "))) Ka))))))))
  (Sa (Of 2 (Bl Xg (Ca 2) (Zc (b1 Sc (Aa (b2 Gb (kD (.str "key ")) (Ca 0)) (Aa (b2 Gb (b2 Gb (kD (.str "key ")) (Ca 0)) (kD (.str " opens"))) (Aa (b2 Gb (b2 Gb (kD (.str "key ")) (Ca 0)) (kD (.str " opens "))) (Aa (b2 Gb (b2 Gb (kD (.str "key ")) (Ca 0)) (kD (.str " = a"))) Ka))))))))
  (Sa (Of 2 (Bl Xg (Ca 2) (Zc (b1 Sc (Aa (b2 Gb (b2 Gb (kD (.str "key ")) (Ca 0)) (kD (.str " opens a a"))) (Aa (b2 Gb (b2 Gb (kD (.str "key ")) (Ca 0)) (kD (.str " opens A"))) (Aa (b2 Gb (b2 Gb (kD (.str "key ")) (Ca 0)) (kD (.str " open a"))) (Aa (kD (.str "key opens a")) Ka))))))))
  (Sa (Of 2 (Bl Xg (Ca 2) (Zc (b1 Sc (Aa (b2 Gb (b2 Gb (kD (.str "key ")) (Ca 0)) (kD (.str " opens a  b"))) (Aa (kD (.str "key key opens a")) (Aa (b2 Gb (b2 Gb (kD (.str "key ")) (Ca 0)) (kD (.str " opens a wing"))) (Aa (b2 Gb (kD (.str "house ")) (Ca 0)) Ka))))))))
  (Sa (Of 2 (Bl Xg (Ca 2) (Zc (b1 Sc (Aa (kD (.str "rules 3 4 2 3")) (Aa (kD (.str "rules")) (Aa (b2 Gb (kD (.str "window ")) (Ca 0)) (Aa (b2 Gb (b2 Gb (kD (.str "key ")) (Ca 0)) (kD (.str " opens a,b"))) (Aa (b2 Gb (b2 Gb (kD (.str "wing ")) (Ca 0)) (kD (.str " = a, b"))) Ka)))))))))
  (Pb (b2 Ae (Ca 2) (b2 Dh (Ca 1) (b1 Pc (Ca 2))))))))))))))))
def Bf:List D->Res D:=Df 3 Mq
def Fk:Ga->Res D:=(b1 Zn (Aa (Qa 0) (Aa (Zc (b1 Ei (Ca 1))) Ka)))
def Vy:Ga->Out:=(Pb (Zc (Xd 2 (Zq 2 (Nh (Yc 0) (Nh (Yc 1) Yq))) (λ_=>.ok true) Fk (b1 Ei (Qa 0)))))
def Si:List D->Res D:=Df 1 Vy
def Th:List (Str×(Ga->Res D)):= [("rules",(Qa 1)),("doors",(Zc (b1 Ei (Ca 2)))),("wings",(b1 (La 1 Si) (Aa (Qa 3) Ka))),("grants",(b1 (La 1 Si) (Aa (Qa 4) Ka)))]
def Ld:Ga->Res D:=(b2 BW (b1 Pc (Br Se (Gg 1) (Ca 0))) (kD (.int 0)))
def Nq:Ga->Out:=(Sa (Xj (Xe (tR (b2 OY (b1 Pc (Br Se (Gg 0) (Ca 1))) (kD (.int 60)))) (tR (b1 IB (Zc (Xd 1 (Yc 0) (λ_=>.ok true) Ld (b1 Ei (b1 (Bq Fz [("door",(["wing","key"]:List Str)),("wing",(["key"]:List Str)),("key",([]:List Str))]) (Ca 1)))))))) (Pb (kD (.bl false))) Out.nx)
  (Pb (HQ (b2 Mm (Ca 1) (kD (.str "door"))) (b2 BW (b1 Pc (Br Se (Gg 0) (kD (.str "door")))) (kD (.int 0))))))
def Ec:List D->Res D:=Df 2 Nq
def Wy:Ga->Out:=(Pb (b2 Ae (Ca 0) (kD (.int 1))))
def Uh:List D->Res D:=Df 1 Wy
def Nw:Ga->Out:=(Pb (b2 Ae (Ca 0) (kD (.int 2))))
def Qg:List D->Res D:=Df 1 Nw
def Xy:Ga->Out:=(Pb (b2 Ae (Ca 0) (kD (.int 0))))
def Vh:List D->Res D:=Df 1 Xy
def OG:Ga->Out:=(Pb (b2 Ae (Ca 0) (kD (.int 3))))
def Sj:List D->Res D:=Df 1 OG
def Qm:Ga->Out:=(Sa (Nb 1 (b1 (La 1 Uh) (Aa (Qa 0) Ka)))
  (Sa (Xj (Xe (Cc (tR (NG Qv Qv (kD (.int 1)) (b1 (La 1 Vh) (Aa (Qa 0) Ka)) (kD (.int 24))))) (Cc (tR (NG Qv Qv (kD (.int 2)) (Ca 1) (kD (.int 20)))))) (Pb (kD (.bl false))) Out.nx)
  (Pb (Yl (NG Qv Qv (kD (.int 1)) (b1 (La 1 Qg) (Aa (Qa 0) Ka)) (Ca 1)) (NG Qv Qv (kD (.int 1)) (b1 (La 1 Sj) (Aa (Qa 0) Ka)) (b2 WO (Ca 1) (kD (.int 1))))))))
def Md:List D->Res D:=Df 2 Qm
def Zr:Ga->Out:=(Pb (Yl (b1 (Yd "int") (Ca 0)) (b1 DN (b1 (Yd "bool") (Ca 0)))))
def Bh:List D->Res D:=Df 1 Zr
def Ii:Ga->Res D:=(b1 (La 1 Bh) (Aa (Qa 0) Ka))
def Ak:Ga->Out:=(Sa (Xj (Xe (Cc (tR (b1 (Yd "tuple") (Ca 0)))) (tR (b2 Px (b1 Pc (Ca 0)) (kD (.int 4))))) (Pb (kD (.bl false))) Out.nx)
  (Pb (Yl (b1 On (Zc (Xd 1 (Yc 0) (λ_=>.ok true) Ii (b1 Ei (Qa 0))))) (b1 (La 1 Md) (Aa (Qa 0) Ka)))))
def Nd:List D->Res D:=Df 1 Ak
def Gk:Ga->Res D:=(b2 inR (Ca 0) (Ca 2))
def Pn:Ga->Out:=(Pb (b1 On (Zc (Xd 1 (Yc 0) (λ_=>.ok true) Gk (b1 WF (Qa 0))))))
def Rc:List D->Res D:=Df 2 Pn
def Hi:Ga->Out:=(Sa (Xj (Xe (Cc (tR (NG Qv Qv (kD (.int 1)) (b1 Pc (Ca 0)) (Ca 1)))) (Cc (tR (b1 (La 2 Rc) (Aa (Qa 0) (Aa (kD (.str "0123456789")) Ka)))))) (Pb (kD (.bl false))) Out.nx)
  (Pb (HQ (b2 Mm (Ca 0) (kD (.str "0"))) (b2 Px (b2 Ae (Ca 0) (kD (.int 0))) (kD (.str "0"))))))
def Hd:List D->Res D:=Df 2 Hi
def Mg:Ga->Res D:=(b1 (La 2 Hd) (Aa (Qa 0) (Aa (kD (.int 3)) Ka)))
def Ng:Ga->Res D:=(b1 VL (Ca 0))
def Bk:Ga->Out:=(Sa (Xj (Cc (tR (b1 (Yd "str") (Ca 0)))) (Pb (kD .non)) Out.nx)
  (Sa (Nb 2 (Zc (bM Pf (Qa 0) (Aa (Qa 1) Ka))))
  (Sa (Xj (Cc (tR (b1 On (Zc (Xd 1 (Yc 0) (λ_=>.ok true) Mg (b1 Ei (Qa 2))))))) (Pb (kD .non)) Out.nx)
  (Pb (b1 Ao (Zc (Xd 1 (Yc 0) (λ_=>.ok true) Ng (b1 Ei (Qa 2)))))))))
def Kc:List D->Res D:=Df 3 Bk
def Ck:Ga->Out:=(Sa (Tn (Nb 1 (b1 (La 2 Kc) (Aa (Qa 0) (Aa (kD (.str " ")) Ka)))))
  (Sa (Xj (Tj (Cc (tR (b1 (La 1 Nd) (Aa (Qa 1) Ka))))) (Gy "NoRules" (Ci (Aa (kD (.str "rules are written as PLACES DEPTHS HEIGHTS STEP, parted by one blank each")) Ka))) Out.nx)
  (Tn (Pb (Qa 1)))))
def Rb:List D->Res D:=OA 2 Ck
def Dk:Ga->Out:=(Sa (Xj (Tj (Cc (tR (bM Nk (Qa 0) (Aa (kD (.str "rules ")) Ka))))) (Ji "NoRow" [("row",true)] (Ci (Aa (kD (.int 0)) Ka))) Out.nx)
  (Yp ["NoRules"] (Dq (Aa (b3 DJ (Ca 0) (b1 Ue (b1 Pc (kD (.str "rules ")))) Vc) Ka) 1 Rb []) (λd _=>.rt d) Out.nx (OH "NoRow" [("row",true)] (Aa (kD (.int 0)) Ka))))
def Wb:List D->Res D:=OA 1 Dk
def Am:Ga->Out:=(Sa (Xj (Xe (Cc (tR (b1 (Yd "str") (Ca 0)))) (tR (b2 inR (Ca 0) (kD (.tup ((["door","key","opens","rules","wing"]:List Str).map D.str)))))) (Pb (kD (.bl false))) Out.nx)
  (Pb (Yl (NG Qv Qv (kD (.int 1)) (b1 Pc (Ca 0)) (kD (.int 12))) (b1 (La 2 Rc) (Aa (Qa 0) (Aa (kD (.str "abcdefghijklmnopqrstuvwxyz")) Ka))))))
def Hc:List D->Res D:=Df 1 Am
def Sb:Ga->Res D:=(b1 (La 1 Hc) (Aa (Qa 0) Ka))
def Wf:Ga->Out:=(Pb (Yl (b1 On (Zc (Xd 1 (Yc 0) (λ_=>.ok true) Sb (b1 Ei (Qa 0))))) (b2 Mm (b1 Qs (Ca 0)) (b1 Pc (Ca 0)))))
def Tb:List D->Res D:=Df 1 Wf
def Ek:Ga->Out:=(Sa (Xj (tR (b2 Mm (b2 Ae (Ca 0) (kD (.int 0))) (kD (.str "door")))) (Pb (GQ (Jn (tR (b2 Mm (b1 Pc (Ca 0)) (kD (.int 2)))) (tR (b1 (La 1 Hc) (Aa (b2 Ae (Ca 0) (kD (.int 1))) Ka)))) (b2 Ae (Ca 0) (kD (.int 1))) (kD .non))) Out.nx)
  (Sa (Xj (Xe (tR (b1 (Ws (α:=Str) [("wing","="),("key","opens")]) (b2 Ae (Ca 0) (kD (.int 0))))) (Xe (tR (b2 EQ (b1 Pc (Ca 0)) (kD (.int 4)))) (tR (b2 Px (b2 Ae (Ca 0) (kD (.int 2))) (b1 (Bq D.str [("wing","="),("key","opens")]) (b2 Ae (Ca 0) (kD (.int 0)))))))) (Pb (kD .non)) Out.nx)
  (Sa (Xj (Xe (Cc (tR (b1 (La 1 Hc) (Aa (b2 Ae (Ca 0) (kD (.int 1))) Ka)))) (Cc (tR (b1 (La 1 Tb) (Aa (Zc (b3 Vr (Ca 0) (b1 Ue (kD (.int 3))) Vc)) Ka))))) (Pb (kD .non)) Out.nx)
  (Pb (b1 Zn (Aa (b2 Ae (Ca 0) (kD (.int 1))) (Aa (Zc (b3 Vr (Ca 0) (b1 Ue (kD (.int 3))) Vc)) Ka)))))))
def Fc:List D->Res D:=Df 1 Ek
def Bb:Ga->Out:=(Sa (Tn (Nb 6 (Zc (bM Ug (Qa 5) (Aa (kD (.str " ")) Ka)))))
  (Sa (Tn (Nb 7 (b1 (La 1 Fc) (Aa (Qa 6) Ka))))
  (Sa (Xj (Tj (Xe (tR (b1 Er (Ca 7))) (Cc (tR (Bu 3 (b1 (La 2 Ec) (Aa (Qa 3) (Aa (b2 Ae (Ca 6) (kD (.int 0))) Ka)))))))) (Ji "NoRow" [("row",true)] (Ci (Aa (Qa 4) Ka))) Out.nx)
  (Tn (TF 3 (b2 Ae (Ca 6) (kD (.int 0))) (Qa 7))))))
def Ig:Ga->Out:=(Sa (Xj (Tj (Cc (tR (b1 (Yd "str") (Ca 0))))) (Ji "NoRow" [("row",true)] (Ci (Aa (kD (.int 0)) Ka))) Out.nx)
  (Sa (Tn (Nb 1 (Zc (bM Ug (Qa 0) (Aa (kD (.str "\n")) Ka)))))
  (Sa (Nb 2 (b1 (Jg 1 Wb) (Ci (Aa (b2 Ae (Ca 1) (kD (.int 0))) Ka))))
  (Sa (Tn (T1 3 "door" "wing" "key"))
  (Sa (Om (Zq 2 (Nh (Yc 4) (Nh (Yc 5) Yq))) Bb (Ci (b1 Ds (Aa (Zc (b3 Vr (Ca 1) (b1 Ue (kD (.int 1))) Vc)) Ka))))
  (Sa (HW 3 (Xj (Tj (tR (b2 Mm (b1 Pc (Br Se (Gg 3) (kD (.str "door")))) (kD (.int 0))))) (Ji "NoRow" [("row",true)] (Ci (Aa (b1 Pc (Ca 1)) Ka))) Out.nx))
  (Tn (Pb (b1 (La 4 (Rs 4 "House" Th)) (Aa (Qa 2) (Aa (Br Se (Gg 3) (kD (.str "door"))) (Aa (Br Se (Gg 3) (kD (.str "wing"))) (Aa (Br Se (Gg 3) (kD (.str "key"))) Ka)))))))))))))
def Ta:List D->Res D:=OA 8 Ig
def Pj:Ga->Out:=(Nb 1 (Qa 2))
def Dl:Ga->Out:=(Sa (Nb 1 (kD .non))
  (Sa (Yp ["NoRow"] (Dq (Aa (Qa 0) Ka) 1 Ta []) (λ_ δ=>.nx δ) Out.nx (PL 2 Pj))
  (Sa (Xj (Xe (Cc (tR (b1 (Tk [("NoRow",true),("NoRules",false)]) (Ca 1)))) (Cc (tR (b1 (Tk [("NoRow",true),("NoRules",true)]) (Ca 1))))) (Pb (kD .non)) Out.nx)
  (Sa (Xj (tR (b1 (Tk [("NoRow",false),("NoRules",true)]) (Ca 1))) (Pb (kD .non)) Out.nx)
  (Sa (Xj (tR (b1 (Tk [("NoRow",false),("NoRules",false)]) (Ca 1))) (Pb (kD .non)) Out.nx)
  (Sa (Xj (Xe (Cc (tR (b1 (Yd "int") (b1 (HL ["NoRow"] "row") (Qa 1))))) (tR (b1 (Yd "bool") (b1 (HL ["NoRow"] "row") (Qa 1))))) (Pb (kD .non)) Out.nx)
  (Pb (b1 (HL ["NoRow"] "row") (Qa 1)))))))))
def Oc:List D->Res D:=Df 3 Dl
def Sk:Ga->Res D:=(b1 HJ (Ca 0))
def Sm:Ga->Out:=(Pb (bM Tf (kD (.str " ")) (Aa (Zc (Xd 1 (Yc 0) (λ_=>.ok true) Sk (b1 Ei (Qa 0)))) Ka)))
def Ke:List D->Res D:=Df 1 Sm
def Tm:Ga->Out:=(Pb (bM Tf (kD (.str " ")) (Aa (Zc (Bl Xg (Zc (b1 Sc (Aa (Qa 0) (Aa (b2 Ae (Ca 1) (kD (.int 0))) (Aa (b1 (Bq D.str [("wing","="),("key","opens")]) (Ca 0)) Ka))))) (b2 Ae (Ca 1) (kD (.int 1))))) Ka)))
def Lc:List D->Res D:=Df 2 Tm
def Zh:Ga->Res D:=(b2 Gb (kD (.str "door ")) (Ca 0))
def Ai:Ga->Res D:=(b1 (La 2 Lc) (Aa (kD (.str "wing")) (Aa (Qa 0) Ka)))
def Bi:Ga->Res D:=(b1 (La 2 Lc) (Aa (kD (.str "key")) (Aa (Qa 0) Ka)))
def Rm:Ga->Out:=(Sa (Of 1 (b1 Sc (Aa (b2 Gb (kD (.str "rules ")) (b1 (La 1 Ke) (Aa (b1 (Ku "House" "rules") (Qa 0)) Ka))) Ka)))
  (Sa (ZI 1 (Xd 1 (Yc 0) (λ_=>.ok true) Zh (b1 Ei (b1 (Ku "House" "doors") (Qa 0)))))
  (Sa (ZI 1 (Xd 1 (Yc 0) (λ_=>.ok true) Ai (b1 Ei (b1 (Ku "House" "wings") (Qa 0)))))
  (Sa (ZI 1 (Xd 1 (Yc 0) (λ_=>.ok true) Bi (b1 Ei (b1 (Ku "House" "grants") (Qa 0)))))
  (Cn 1 (Pb (bM Tf (kD (.str "\n")) (Aa (Qa 1) Ka))))))))
def Od:List D->Res D:=Df 2 Rm
def Oo:Ga->Out:=(Xn 3 (b2 Gb (kD (.str "door ")) (b2 Ae (Ca 2) (Ca 4))))
def XV:Ga->Out:=(Sa (Nb 1 (b1 (La 2 Hb) (Aa (Qa 0) (Aa (kD (.int 0)) Ka))))
  (Sa (Nb 2 (b1 (La 2 Fd) (Aa (b1 (La 2 Be) (Aa (Qa 1) (Aa (kD (.int 4)) Ka))) (Aa (kD (.int 40)) Ka))))
  (Sa (Of 3 (b1 Sc (Aa (kD (.str "rules 3 4 2 3")) Ka)))
  (Sa (Om (Yc 4) Oo (b1 Ol (Aa (b2 Gb (b1 Pc (Zc (b3 Vr (Ca 0) (b1 Ue (kD (.int 3))) (b1 Ue (kD (.int 33)))))) (kD (.int 1))) Ka)))
  (Sa (Of 3 (Bl Xg (Ca 3) (Zc (b1 Sc (Aa (kD (.str "door doors")) (Aa (b2 Gb (b2 Gb (b2 Gb (kD (.str "wing ")) (b2 Ae (Ca 2) (kD (.int 38)))) (kD (.str " = "))) (b2 Ae (Ca 2) (kD (.int 0)))) (Aa (b2 Gb (kD (.str "wing wings = doors ")) (b2 Ae (Ca 2) (kD (.int 0)))) Ka)))))))
  (Sa (Of 3 (Bl Xg (Ca 3) (Zc (b1 Sc (Aa (b2 Gb (b2 Gb (b2 Gb (kD (.str "key ")) (b2 Ae (Ca 2) (kD (.int 39)))) (kD (.str " opens "))) (b2 Ae (Ca 2) (kD (.int 38)))) (Aa (kD (.str "key keys opens wings")) Ka))))))
  (Sa (Cn 3 (Nb 5 (bM Tf (kD (.str "\n")) (Aa (Qa 3) Ka))))
  (Sa (Nb 6 (b2 Gb (kD (.int 1)) (b2 Dh (b1 (La 2 Hb) (Aa (Qa 0) (Aa (kD (.int 2)) Ka))) (b1 Pc (Ca 3)))))
  (Sa (Nb 7 (Zc (Bl Xg (Zc (Bl Xg (Zc (b3 Vr (Ca 3) Vc (b1 Ue (Qa 6)))) (Zc (b1 Sc (Aa (b1 (La 2 Bf) (Aa (b2 Ae (Ca 2) (kD (.int 37))) (Aa (b1 (La 2 Hb) (Aa (Qa 0) (Aa (kD (.int 1)) Ka))) Ka))) Ka))))) (Zc (b3 Vr (Ca 3) (b1 Ue (Qa 6)) Vc)))))
  (Sa (Nb 8 (bM Tf (kD (.str "\n")) (Aa (Qa 7) Ka)))
  (Sa (Nb 9 (b2 Dh (Ca 1) (kD (.int 8))))
  (Sa (Xj (tR (b2 Mm (Ca 9) (kD (.int 5)))) (Sa (Nb 6 (kD (.int 0)))
  (Nb 8 (bM Tf (kD (.str "\n")) (Aa (Zc (Bl Xg (Zc (b1 Sc (Aa (b1 (La 1 Qc) (Aa (b1 (La 2 Hb) (Aa (Qa 0) (Aa (kD (.int 1)) Ka))) Ka)) Ka))) (Zc (b3 Vr (Ca 3) (b1 Ue (kD (.int 1))) Vc)))) Ka)))) Out.nx)
  (Sa (Xj (tR (b2 Mm (Ca 9) (kD (.int 6)))) (Sa (Nb 6 (b1 Pc (Ca 3)))
  (Nb 8 (b2 Gb (Ca 5) (kD (.str "\n"))))) Out.nx)
  (Sa (Xj (tR (b2 Mm (Ca 9) (kD (.int 7)))) (Sa (Nb 6 (kD (.int 0)))
  (Cn 3 (Nb 8 (b2 Ae (Zc (b1 Sc (Aa (kD (.int 5)) (Aa (kD .non) (Aa (kD (.bl true)) (Aa (Qa 3) (Aa (b1 Zn (Aa (kD (.str "rules 1 2 1 1")) (Aa (kD (.str "door a")) Ka))) Ka))))))) (b2 Dh (b1 (La 2 Hb) (Aa (Qa 0) (Aa (kD (.int 1)) Ka))) (kD (.int 5))))))) Out.nx)
  (Sa (Xj (tR (b2 Px (b1 (La 1 Oc) (Aa (Qa 8) Ka)) (Ca 6))) (Pb (kD (.bl false))) Out.nx)
  (Sa (Nb 10 (b1 (La 1 Od) (Aa (b1 (La 1 Ta) (Aa (Qa 5) Ka)) Ka)))
  (Pb (Yl (b1 (Yd "str") (Ca 10)) (b2 Mm (Ca 10) (Ca 5))))))))))))))))))))
def RM:List D->Res D:=Df 11 XV
local macro_rules| `(tactic| walk_at "ev")=> `(tactic| simp only[Zb,Qb,map_cons,map_nil,List.length_cons,length_nil,cons_append,nil_append,reduceAdd,reduceSub,replicate,
 kD,b1,b2,b3,NG,tR,Jn,Xe,Cc,Yl,HQ,GQ,Ka,Aa,Vc,Zc,Xd,Sa,Nb,Of,Xj,Om,Pt,Bl,Xn,Pb,WA,QA,GO,YA,UA,SA,VA,C4,Br,
 Va,Ob,Na,Uf,Kb,Res.bind_ok,Res.bind_ex,Res.bind_stuck,Cb,Zs,Uj,Ma,Rh,Ui,Hk,Aj,Td,Gi,Vn,Ab,Ro,
 Qi,Nl,Es,Ll,Kl,Rn,Qp,Ph,Mi,Bp,Vs,Em,Lj,Dj,Po,Qo,Wr,Up,Af,Zp,Lk,Xl,Wl,Ce,Oa,Fm,GB,HB,Yb,Ko,Fl,Pi,
 set_cons_zero,set_cons_succ,Sc,Zn,if_true,if_false,reduceIte,Bool.not_true,Bool.not_false,false_eq_true,zero_le,reduceLeDiff,Nat.zero_add,Int.reduceLT,true_and,and_true,and_self])
local macro_rules| `(tactic| walk_at "ev*")=> `(tactic| simp only[Zb,Qb,map_cons,map_nil,List.length_cons,length_nil,cons_append,nil_append,reduceAdd,reduceSub,replicate,
 kD,b1,b2,b3,NG,tR,Jn,Xe,Cc,Yl,HQ,GQ,Ka,Aa,Vc,Zc,Xd,Sa,Nb,Of,Xj,Om,Pt,Bl,Xn,Pb,WA,QA,GO,YA,UA,SA,VA,C4,Br,
 Va,Ob,Na,Uf,Kb,Res.bind_ok,Res.bind_ex,Res.bind_stuck,Cb,Zs,Uj,Ma,Rh,Ui,Hk,Aj,Td,Gi,Vn,Ab,Ro,
 Qi,Nl,Es,Ll,Kl,Rn,Qp,Ph,Mi,Bp,Vs,Em,Lj,Dj,Po,Qo,Wr,Up,Af,Zp,Lk,Xl,Wl,Ce,Oa,Fm,GB,HB,Yb,Ko,Fl,Pi,
 set_cons_zero,set_cons_succ,Sc,Zn,if_true,if_false,reduceIte,Bool.not_true,Bool.not_false,false_eq_true,zero_le,reduceLeDiff,Nat.zero_add,Int.reduceLT,true_and,and_true,and_self, *])
local macro_rules| `(tactic| walk_at "evs")=> `(tactic| simp[Zb,Qb,map_cons,map_nil,List.length_cons,length_nil,cons_append,nil_append,reduceAdd,reduceSub,replicate,
 kD,b1,b2,b3,NG,tR,Jn,Xe,Cc,Yl,HQ,GQ,Ka,Aa,Vc,Zc,Xd,Sa,Nb,Of,Xj,Om,Pt,Bl,Xn,Pb,WA,QA,GO,YA,UA,SA,VA,C4,Br,
 Va,Ob,Na,Uf,Kb,Res.bind_ok,Res.bind_ex,Res.bind_stuck,Cb,Zs,Uj,Ma,Rh,Ui,Hk,Aj,Td,Gi,Vn,Ab,Ro,
 Qi,Nl,Es,Ll,Kl,Rn,Qp,Ph,Mi,Bp,Vs,Em,Lj,Dj,Po,Qo,Wr,Up,Af,Zp,Lk,Xl,Wl,Ce,Oa,Fm,GB,HB,Yb,Ko,Fl,Pi,
 set_cons_zero,set_cons_succ,Sc,Zn,if_true,if_false,reduceIte,Bool.not_true,Bool.not_false,false_eq_true,zero_le,reduceLeDiff,Nat.zero_add,Int.reduceLT,true_and,and_true,and_self, *])
def jn(c:Nat):List (List Nat)->List Nat
 | []=> []
 | [x]=>x
 |x::y::r=>x++c::jn c (y::r)
theorem No(c:Nat)(x:List Nat){r:List (List Nat)}(h:r≠ []):jn c (x::r)=x++c::jn c r:=by
 cases r with
 |nil=>exact absurd rfl h
 |cons y r=>rfl
theorem Ez{c:Nat}:∀ {x y a b:List Nat},c∉x->c∉y->x++c::a=y++c::b->x=y/\a=b
 | [],[],_,_,_,_,e=>by
  simp only[nil_append,List.cons.injEq,true_and]at e
  exact⟨rfl,e⟩
 | [],z::y,_,_,_,hy,e=>by
  simp only[nil_append,cons_append,List.cons.injEq]at e
  exact absurd (by rw[e.1];exact mem_cons_self) hy
 |z::x,[],_,_,hx,_,e=>by
  simp only[nil_append,cons_append,List.cons.injEq]at e
  exact absurd (by rw[e.1];exact mem_cons_self) hx
 |z::x,w::y,a,b,hx,hy,e=>by
  simp only[cons_append,List.cons.injEq]at e
  obtain⟨h1,h2⟩:=Ez (λh=>hx (mem_cons_of_mem _ h)) (λh=>hy (mem_cons_of_mem _ h)) e.2
  exact⟨by rw[e.1,h1],h2⟩
theorem BF{c:Nat}:∀ {xs ys:List (List Nat)},xs≠ []->ys≠ []->(∀ x∈xs,c∉x)->(∀ y∈ys,c∉y)->jn c xs=jn c ys->xs=ys
 | [],_,h,_,_,_,_=>absurd rfl h
 |_::_,[],_,h,_,_,_=>absurd rfl h
 | [x],[y],_,_,_,_,e=>by rw[show x=y from e]
 | [x],y::z::r,_,_,hx,_,e=>by
  have e':x=y++c::jn c (z::r):=e
  exact absurd (by rw[e'];simp) (hx x mem_cons_self)
 |x::w::r,[y],_,_,_,hy,e=>by
  have e':x++c::jn c (w::r)=y:=e
  exact absurd (by rw[<-e'];simp) (hy y mem_cons_self)
 |x::w::r,y::z::t,_,_,hx,hy,e=>by
  have e':x++c::jn c (w::r)=y++c::jn c (z::t):=e
  obtain⟨h1,h2⟩:=Ez (hx x mem_cons_self) (hy y mem_cons_self) e'
  rw[h1,BF (by simp) (by simp) (λa ha=>hx a (mem_cons_of_mem _ ha)) (λa ha=>hy a (mem_cons_of_mem _ ha)) h2]
theorem Ze(c:Nat):∀ xs:List Str,(Str.join ⟨#[c]⟩ xs).cps.toList=jn c (xs.map λx=>x.cps.toList)
 | []=>rfl
 | [x]=>rfl
 |x::y::r=>by
  show((x++(⟨#[c]⟩:Str))++Str.join ⟨#[c]⟩ (y::r)).cps.toList=x.cps.toList++c::jn c ((y::r).map λx=>x.cps.toList)
  rw[<-Ze c (y::r),Str.cps_append,Str.cps_append]
  simp
theorem Vi(c:Nat)(xs:List Str)(hn:xs≠ [])(hf:∀ x∈xs,c∉x.cps.toList):PySem.Txt.split (PySem.Txt.join ⟨#[c]⟩ xs) ⟨#[c]⟩=xs:=by
 have ej:PySem.Txt.join ⟨#[c]⟩ xs=Str.join ⟨#[c]⟩ xs:=StrLaws.glued_eq_join _ _
 rw[ej]
 have h1:=StrLaws.join_split (Str.join ⟨#[c]⟩ xs) ⟨#[c]⟩
 have h2:=StrLaws.split_free (Str.join ⟨#[c]⟩ xs) c
 have h3:=split_pos (Str.join ⟨#[c]⟩ xs) ⟨#[c]⟩
 generalize PySem.Txt.split (Str.join ⟨#[c]⟩ xs) ⟨#[c]⟩=ys at h1 h2 h3 ⊢
 have h4:=congrArg (λx:Str=>x.cps.toList) h1
 simp only[Ze]at h4
 have h5:=BF (c:=c) (by intro z;rw[List.map_eq_nil_iff.mp z]at h3;simp at h3) (by intro z;exact hn (List.map_eq_nil_iff.mp z)) (λx hx=>by
  obtain⟨y,hy,rfl⟩:=mem_map.mp hx
  exact h2 y hy) (λx hx=>by
  obtain⟨y,hy,rfl⟩:=mem_map.mp hx
  exact hf y hy) h4
 have inj:∀ {as bs:List Str},as.map (λx:Str=>x.cps.toList)=bs.map (λx:Str=>x.cps.toList)->as=bs:=by
  intro as
  induction as with
  |nil=>intro bs e;cases bs with|nil=>rfl|cons b bs=>cases e
  |cons a as ih=>
   intro bs e
   cases bs with
   |nil=>cases e
   |cons b bs=>
    simp only[map_cons,List.cons.injEq]at e
    rw[ih e.2]
    congr 1
    exact Str.ext' (Array.toList_inj.mp e.1)
 exact inj h5
theorem Jm(z:Str)(c:Nat)(hz:z.length<=900):Pf z [.str ⟨#[c]⟩]=.ok ((PySem.Txt.split z ⟨#[c]⟩).map D.str):=by
 unfold Pf
 refine if_pos ⟨rfl,by omega,?_⟩
 rw[len_partsBetween]
 have:=StrLaws.occ_length_le z ⟨#[c]⟩ 0 z.length (z.length+1)
 omega
theorem Mh:∀ xs:List Str,Pk (xs.map D.str)=some xs
 | []=>rfl
 |x::xs=>by show(Pk (xs.map D.str)).map (x:: ·)=_;rw[Mh xs];rfl
theorem Il(c:Nat)(xs:List Str):(PySem.Txt.join ⟨#[c]⟩ xs).length<=(xs.map (·.length)).sum+xs.length:=by
 rw[show PySem.Txt.join ⟨#[c]⟩ xs=Str.join ⟨#[c]⟩ xs from StrLaws.glued_eq_join _ _]
 have:=StrLaws.join_length_le ⟨#[c]⟩ xs
 have e:(⟨#[c]⟩:Str).length=1:=rfl
 rw[e]at this
 omega
abbrev O3:Str:="0123456789"
def Jz:D->Bool
 | .str c=>ND c O3
 |_=>false
theorem Ps(x:Str)(h:x.length<=1000):Pc (.str x)=.ok (.int x.length):=if_pos (le_trans h Jl)
variable{x:Str}
theorem Yv{d:D}(h:d∈We x):∃ c,d=.str c:=by
 unfold We at h
 obtain⟨c,_,rfl⟩:=mem_map.mp h
 exact⟨_,rfl⟩
theorem ES(x:Str)(h:x.length<=1000):La 2 Rc [.str x,.str O3]=.ok (.bl ((We x).all Jz)):=by
 have e0:WF (.str x)=.ok (We x):=rfl
 have e1:Rf 1 (Yc 0) (λ_=>.ok true) Gk [some (.d (.str x)),some (.d (.str O3))] (We x)=.ok ((We x).map λd=>D.bl (Jz d)):=by
  refine Dd ?_ (by unfold We;rw[length_map,length_toList];exact le_trans h (by decide))
  refine He (λd=>D.bl (Jz d)) _ _ none λd hd=>?_
  obtain⟨c,rfl⟩:=Yv hd
  rfl
 have e2:=Xr Jz (We x)
 refine Eb _ _ _ _ ?_ rfl
 unfold Rc Pn
 walk_at "ev*"
def Hq(x:Str):Bool:=decide (1<=x.length/\x.length<=3)&&((We x).all Jz&&(x=="0"|| !(x.cps.toList.head? ==some 48)))
theorem KG{n:Nat}(h:n<=1000):n<=sizeLine:=le_trans h Jl
theorem Zd(x y:Str)(h:x.length+y.length<=100000):Gb (.str x) (.str y)=.ok (.str (x++y)):=if_pos (by rw[sizeLine_eq];omega)
theorem Lb(x y:Str):(x++y).length=x.length+y.length:=Array.size_append ..
theorem Fr(i j:Int)(h:0<j):Dh (.int i) (.int j)=.ok (.int (i%j)):=by rw[Em,if_pos h]
theorem RK(i j:Int)(h:0<j)(h2:j<1073741824):Um (.int i) (.int j)=.ok (.int (i / j)):=by rw[Lj,if_pos ⟨h,h2⟩]
def Kx:List Nat:= [97,98,99,100,101,102,103,104,105,106,107,108,109,110,111,112,113,114,115,116,117,118,119,120,121,122]
def Uo(x:Str):Prop:=∀ c∈x.cps.toList,c∈Kx
variable{y:Str}
theorem Eo(hx:Uo x)(hy:Uo y):Uo (x++y):=λc hc=>by
 simp only[Str.cps_append,toList_append,mem_append]at hc
 exact hc.elim (hx c) (hy c)
theorem HF{c:Nat}(hx:Uo x)(h:c∈x.cps.toList):Uo ⟨#[c]⟩:=λd hd=>by
 have:d=c:=by simpa using hd
 rw[this];exact hx c h
theorem SO(hx:Uo x)(l u:Option Int):Uo (PySem.Txt.slice x l u):=by
 unfold PySem.Txt.slice
 split
 .exact hx
 .intro c hc
  obtain⟨i,_,e⟩:=mem_filterMap.mp (show c∈List.filterMap _ _ from hc)
  exact hx c (by rw[Array.mem_toList_iff];exact Array.mem_of_getElem? e)
theorem ixS(z:Str)(i:Int)(hz:z.length<=1000)(h0:0<=i)(h1:i<z.length):∃ c,Ae (.str z) (.int i)=.ok (.str ⟨#[c]⟩)/\c∈z.cps.toList:=by
 have hl:z.cps.toList.length=z.length:=length_toList ..
 obtain⟨c,e,hm⟩:=PB (xs:=z.cps.toList) h0 (by rw[hl];exact h1)
 refine⟨c,?_,hm⟩
 show(@ite (Res D) (z.length<=sizeLine) (propDecidable _) _ _)=_
 rw[if_pos (KG hz),e]
theorem RO(w:Str)(l u:Option Int):(PySem.Txt.slice w l u).length<=(PySem.Builtin.Str.strSliceIndices l u 1 w.length).length:=by
 unfold PySem.Txt.slice
 split
 .rename_i h
  have h':(PySem.Builtin.Str.strSliceIndices l u 1 w.length).length=w.length:=by simpa using h
  omega
 .show(List.filterMap _ (PySem.Builtin.Str.strSliceIndices l u 1 w.length)).toArray.size<=_
  rw[size_toArray]
  exact List.length_filterMap_le _ _
theorem SY(n:Nat)(p:Int)(h0:0<=p)(h1:p<=n):(PySem.Builtin.Str.strSliceIndices none (some p) 1 n).length<=p.toNat:=by
 unfold PySem.Builtin.Str.strSliceIndices PySem.sliceRange
 simp only[show(1:Int)>0 by decide,if_true,length_map,List.length_range]
 (split<;>(try split)<;>(try split)<;>(try simp only[Int.ediv_one])<;>omega)
theorem SL(n:Nat)(p:Int)(h0:0<=p)(h1:p<=n):(PySem.Builtin.Str.strSliceIndices (some p) none 1 n).length<=n-p.toNat:=by
 unfold PySem.Builtin.Str.strSliceIndices PySem.sliceRange
 simp only[show(1:Int)>0 by decide,if_true,length_map,List.length_range]
 (split<;>(try split)<;>(try split)<;>(try simp only[Int.ediv_one])<;>omega)
theorem E2(w:Str)(p:Int)(h0:0<=p)(h1:p<=(w.length:Int)):(PySem.Txt.slice w none (some p)).length+(PySem.Txt.slice w (some p) none).length<=w.length:=by
 have a:=RO w none (some p)
 have b:=RO w (some p) none
 have c:=SY w.length p h0 h1
 have d:=SL w.length p h0 h1
 omega
theorem Ly(z:Str)(lo hi:Option Int)(h:z.length<=1000):DJ (.str z) lo hi=.ok (.str (PySem.Txt.slice z lo hi)):=if_pos (KG h)
theorem LQ:Uo "abcdefghijklmnopqrstuvwxyz":=by unfold Uo;decide +kernel
theorem Tw(ns:List Int)(k:Int)(h0:0<=k):∃ v,La 2 Hb [.lst (ns.map D.int),.int k]=.ok (.int v):=by
 by_cases h:k<(ns.length:Int)
 .obtain⟨d,e,hd⟩:=PB (xs:=ns.map D.int) (i:=k) h0 (by rw[length_map];exact h)
  obtain⟨v,_,rfl⟩:=mem_map.mp hd
  have e':=Rq _ _ _ e
  have dt:decide (k<((ns.map D.int).length:Int))=true:=decide_eq_true (by rw[length_map];exact h)
  refine⟨v,Eb _ _ _ _ ?_ rfl⟩
  generalize ns.map D.int=ds at*
  unfold Hb Ni
  walk_at "ev*"
 .have dt:decide (k<((ns.map D.int).length:Int))=false:=decide_eq_false (by rw[length_map];exact h)
  refine⟨0,Eb _ _ _ _ ?_ rfl⟩
  generalize ns.map D.int=ds at*
  unfold Hb Ni
  walk_at "ev*"
theorem UM(c k:Int)(h0:0<=k)(h1:k<=1000):∃ v,La 2 Be [.int c,.int k]=.ok (.int v):=by
 have m1:=Fr c 2147483647 (by decide)
 have b0:=emod_nonneg c (show(2147483647:Int)≠0 by decide)
 have b1':=emod_lt_of_pos c (show(0:Int)<2147483647 by decide)
 have k2:Mx (.int 2) (.int k)=.ok (.int (2*k)):=by rw[Dj];exact if_pos (.inl (by omega))
 generalize c%2147483647=r at*
 have x1:Mx (.int (r+7)) (.int (48271+2*k))=.ok (.int ((r+7)*(48271+2*k))):=by rw[Dj];exact if_pos (.inl (by omega))
 have m2:=Fr ((r+7)*(48271+2*k)) 2147483629 (by decide)
 have b2':=emod_nonneg ((r+7)*(48271+2*k)) (show(2147483629:Int)≠0 by decide)
 have b3:=emod_lt_of_pos ((r+7)*(48271+2*k)) (show(0:Int)<2147483629 by decide)
 generalize (r+7)*(48271+2*k)%2147483629=q at*
 have x2:Mx (.int q) (.int q)=.ok (.int (q*q)):=by rw[Dj];exact if_pos (.inl (by omega))
 have m3:=Fr (q*q) 2147483587 (by decide)
 refine⟨q*q%2147483587,Eb _ _ _ _ ?_ rfl⟩
 clear b0 b1' b2' b3 h0 h1
 unfold Be Fo
 simp only[Zb,Qb,map_cons,map_nil,List.length_cons,length_nil,cons_append,nil_append,reduceAdd,reduceSub,replicate,kD,b2,Sa,Nb,Pb,Va,Ob,Na,Kb,Res.bind_ok,Cb,Ma,Ph,m1,k2,x1,m2,x2,m3,set_cons_zero,set_cons_succ,Yb]
theorem EI(c r:Int)(w:Str)(x:D)(hw:w.length<=900)(hc:Uo w):∃ (r2:Int) (w2:Str),Qh [some (.d (.int c)),some (.d (.int r)),some (.d (.str w)),some (.d x)]=.nx [some (.d (.int c)),some (.d (.int r2)),some (.d (.str w2)),some (.d x)]/\w2.length=w.length+1/\Uo w2:=by
 have m1:=Fr r 26 (by decide)
 have d1:=RK r 26 (by decide) (by decide)
 have b0:=emod_nonneg r (show(26:Int)≠0 by decide)
 have b1':=emod_lt_of_pos r (show(0:Int)<26 by decide)
 obtain⟨ch,e1,hm⟩:=ixS "abcdefghijklmnopqrstuvwxyz" (r%26) (by decide) b0 b1'
 have e2:=Zd w ⟨#[ch]⟩ (by rw[show(⟨#[ch]⟩:Str).length=1 from rfl];omega)
 refine⟨r / 26,w++⟨#[ch]⟩,?_,by rw[Lb];rfl,Eo hc (HF LQ hm)⟩
 clear b0 b1' hw hc hm
 generalize r%26=q at*
 unfold Qh
 walk_at "ev*"
theorem ZS(c:Int):∃ w:Str,La 1 Zf [.int c]=.ok (.str w)/\w.length<=10/\Uo w:=by
 have ep:XN (.int 26) (.int 10)=.ok (.int (26^10)):=if_pos ⟨by decide,by decide,by decide⟩
 have d1:=RK c 10 (by decide) (by decide)
 have m1:=Fr (c / 10) (26^10) (by decide)
 have m2:=Fr c 10 (by decide)
 have b0:=emod_nonneg c (show(10:Int)≠0 by decide)
 have b1':=emod_lt_of_pos c (show(0:Int)<10 by decide)
 generalize c%10=q at*
 have rg:=ED (1+q) (by omega) (by omega)
 have hq:(1+q).toNat<=10:=by omega
 generalize (1+q).toNat=n at*
 generalize c / 10%26^10=r at*
 obtain⟨δ2,f,r2,w,y,rfl,hl,hok⟩:=Ax (t:=Yc 3) (body:=Qh) (λi δ=>∃ (r:Int) (w:Str) (y:Option S),δ= [some (.d (.int c)),some (.d (.int r)),some (.d (.str w)),y]/\w.length=i/\Uo w) (Wn 0 n) [some (.d (.int c)),some (.d (.int r)),some (.d (.str "")),none] (λi d δ hd hI=>by
   obtain⟨r,w,y,rfl,hw,hk⟩:=hI
   obtain⟨hi,rfl⟩:=Nt hd
   obtain⟨r2,w2,e,h2,k2⟩:=EI c r w (.int (0+i)) (by omega) hk
   exact⟨_,rfl,_,.inl e,r2,w2,_,rfl,by omega,k2⟩) ⟨r,"",none,rfl,rfl,λc hc=>absurd hc (by show ¬ c∈([]:List Nat);simp)⟩
 rw[Ot]at hl
 refine⟨w,Eb _ _ _ _ ?_ rfl,by omega,hok⟩
 clear b0 b1'
 unfold Zf Lq
 simp only[Zb,Qb,map_cons,map_nil,List.length_cons,length_nil,cons_append,nil_append,reduceAdd,reduceSub,replicate,kD,b1,b2,Aa,Ka,Oa,Sa,Nb,Om,Pb,Va,Ob,Na,Kb,Res.bind_ok,Cb,Ma,Ph,d1,ep,m1,m2,rg,f,set_cons_zero,set_cons_succ,Yb]
def sL(ks:List Nat)(f:Nat->Str):D:=.lst (ks.map λk=>D.str (f k))
def MB:List D:= [.str "door",.str "key",.str "opens",.str "rules",.str "wing"]
def HA(w:Str):Str:=if inB (.str w) MB=true then w++"x" else w
theorem Xx(w:Str):(HA w).length=w.length+(if inB (.str w) MB=true then 1 else 0):=by
 unfold HA
 split
 .rw[Lb];rfl
 .rfl
theorem VT(w:Str)(h:w.length<=900):La 1 Cf [.str w]=.ok (.str (HA w)):=by
 have e1:inR (.str w) (.lst [.str "door",.str "key",.str "opens",.str "rules",.str "wing"])=.ok (.bl (inB (.str w) MB)):=by unfold L3.inR;dsimp only;exact if_pos (by simp[Bj])
 have e2:=Zd w "x" (by rw[show("x":Str).length=1 from rfl];omega)
 unfold HA
 generalize inB (.str w) MB=b at*
 cases b with
 |true=>
  rw[if_pos rfl]
  refine Eb _ _ _ _ ?_ rfl
  clear h
  unfold Cf Cl
  walk_at "ev*"
 |false=>
  rw[if_neg Bool.false_ne_true]
  refine Eb _ _ _ _ ?_ rfl
  clear h
  unfold Cf Cl
  walk_at "ev*"
def Yg(z:Str)(i:Nat):Nat:=z.cps.toList.getD i 0
theorem ixZ(z:Str)(i:Nat)(hz:z.length=9)(h1:i<9):Ae (.str z) (.int (i:Int))=.ok (.str ⟨#[Yg z i]⟩):=by
 have hl:z.cps.toList.length=9:=(length_toList ..).trans hz
 have e:Lw z.cps.toList (i:Int)=some (Yg z i):=by
  refine Kr (by omega) ?_
  rw[show((i:Int)).toNat=i by omega]
  unfold Yg
  rw[List.getD_eq_getElem?_getD,getElem?_eq_getElem (by omega)];rfl
 show(@ite (Res D) (z.length<=sizeLine) (propDecidable _) _ _)=_
 rw[if_pos (KG (by omega)),e]
theorem Ej(h:x.cps.toList=y.cps.toList):x=y:=by
 cases x;cases y
 congr 1
 exact Array.toList_inj.mp h
theorem BQ(z:Str)(h:∀ i,i<9->∀ j,j<9->Yg z i=Yg z j->i=j):∀ i j,i<9->j<9->Yg z i=Yg z j->i=j:=λi j a b=>h i a j b
def zOk(z:Str):Prop:=z.length=9/\∀ i j,i<9->j<9->Yg z i=Yg z j->i=j
def fN(l r z:Str)(k:Nat):Str:=HA (l++(⟨#[Yg z (k%9)]⟩++⟨#[Yg z (k / 9%9)]⟩)++r)
theorem Ap(x:Str):x.cps.toList.length=x.length:=length_toList ..
theorem OC(a b:D)(w z l r:Str)(p:Int)(i:Nat)(f:Nat->Str)(ef:f=fN l r z)(x:Option S)(hz:zOk z)(l1:l.length<=10)(l2:r.length<=10)(s1:DJ (.str w) none (some p)=.ok (.str l))(s2:DJ (.str w) (some p) none=.ok (.str r))(hl:i<=100):
  ∃ y:Option S,Pg [some (.d a),some (.d b),some (.d (.str w)),some (.d (.int p)),some (.d (.str z)),some (.o ((range i).map λk=>D.str (f k))),some (.d (.int (i:Int))),x]=.nx [some (.d a),some (.d b),some (.d (.str w)),some (.d (.int p)),some (.d (.str z)),some (.o ((range (i+1)).map λk=>D.str (f k))),some (.d (.int (i:Int))),y]:=by
 have m1:=Fr (i:Int) 9 (by decide)
 have d1:=RK (i:Int) 9 (by decide) (by decide)
 have m2:=Fr ((i:Int) / 9) 9 (by decide)
 have e1:=ixZ z (i%9) hz.1 (by omega)
 have e2:=ixZ z (i / 9%9) hz.1 (by omega)
 rw[show((i%9:Nat):Int)=(i:Int)%9 by omega]at e1
 rw[show((i / 9%9:Nat):Int)=(i:Int) / 9%9 by omega]at e2
 have e3:=Zd ⟨#[Yg z (i%9)]⟩ ⟨#[Yg z (i / 9%9)]⟩ (by show 1+1<=100000;decide)
 have hi2:((⟨#[Yg z (i%9)]⟩:Str)++⟨#[Yg z (i / 9%9)]⟩).length=2:=by rw[Lb];rfl
 have ei:f i=HA (l++(⟨#[Yg z (i%9)]⟩++⟨#[Yg z (i / 9%9)]⟩)++r):=by rw[ef];rfl
 generalize (⟨#[Yg z (i%9)]⟩:Str)++⟨#[Yg z (i / 9%9)]⟩=inn at*
 have e4:=Zd l inn (by omega)
 have e5:=Zd (l++inn) r (by rw[Lb];omega)
 have e6:=VT (l++inn++r) (by rw[Lb,Lb];omega)
 rw[<-ei]at e6
 have e7:=Jr 5 [some (.d a),some (.d b),some (.d (.str w)),some (.d (.int p)),some (.d (.str z)),some (.o ((range i).map λk=>D.str (f k))),some (.d (.int i)),some (.d (.str inn))] ((range i).map λk=>D.str (f k)) (.str (f i)) rfl (by rw[length_map,List.length_range];omega)
 refine⟨some (.d (.str inn)),?_⟩
 rw[List.range_succ,map_append,List.map_singleton]
 clear l1 l2 hi2 hz hl ei ef
 generalize (range i).map (λk=>D.str (f k))=ds at*
 generalize (i:Int)%9=q1 at*
 generalize (i:Int) / 9%9=q2 at*
 generalize l++inn++r=t at*
 unfold Pg
 simp only[kD,b1,b2,b3,Aa,Ka,Vc,Oa,Sa,Nb,Xn,Va,Ob,Na,Kb,Res.bind_ok,Cb,Ma,m1,d1,m2,e1,e2,e3,s1,s2,e4,e5,e6,e7,Ce,set_cons_zero,set_cons_succ]
variable{z:Str}
theorem HE(hz:Uo z)(h9:z.length=9)(i:Nat)(h:i<9):Uo ⟨#[Yg z i]⟩:=HF hz (by
 have hl:z.cps.toList.length=9:=(length_toList ..).trans h9
 unfold Yg
 rw[List.getD_eq_getElem?_getD,getElem?_eq_getElem (by omega)]
 exact getElem_mem ..)
variable{w:Str}
theorem YT(h:Uo w):Uo (HA w):=by
 unfold HA
 split
 .exact Eo h (by unfold Uo;decide +kernel)
 .exact h
def Gd(x:Str):Prop:=(1<=x.length/\x.length<=12)/\Uo x/\inB (.str x) MB=false
theorem UL{t:Str}(h:inB (.str t) MB=true):t="door"\/t="key"\/t="opens"\/t="rules"\/t="wing":=by
 have h':("door":Str)=t\/("key":Str)=t\/("opens":Str)=t\/("rules":Str)=t\/("wing":Str)=t:=by simpa [inB,MB,Zj] using h
 rcases h' with h|h|h|h|h<;>simp[<-h]
theorem ZT(t:Str):inB (.str (HA t)) MB=false:=by
 unfold HA
 by_cases h:inB (.str t) MB=true
 .rw[if_pos h]
  rcases UL h with rfl|rfl|rfl|rfl|rfl<;>decide +kernel
 .rw[if_neg h];simpa using h
theorem C0(t:Str)(h:t.length<=12):(HA t).length<=12:=by
 unfold HA
 by_cases h:inB (.str t) MB=true
 .rw[if_pos h]
  rcases UL h with rfl|rfl|rfl|rfl|rfl<;>decide +kernel
 .rw[if_neg h];assumption
variable{r l:Str}
theorem R4(hl:l.length+r.length<=10)(kl:Uo l)(kr:Uo r)(hz:Uo z)(h9:z.length=9)(k:Nat):Gd (fN l r z k):=by
 unfold fN
 have e1:(⟨#[Yg z (k%9)]⟩:Str).length=1:=rfl
 have e2:(⟨#[Yg z (k / 9%9)]⟩:Str).length=1:=rfl
 refine⟨⟨?_,C0 _ (by rw[Lb,Lb,Lb];omega)⟩,YT (Eo (Eo kl (Eo (HE hz h9 _ (mod_lt _ (by decide))) (HE hz h9 _ (mod_lt _ (by decide))))) kr),ZT _⟩
 rw[Xx,Lb,Lb,Lb]
 omega
theorem FY(hz:zOk z){j k:Nat}(hj:j<81)(hk:k<81)(h:fN l r z j=fN l r z k):j=k:=by
 have l1:=Xx (l++(⟨#[Yg z (j%9)]⟩++⟨#[Yg z (j / 9%9)]⟩)++r)
 have l2:=Xx (l++(⟨#[Yg z (k%9)]⟩++⟨#[Yg z (k / 9%9)]⟩)++r)
 have h':HA (l++(⟨#[Yg z (j%9)]⟩++⟨#[Yg z (j / 9%9)]⟩)++r)=HA (l++(⟨#[Yg z (k%9)]⟩++⟨#[Yg z (k / 9%9)]⟩)++r):=h
 rw[h',l2]at l1
 have q1:(l++(⟨#[Yg z (j%9)]⟩++⟨#[Yg z (j / 9%9)]⟩)++r:Str).length=l.length+2+r.length:=by rw[Lb,Lb,Lb];rfl
 have q2:(l++(⟨#[Yg z (k%9)]⟩++⟨#[Yg z (k / 9%9)]⟩)++r:Str).length=l.length+2+r.length:=by rw[Lb,Lb,Lb];rfl
 rw[q1,q2]at l1
 have eq:(l++(⟨#[Yg z (j%9)]⟩++⟨#[Yg z (j / 9%9)]⟩)++r:Str)=l++(⟨#[Yg z (k%9)]⟩++⟨#[Yg z (k / 9%9)]⟩)++r:=by
  unfold HA at h'
  by_cases a:inB (.str (l++(⟨#[Yg z (j%9)]⟩++⟨#[Yg z (j / 9%9)]⟩)++r)) MB=true
  .by_cases b:inB (.str (l++(⟨#[Yg z (k%9)]⟩++⟨#[Yg z (k / 9%9)]⟩)++r)) MB=true
   .rw[if_pos a,if_pos b]at h'
    have h3:=congrArg (λs:Str=>s.cps.toList) h'
    simp only[Str.cps_append,toList_append,append_assoc,List.append_cancel_left_eq]at h3
    exact Ej (by simp only[Str.cps_append,toList_append,append_assoc,List.append_cancel_left_eq];simpa using h3)
   .rw[if_pos a,if_neg b]at l1;omega
  .by_cases b:inB (.str (l++(⟨#[Yg z (k%9)]⟩++⟨#[Yg z (k / 9%9)]⟩)++r)) MB=true
   .rw[if_neg a,if_pos b]at l1;omega
   .rw[if_neg a,if_neg b]at h';exact h'
 have h3:=congrArg (λs:Str=>s.cps.toList) eq
 simp only[Str.cps_append,toList_append,append_assoc,List.append_cancel_left_eq]at h3
 simp only[cons_append,nil_append,List.cons.injEq]at h3
 have g1:=hz.2 _ _ (mod_lt _ (by decide)) (mod_lt _ (by decide)) h3.1
 have g2:=hz.2 _ _ (mod_lt _ (by decide)) (mod_lt _ (by decide)) h3.2.1
 omega
abbrev Q3:Str:="abcdefghijklmnopqrstuvwxyz"
abbrev W6:List D:= [.str "door",.str "key",.str "opens",.str "rules",.str "wing"]
def Jx:D->Bool
 | .str c=>ND c Q3
 |_=>false
def Qd(x:Str):Bool:= !inB (.str x) W6&&(decide (1<=(x.length:Int)/\(x.length:Int)<=12)&&(We x).all Jx)
theorem T4(X L:D)(ds bs:List D)(b:Bool)(e0:WF X=.ok ds)(e1:Rf 1 (Yc 0) (λ_=>.ok true) Gk [some (.d X),some (.d L)] ds=.ok bs)(e2:On (.lst bs)=.ok (.bl b)):La 2 Rc [X,L]=.ok (.bl b):=by
 refine Eb _ _ _ _ ?_ rfl
 unfold Rc Pn
 walk_at "ev*"
theorem PY(x:Str)(h:x.length<=1000):La 2 Rc [.str x,.str Q3]=.ok (.bl ((We x).all Jx)):=by
 refine T4 _ _ (We x) ((We x).map λd=>D.bl (Jx d)) _ rfl (Dd ?_ (by unfold We;rw[length_map,length_toList];exact le_trans h (by decide))) (Xr Jx (We x))
 refine He (λd=>D.bl (Jx d)) _ _ none λd hd=>?_
 obtain⟨c,rfl⟩:=Yv hd
 rfl
theorem OZ(X:D)(e:Yd "str" X=.ok (.bl true))(e1:inR X (.tup ((["door","key","opens","rules","wing"]:List Str).map D.str))=.ok (.bl true)):La 1 Hc [X]=.ok (.bl false):=by
 refine Eb _ _ _ _ ?_ rfl
 generalize hL:(D.tup ((["door","key","opens","rules","wing"]:List Str).map D.str))=L at e1
 unfold Hc Am
 rw[hL]
 walk_at "ev*"
theorem PZ(X:D)(n:Int)(e:Yd "str" X=.ok (.bl true))(e1:inR X (.tup ((["door","key","opens","rules","wing"]:List Str).map D.str))=.ok (.bl false))(e2:Pc X=.ok (.int n))(h:decide (1<=n/\n<=12)=false):La 1 Hc [X]=.ok (.bl false):=by
 refine Eb _ _ _ _ ?_ rfl
 generalize hL:(D.tup ((["door","key","opens","rules","wing"]:List Str).map D.str))=L at e1
 unfold Hc Am
 rw[hL]
 walk_at "ev*"
theorem QZ(X:D)(n:Int)(b:Bool)(e:Yd "str" X=.ok (.bl true))(e1:inR X (.tup ((["door","key","opens","rules","wing"]:List Str).map D.str))=.ok (.bl false))(e2:Pc X=.ok (.int n))(h:decide (1<=n/\n<=12)=true)(e3:La 2 Rc [X,.str Q3]=.ok (.bl b)):La 1 Hc [X]=.ok (.bl b):=by
 refine Eb _ _ _ _ ?_ rfl
 generalize hL:(D.tup ((["door","key","opens","rules","wing"]:List Str).map D.str))=L at e1
 unfold Hc Am
 rw[hL]
 walk_at "ev*"
theorem Sr(x:Str)(h:x.length<=1000):La 1 Hc [.str x]=.ok (.bl (Qd x)):=by
 have e:Yd "str" (.str x)=.ok (.bl true):=Og _ (by simp[FP])
 have e1:inR (.str x) (.tup ((["door","key","opens","rules","wing"]:List Str).map D.str))=.ok (.bl (inB (.str x) W6)):=rfl
 have e2:=Ps x h
 unfold Qd
 cases hi:inB (.str x) W6 with
 |true=>rw[hi]at e1;exact OZ _ e e1
 |false=>
  rw[hi]at e1
  cases hn:decide (1<=(x.length:Int)/\(x.length:Int)<=12) with
  |false=>exact PZ _ _ e e1 e2 hn
  |true=>exact QZ _ _ _ e e1 e2 hn (PY x h)
theorem Y4(c:Nat):Jx (.str ⟨#[c]⟩)=decide (c∈Kx):=by
 have:=StrLaws.found_one Q3 c
 show ND ⟨#[c]⟩ Q3=_
 unfold ND
 rw[this]
 rfl
theorem Ox(x:Str)(h:Gd x):La 1 Hc [.str x]=.ok (.bl true):=by
 have hl:=h.1
 rw[Sr x (by omega)]
 have e1:inB (.str x) W6=false:=h.2.2
 have e2:(We x).all Jx=true:=by
  unfold We
  rw[all_map,all_eq_true]
  intro c hc
  show Jx (.str ⟨#[c]⟩)=true
  rw[Y4,decide_eq_true (h.2.1 c hc)]
 unfold Qd
 rw[e1,e2,decide_eq_true (by omega)]
 rfl
theorem AN(δ:Ga):Zz (.nx δ)=.nx δ:=rfl
theorem BN(d:D):Zz (.rt d)=.rt d:=rfl
def KL:Out->Res D
 | .rt d=>.ok d
 | .nx _=>.ok .non
 | .ex c fs=>.ex c fs
 |_=>.stuck
theorem RU(n:Nat)(g:Ga->Out)(ds:List D):OA n g ds=KL (g (Qb n ds)):=by unfold OA KL;cases g (Qb n ds)<;>rfl
theorem VR(d:D):KL (.rt d)=.ok d:=rfl
theorem UR(δ:Ga):KL (.nx δ)=.ok .non:=rfl
theorem TR(c:Str)(fs:List D):KL (.ex c fs)=.ex c fs:=rfl
theorem seqO_ex(c:Str)(fs:List D)(g:Ga->Out):Tt (.ex c fs) g=.ex c fs:=rfl
local macro_rules| `(tactic| walk_at "evx*")=> `(tactic| simp only[Tn,Tj,Ci,AN,BN,RU,VR,UR,TR,seqO_ex,Gy,Cb,Zb,Qb,map_cons,map_nil,List.length_cons,length_nil,cons_append,nil_append,reduceAdd,reduceSub,replicate,
 kD,b1,b2,b3,NG,tR,Jn,Xe,Cc,Yl,HQ,GQ,Ka,Aa,Vc,Zc,Xd,Sa,Nb,Of,Xj,Om,Pt,Bl,Xn,Pb,WA,QA,GO,YA,UA,SA,VA,C4,Br,
 Va,Ob,Na,Uf,Kb,Res.bind_ok,Res.bind_ex,Res.bind_stuck,Cb,Zs,Uj,Ma,Rh,Ui,Hk,Aj,Td,Gi,Vn,Ab,Ro,
 Qi,Nl,Es,Ll,Kl,Rn,Qp,Ph,Mi,Bp,Vs,Em,Lj,Dj,Po,Qo,Wr,Up,Af,Zp,Lk,Xl,Wl,Ce,Oa,Fm,GB,HB,Yb,Ko,Fl,Pi,
 set_cons_zero,set_cons_succ,Sc,Zn,if_true,if_false,reduceIte,Bool.not_true,Bool.not_false,false_eq_true,zero_le,reduceLeDiff,Nat.zero_add,Int.reduceLT,true_and,and_true,and_self, *])
local macro_rules| `(tactic| walk_at "evm*")=> `(tactic| simp only[bM,Zb,Qb,map_cons,map_nil,List.length_cons,length_nil,cons_append,nil_append,reduceAdd,reduceSub,replicate,
 kD,b1,b2,b3,NG,tR,Jn,Xe,Cc,Yl,HQ,GQ,Ka,Aa,Vc,Zc,Xd,Sa,Nb,Of,Xj,Om,Pt,Bl,Xn,Pb,WA,QA,GO,YA,UA,SA,VA,C4,Br,
 Va,Ob,Na,Uf,Kb,Res.bind_ok,Res.bind_ex,Res.bind_stuck,Cb,Zs,Uj,Ma,Rh,Ui,Hk,Aj,Td,Gi,Vn,Ab,Ro,
 Qi,Nl,Es,Ll,Kl,Rn,Qp,Ph,Mi,Bp,Vs,Em,Lj,Dj,Po,Qo,Wr,Up,Af,Zp,Lk,Xl,Wl,Ce,Oa,Fm,GB,HB,Yb,Ko,Fl,Pi,
 set_cons_zero,set_cons_succ,Sc,Zn,if_true,if_false,reduceIte,Bool.not_true,Bool.not_false,false_eq_true,zero_le,reduceLeDiff,Nat.zero_add,Int.reduceLT,true_and,and_true,and_self, *])
theorem Q4(a b:Str):Mm (.str a) (.str b)=.ok (.bl (decide (a=b))):=by
 unfold Mm
 rw[if_pos (by simp[Fe])]
 simp only[Zj]
 congr 2
theorem Q8(a b:Str):Px (.str a) (.str b)=.ok (.bl (!decide (a=b))):=by
 unfold Px
 rw[if_pos (by simp[Fe])]
 simp only[Zj]
 congr 3
theorem ZD(x:Str)(h:x.length<=1000):La 2 Hd [.str x,.int 3]=.ok (.bl (Hq x)):=by
 have ln:=Ps x h
 have hf:=ES x h
 by_cases hl:1<=x.length/\x.length<=3
 .have dt:decide (1<=(x.length:Int)/\(x.length:Int)<=3)=true:=decide_eq_true (by omega)
  cases hb:(We x).all Jz with
  |false=>
   rw[hb]at hf
   have hw:Hq x=false:=by unfold Hq;rw[hb];simp
   rw[hw]
   refine Eb _ _ _ _ ?_ rfl
   clear hb hw hl
   generalize (x.length:Int)=n at*
   unfold Hd Hi
   walk_at "ev*"
  |true=>
   rw[hb]at hf
   obtain⟨c,cs,hc⟩:∃ c cs,x.cps.toList=c::cs:=by
    cases hx:x.cps.toList with
    |nil=>
     have:x.length=0:=by show x.cps.size=0;rw[<-length_toList,hx];rfl
     omega
    |cons c cs=>exact⟨c,cs,rfl⟩
   have ix:Ae (.str x) (.int 0)=.ok (.str ⟨#[c]⟩):=by
    show(@ite (Res D) _ (propDecidable _) (match Lw x.cps.toList 0 with|some c=>Res.ok (D.str ⟨#[c]⟩)|none=>.stuck) .stuck)=_
    rw[if_pos (le_trans h Jl),hc,show Lw (c::cs) 0=some c from Kr (by omega) rfl]
   have e1:=Q4 x "0"
   have e2:=Q8 ⟨#[c]⟩ "0"
   have ec:decide ((⟨#[c]⟩:Str)="0")=(c==48):=by
    have:(⟨#[c]⟩:Str)="0"↔c=48:=by
     constructor
     .intro z
      have z':=congrArg (λs:Str=>s.cps.toList) z
      have z2: [c]= [48]:=z'
      simpa using z2
     .intro z;subst z;rfl
    rw[Bool.eq_iff_iff]
    simp[this]
   rw[ec]at e2
   have hw:Hq x=(decide (x="0")|| !(c==48)):=by
    unfold Hq
    rw[hb,decide_eq_true hl,hc]
    simp[Bool.beq_eq_decide_eq]
   rw[hw]
   refine Eb _ _ _ _ ?_ rfl
   clear hb hw hl hc ec
   generalize (x.length:Int)=n at*
   generalize decide (x="0")=b at*
   unfold Hd Hi
   cases b<;>(walk_at "ev*";rfl)
 .have dt:decide (1<=(x.length:Int)/\(x.length:Int)<=3)=false:=decide_eq_false (by omega)
  have hw:Hq x=false:=by unfold Hq;rw[decide_eq_false hl];rfl
  rw[hw]
  refine Eb _ _ _ _ ?_ rfl
  clear hw hl
  generalize (x.length:Int)=n at*
  unfold Hd Hi
  walk_at "ev*"
def JL:List Nat:= [48,49,50,51,52,53,54,55,56,57]
theorem B8(c:Nat):Jz (.str ⟨#[c]⟩)=decide (c∈JL):=by
 have:=StrLaws.found_one O3 c
 show ND ⟨#[c]⟩ O3=_
 unfold ND
 rw[this]
 rfl
theorem YU(x:Str):(We x).all Jz=x.cps.toList.all λc=>decide (c∈JL):=by
 unfold We
 rw[all_map]
 refine congrArg (λf=>x.cps.toList.all f) (funext λc=>?_)
 exact B8 c
def vI(x:Str):Int:=(PySem.intText? x).getD 0
def F3(x:Str):Bool:=match PySem.intText? x with
 |some v=>decide (0<=v)
 |none=>false
theorem A8:(JL.all λa=>F3 ⟨#[a]⟩&&JL.all λb=>F3 ⟨#[a,b]⟩&&JL.all λc=>F3 ⟨#[a,b,c]⟩)=true:=by decide +kernel
theorem CW(h:F3 x=true):PySem.intText? x=some (vI x)/\0<=vI x:=by
 unfold F3 at h
 unfold vI
 cases e:PySem.intText? x with
 |none=>rw[e]at h;cases h
 |some v=>rw[e]at h;exact⟨rfl,of_decide_eq_true h⟩
theorem U2(h:Hq x=true):PySem.intText? x=some (vI x)/\0<=vI x/\x.length<=3:=by
 have h0:=h
 unfold Hq at h
 rw[YU]at h
 simp only[and_eq_true,decide_eq_true_eq,all_eq_true]at h
 obtain⟨⟨l1,l2⟩,hf,_⟩:=h
 have f3:=A8
 simp only[all_eq_true,and_eq_true]at f3
 have hx:x=⟨x.cps.toList.toArray⟩:=by rw[Array.toArray_toList]
 have hl:x.cps.toList.length=x.length:=length_toList
 have key:F3 x=true:=by
  rw[hx]
  revert hf hl
  generalize x.cps.toList=l
  intro hf hl
  match l,hf,hl with
  | [],_,hl=>simp at hl;omega
  | [a],hf,_=>exact(f3 a (hf a (by simp))).1
  | [a,b],hf,_=>exact((f3 a (hf a (by simp))).2 b (hf b (by simp))).1
  | [a,b,c],hf,_=>exact((f3 a (hf a (by simp))).2 b (hf b (by simp))).2 c (hf c (by simp))
  |_::_::_::_::_,_,hl=>simp at hl;omega
 exact⟨(CW key).1,(CW key).2,l2⟩
theorem HS(h:Hq x=true):VL (.str x)=.ok (.int (vI x)):=by
 obtain⟨a,_,b⟩:=U2 h
 unfold VL
 dsimp only
 rw[a]
 dsimp only
 rw[if_pos (by omega)]
def Ys(xs:List Str):D:=if xs.all Hq=true then .tup ((xs.map vI).map D.int) else .non
theorem FT(c:Nat)(w:Str)(hw:w.length<=900):La 2 Kc [.str w,.str ⟨#[c]⟩]=.ok (Ys (PySem.Txt.split w ⟨#[c]⟩)):=by
 have is:Yd "str" (.str w)=.ok (.bl true):=Og _ (by simp[FP])
 have sp:Pf w [.str ⟨#[c]⟩]=.ok ((PySem.Txt.split w ⟨#[c]⟩).map D.str):=Jm w c hw
 have hs:∀ x∈PySem.Txt.split w ⟨#[c]⟩,x.length<=900:=λx hx=>le_trans (part_short hx) hw
 have hn:(PySem.Txt.split w ⟨#[c]⟩).length<=902:=le_trans (split_le _ _) (by omega)
 generalize PySem.Txt.split w ⟨#[c]⟩=xs at*
 have sq:Ei (.lst (xs.map D.str))=.ok (xs.map D.str):=rfl
 have c1:Rf 1 (Yc 0) (λ_=>.ok true) Mg [some (.d (.str w)),some (.d (.str ⟨#[c]⟩)),some (.d (.lst (xs.map D.str)))] (xs.map D.str)=.ok (xs.map λx=>D.bl (Hq x)):=by
  refine Dd ?_ (by rw[length_map];omega)
  have:=He (fe:=Mg) (λd=>match d with| .str x=>.bl (Hq x)|_=>.non) [some (.d (.str w)),some (.d (.str ⟨#[c]⟩)),some (.d (.lst (xs.map D.str)))] (xs.map D.str) none (λd hd=>by
   obtain⟨x,hx',rfl⟩:=mem_map.mp hd
   have e:=ZD x (by have:=hs x hx';omega)
   unfold Mg
   simp only[b1,Aa,Ka,kD,Va,Oa,Res.bind_ok,e])
  rw[map_map]at this
  exact this
 have al:On (.lst (xs.map λx=>D.bl (Hq x)))=.ok (.bl (xs.all Hq)):=Xr Hq xs
 refine Eb _ _ _ _ ?_ rfl
 unfold Ys
 cases hb:xs.all Hq with
 |false=>
  rw[hb]at al
  rw[if_neg Bool.false_ne_true]
  clear hs hb
  generalize xs.map (λx=>D.bl (Hq x))=bs at*
  generalize xs.map D.str=ss at*
  unfold Kc Bk
  simp only[Zb,Qb,map_cons,map_nil,List.length_cons,length_nil,cons_append,nil_append,reduceAdd,reduceSub,replicate,Sa,Xj,Nb,Pb,Cc,tR,b1,bM,Zc,Xd,Aa,Ka,kD,Na,Va,Ob,Oa,Res.bind_ok,is,Ab,Hk,Bool.not_true,Bool.not_false,false_eq_true,if_false,if_true,reduceIte,Ma,Rh,sp,Cb,set_cons_zero,set_cons_succ,sq,c1,al,Yb]
 |true=>
  rw[hb]at al
  rw[if_pos rfl]
  have c2:Rf 1 (Yc 0) (λ_=>.ok true) Ng [some (.d (.str w)),some (.d (.str ⟨#[c]⟩)),some (.d (.lst (xs.map D.str)))] (xs.map D.str)=.ok ((xs.map vI).map D.int):=by
   refine Dd ?_ (by rw[length_map];omega)
   have:=He (fe:=Ng) (λd=>match d with| .str x=>.int (vI x)|_=>.non) [some (.d (.str w)),some (.d (.str ⟨#[c]⟩)),some (.d (.lst (xs.map D.str)))] (xs.map D.str) none (λd hd=>by
    obtain⟨x,hx',rfl⟩:=mem_map.mp hd
    have e:=HS (all_eq_true.mp hb x hx')
    unfold Ng
    simp only[b1,Na,Res.bind_ok,e])
   rw[map_map]at this ⊢
   exact this
  have tt:Ao (.lst ((xs.map vI).map D.int))=.ok (.tup ((xs.map vI).map D.int)):=rfl
  clear hs hb
  generalize (xs.map vI).map D.int=ns at*
  generalize xs.map (λx=>D.bl (Hq x))=bs at*
  generalize xs.map D.str=ss at*
  unfold Kc Bk
  simp only[Zb,Qb,map_cons,map_nil,List.length_cons,length_nil,cons_append,nil_append,reduceAdd,reduceSub,replicate,Sa,Xj,Nb,Pb,Cc,tR,b1,bM,Zc,Xd,Aa,Ka,kD,Na,Va,Ob,Oa,Res.bind_ok,is,Ab,Hk,Bool.not_true,false_eq_true,if_false,reduceIte,Ma,sp,Cb,set_cons_zero,set_cons_succ,sq,c1,al,c2,tt,Yb]
theorem GM(c:Nat):∀ {xs:List (List Nat)},xs≠ []->(jn c xs).length+1=(xs.map (·.length)).sum+xs.length
 | [],h=>absurd rfl h
 | [x],_=>by simp[jn]
 |x::y::r,_=>by
  have ih:=GM c (xs:=y::r) (by simp)
  rw[No c x (by simp),length_append,List.length_cons,map_cons,List.sum_cons,List.length_cons]
  omega
theorem HM(c a:Nat):∀ {xs:List (List Nat)},a∈jn c xs->a=c\/∃ x∈xs,a∈x
 | [],h=>by cases h
 | [x],h=>.inr ⟨x,by simp,h⟩
 |x::y::r,h=>by
  rw[No c x (by simp),mem_append,mem_cons]at h
  rcases h with h|h|h
  .exact .inr ⟨x,by simp,h⟩
  .exact .inl h
  .rcases HM c a h with e|⟨z,hz,e⟩
   .exact .inl e
   .exact .inr ⟨z,mem_cons_of_mem _ hz,e⟩
theorem JB(w:Str)(c:Nat):PySem.Txt.split w ⟨#[c]⟩≠ []/\w.cps.toList=jn c ((PySem.Txt.split w ⟨#[c]⟩).map λx=>x.cps.toList)/\∀ x∈PySem.Txt.split w ⟨#[c]⟩,c∉x.cps.toList:=by
 have h1:=StrLaws.join_split w ⟨#[c]⟩
 have h2:=StrLaws.split_free w c
 have h3:=split_pos w ⟨#[c]⟩
 refine⟨λz=>by rw[z]at h3;simp at h3,?_,h2⟩
 have h4:=congrArg (λx:Str=>x.cps.toList) h1
 simp only[Ze]at h4
 exact h4.symm
theorem FJ(w:Str)(c:Nat):((PySem.Txt.split w ⟨#[c]⟩).map (·.length)).sum+(PySem.Txt.split w ⟨#[c]⟩).length=w.length+1:=by
 obtain⟨a,b,f⟩:=JB w c
 have:=GM c (xs:=(PySem.Txt.split w ⟨#[c]⟩).map λx=>x.cps.toList) (by simpa using a)
 rw[<-b,map_map,length_map]at this
 have e:w.cps.toList.length=w.length:=length_toList
 rw[e]at this
 rw[this]
 congr 1
def bnd(p d h s:Int):Bool:=decide (1<=p/\p<=24)&&decide (2<=d/\d<=20)&&decide (1<=h/\h<=d)&&decide (1<=s/\s<=d-1)
theorem HV(n:Int):La 1 Bh [.int n]=.ok (.bl true):=by
 have e1:Yd "int" (.int n)=.ok (.bl true):=by simp[Yd,Au,Ks]
 have e2:Yd "bool" (.int n)=.ok (.bl false):=by simp[Yd,Au,Ks]
 refine Eb _ _ _ _ ?_ rfl
 unfold Bh Zr
 walk_at "ev*"
def rB:List Int->Bool
 | [a,b,c,d]=>bnd a b c d
 |_=>false
theorem RB(p d h s:Int):La 1 Md [.tup [.int p,.int d,.int h,.int s]]=.ok (.bl (bnd p d h s)):=by
 have e0:La 1 Vh [.tup [.int p,.int d,.int h,.int s]]=.ok (.int p):=rfl
 have e1:La 1 Uh [.tup [.int p,.int d,.int h,.int s]]=.ok (.int d):=rfl
 have e2:La 1 Qg [.tup [.int p,.int d,.int h,.int s]]=.ok (.int h):=rfl
 have e3:La 1 Sj [.tup [.int p,.int d,.int h,.int s]]=.ok (.int s):=rfl
 generalize D.tup [.int p,.int d,.int h,.int s]=T at*
 refine Eb _ _ _ _ ?_ rfl
 unfold bnd
 cases h1:decide (1<=p/\p<=24)<;>cases h2:decide (2<=d/\d<=20)<;>cases h3:decide (1<=h/\h<=d)<;>cases h4:decide (1<=s/\s<=d-1)<;>
  (unfold Md Qm;walk_at "ev*";try rfl)
theorem Ym(xs:List Str)(hl:xs.length<=1000):La 1 Nd [Ys xs]=.ok (.bl (xs.all Hq&&rB (xs.map vI))):=by
 refine Eb _ _ _ _ ?_ rfl
 unfold Ys
 cases hb:xs.all Hq with
 |false=>
  have e:Yd "tuple" .non=.ok (.bl false):=by simp[Yd,Au,Ks]
  rw[if_neg Bool.false_ne_true,Bool.false_and]
  unfold Nd Ak
  walk_at "ev*"
 |true=>
  rw[if_pos rfl,Bool.true_and]
  have e:Yd "tuple" (.tup ((xs.map vI).map D.int))=.ok (.bl true):=by simp[Yd,Au,Ks]
  have hn:(xs.map vI).length<=1000:=by rw[length_map];exact hl
  generalize xs.map vI=ns at*
  clear hb hl
  by_cases h4:ns.length=4
  .match ns,h4 with
   | [a,b,c,d],_=>
    have ln:Pc (.tup ([a,b,c,d].map D.int))=.ok (.int 4):=rfl
    have bo:=RB a b c d
    have ne4:Px (.int 4) (.int 4)=.ok (.bl false):=by rw[Nl];rfl
    have c1:Rf 1 (Yc 0) (λ_=>.ok true) Ii [some (.d (.tup ([a,b,c,d].map D.int)))] ([a,b,c,d].map D.int)=.ok [.bl true,.bl true,.bl true,.bl true]:=by
     refine Dd ?_ (by simp)
     have:=He (fe:=Ii) (λ_=>.bl true) [some (.d (.tup ([a,b,c,d].map D.int)))] ([a,b,c,d].map D.int) none (λx hx=>by
      obtain⟨n,_,rfl⟩:=mem_map.mp hx
      have w:=HV n
      unfold Ii
      simp only[b1,Aa,Ka,Va,Oa,Res.bind_ok,w])
     exact this
    have sq:Ei (.tup ([a,b,c,d].map D.int))=.ok ([a,b,c,d].map D.int):=rfl
    have al:On (.lst [.bl true,.bl true,.bl true,.bl true])=.ok (.bl true):=rfl
    have bo':La 1 Md [.tup ([a,b,c,d].map D.int)]=.ok (.bl (bnd a b c d)):=bo
    have eb:rB [a,b,c,d]=bnd a b c d:=rfl
    rw[eb]
    clear bo eb
    generalize bnd a b c d=B at*
    generalize [a,b,c,d].map D.int=L at*
    generalize D.tup L=T at*
    unfold Nd Ak
    simp only[Zb,Qb,map_cons,map_nil,List.length_cons,length_nil,cons_append,nil_append,reduceAdd,reduceSub,replicate,append_nil,Sa,Xj,Pb,Xe,Cc,tR,b1,b2,kD,Zc,Xd,Yl,Aa,Ka,Na,Va,Oa,Res.bind_ok,e,ln,sq,c1,al,bo',ne4,Ab,Td,Bool.not_true,false_eq_true,if_false,if_true,reduceIte,Hk,Ma,Cb,Gi,Yb]
  .have ln:Pc (.tup (ns.map D.int))=.ok (.int ns.length):=by rw[Up,length_map]
   have ne:Px (.int (ns.length:Int)) (.int 4)=.ok (.bl true):=by rw[Nl];congr 2;simp;omega
   have rb:rB ns=false:=by
    match ns,h4 with
    | [],_=>rfl
    | [_],_=>rfl
    | [_,_],_=>rfl
    | [_,_,_],_=>rfl
    | [_,_,_,_],h=>exact absurd rfl h
    |_::_::_::_::_::_,_=>rfl
   rw[rb]
   clear rb h4 hn
   generalize ns.map D.int=L at*
   generalize (ns.length:Int)=n at*
   unfold Nd Ak
   simp only[Zb,Qb,map_cons,map_nil,List.length_cons,length_nil,cons_append,nil_append,reduceAdd,reduceSub,replicate,append_nil,Sa,Xj,Pb,Xe,Cc,tR,b1,b2,kD,Na,Va,Res.bind_ok,e,ln,ne,Ab,Td,Bool.not_true,false_eq_true,if_false,if_true,reduceIte,Hk,Rh,Cb,Yb]
theorem O1(t N:D)(hn:La 2 Kc [t,.str " "]=.ok N)(hc:La 1 Nd [N]=.ok (.bl true)):Rb [t]=.ok N:=by
 unfold Rb Ck
 walk_at "evx*"
theorem GF(w:Str)(hw:w.length<=900):La 2 Kc [.str w,.str " "]=.ok (Ys (PySem.Txt.split w ⟨#[32]⟩)):=FT 32 w hw
theorem N1(t N:D)(hn:La 2 Kc [t,.str " "]=.ok N)(hc:La 1 Nd [N]=.ok (.bl false)):Rb [t]=.ex "NoRules" []:=by
 unfold Rb Ck
 walk_at "evx*"
def Hg(p:Str×List Str):D:=.tup [.str p.1,.lst (p.2.map D.str)]
def Gw(p:Str×List Str):Prop:=p.1.length<=20/\p.2≠ []/\p.2.length<=6/\∀ w∈p.2,w.length<=20
theorem Vw(ws:List Str)(lo hi:Option Int):cutD (ws.map D.str) lo hi=((ws.drop (HT.sIx ws.length 0 lo)).take (HT.sIx ws.length ws.length hi-HT.sIx ws.length 0 lo)).map D.str:=by
 unfold L3.cutD
 rw[length_map,map_take,List.map_drop]
theorem Zv(ds:List D)(lo hi:Option Int):Vr (.lst ds) lo hi=.ok (cutD ds lo hi):=rfl
theorem El(xs ys:List D)(h:xs.length+ys.length<=1000):Xg (.lst xs) (.lst ys)=.ok (xs++ys):=if_pos (KG h)
theorem sIx_nat(n d:Nat)(k:Int)(h0:0<=k):HT.sIx n d (some k)=min k.toNat n:=by
 obtain⟨m,rfl⟩:∃ m:Nat,k=m:=⟨k.toNat,by omega⟩
 rw[HT.sIx_nat,Int.toNat_natCast]
theorem IE{fe:Ga->Res D}(f:Str×List Str->D)(δ:Ga):∀ (ps:List (Str×List Str)) (x y:Option S),(∀ p∈ps,fe (some (.d (.str p.1))::some (.d (.lst (p.2.map D.str)))::δ)=.ok (f p))->
  Kg (Zq 2 (Nh (Yc 0) (Nh (Yc 1) Yq))) (λ_=>.ok true) fe (ps.map Hg) (x::y::δ)=.ok (ps.map f)
 | [],_,_,_=>rfl
 |p::ps,x,y,h=>by
  rw[map_cons,Bs (δ':=some (.d (.str p.1))::some (.d (.lst (p.2.map D.str)))::δ) _ _ _ _ rfl]
  simp only[Fm,Res.bind_ok,if_true,h p mem_cons_self,IE f δ ps _ _ (λq hq=>h q (mem_cons_of_mem _ hq)),map_cons]
theorem Dv(ps:List (Str×List Str))(hl:ps.length<=1000):La 1 Si [.lst (ps.map Hg)]=.ok (.lst (ps.map Hg)):=by
 have c:=Dd (n:=2) (c:=λ_=>.ok true) (fe:=Fk) (δ:= [some (.d (.lst (ps.map Hg)))]) (IE (fe:=Fk) Hg [some (.d (.lst (ps.map Hg)))] ps none none (λp _=>by
  unfold Fk Hg
  simp only[b1,Zc,Zn,Aa,Ka,Oa,Va,Ob,Na,Kb,Res.bind_ok,Lk,List.length_cons,length_nil,reduceAdd,reduceLeDiff,if_true,reduceIte])) (by rw[length_map];omega)
 refine Eb _ _ _ _ ?_ rfl
 generalize ps.map Hg=P at*
 unfold Si Vy
 simp only[Zb,Qb,map_cons,map_nil,List.length_cons,length_nil,cons_append,nil_append,reduceAdd,reduceSub,replicate,b1,Zc,Xd,Pb,Va,Res.bind_ok,Cb,Lk,c,Yb]
abbrev IQ(R A B C:D):D:=.obj "House" ["rules","doors","wings","grants"] [R,A,B,C]
theorem VS(R:D)(ds:List D)(ps qs:List (Str×List Str))(hp:ps.length<=1000)(hq:qs.length<=1000):La 4 (Rs 4 "House" Th) [R,.lst ds,.lst (ps.map Hg),.lst (qs.map Hg)]=.ok (IQ R (.lst ds) (.lst (ps.map Hg)) (.lst (qs.map Hg))):=by
 have e1:=Dv ps hp
 have e2:=Dv qs hq
 refine Eb _ _ _ _ ?_ rfl
 generalize ps.map Hg=P at*
 generalize qs.map Hg=Q at*
 unfold Rs Th
 simp only[Wm,Qb,map_cons,map_nil,List.length_cons,length_nil,cons_append,nil_append,reduceAdd,reduceSub,replicate,b1,Zc,Aa,Ka,Oa,Va,Ob,Na,Kb,Res.bind_ok,Lk,e1,e2]
theorem D8(R A B C:D):Ku "House" "rules" (IQ R A B C)=.ok R:=rfl
theorem E8(R A B C:D):Ku "House" "doors" (IQ R A B C)=.ok A:=rfl
theorem F8(R A B C:D):Ku "House" "wings" (IQ R A B C)=.ok B:=rfl
theorem G8(R A B C:D):Ku "House" "grants" (IQ R A B C)=.ok C:=rfl
theorem Dm(c:Nat)(xs:List Str)(h:(xs.map (·.length)).sum+xs.length<=100000):Tf ⟨#[c]⟩ [.lst (xs.map D.str)]=.ok (.str (PySem.Txt.join ⟨#[c]⟩ xs)):=by
 unfold Tf
 dsimp only
 rw[Mh]
 dsimp only
 refine if_pos ?_
 unfold JoinOk Builtin.Str.tooLong
 rw[StrLaws.joinTotal]
 have:sizeLine=16777216:=sizeLine_eq
 have e:(⟨#[c]⟩:Str).length=1:=rfl
 rw[e]
 simp
 omega
theorem Qk{α:Type}(f:α->Nat)(k:Nat):∀ l:List α,(∀ a∈l,f a<=k)->(l.map f).sum<=k*l.length
 | [],_=>by simp
 |a::l,h=>by
  rw[map_cons,List.sum_cons,List.length_cons,Nat.mul_succ]
  have:=h a mem_cons_self
  have:=Qk f k l λb hb=>h b (mem_cons_of_mem _ hb)
  omega
def Ud(k l:Str)(p:Str×List Str):Str:=PySem.Txt.join ⟨#[32]⟩ (k::p.1::l::p.2)
theorem QF(k l k' l':Str)(p:Str×List Str)(h:p.2≠ [])(hk:k'.cps.toList=k.cps.toList++ [32])(hl:l'.cps.toList=32::(l.cps.toList++ [32])):Ud k l p=k'++p.1++l'++PySem.Txt.join ⟨#[32]⟩ p.2:=by
 refine Ej ?_
 unfold Ud
 rw[show PySem.Txt.join ⟨#[32]⟩ (k::p.1::l::p.2)=Str.join ⟨#[32]⟩ (k::p.1::l::p.2) from StrLaws.glued_eq_join _ _,show PySem.Txt.join ⟨#[32]⟩ p.2=Str.join ⟨#[32]⟩ p.2 from StrLaws.glued_eq_join _ _]
 have hn:(p.2.map λx:Str=>x.cps.toList)≠ []:=λz=>h (List.map_eq_nil_iff.mp z)
 rw[Ze,map_cons,map_cons,map_cons,No _ _ (by simp),No _ _ (by simp),No _ _ hn,<-Ze]
 rw[Str.cps_append,Str.cps_append,Str.cps_append,toList_append,toList_append,toList_append,hk,hl]
 simp
theorem YN(k l:Str)(p:Str×List Str)(h:Gw p)(hk:k.length<=10)(hl:l.length<=10):((k::p.1::l::p.2).map (·.length)).sum+(k::p.1::l::p.2).length<=200:=by
 obtain⟨h1,h2,h3,h4⟩:=h
 have:=Qk (λx:Str=>x.length) 20 p.2 h4
 simp only[map_cons,List.sum_cons,List.length_cons]
 omega
theorem Xo(k l:Str)(p:Str×List Str)(h:Gw p)(hk:k.length<=10)(hl:l.length<=10):(Ud k l p).length<=200:=le_trans (Il _ _) (YN k l p h hk hl)
theorem YO(k l:Str)(p:Str×List Str)(h:Gw p)(hk:k.length<=10)(hl:l.length<=10)(ht:Bq D.str [("wing","="),("key","opens")] (.str k)=.ok (.str l)):La 2 Lc [.str k,Hg p]=.ok (.str (Ud k l p)):=by
 have e1:Ae (Hg p) (.int 0)=.ok (.str p.1):=rfl
 have e2:Ae (Hg p) (.int 1)=.ok (.lst (p.2.map D.str)):=rfl
 have e3:=El [.str k,.str p.1,.str l] (p.2.map D.str) (by have:=h.2.2.1;rw[length_map];simp only[List.length_cons,length_nil];omega)
 have e4:Tf " " [.lst ([.str k,.str p.1,.str l]++p.2.map D.str)]=.ok (.str (Ud k l p)):=Dm 32 (k::p.1::l::p.2) (le_trans (YN k l p h hk hl) (by decide))
 refine Eb _ _ _ _ ?_ rfl
 generalize ([.str k,.str p.1,.str l]++p.2.map D.str:List D)=J at*
 generalize p.2.map D.str=M at*
 generalize Hg p=P at*
 clear h hk hl
 unfold Lc Tm
 simp only[Zb,Qb,map_cons,map_nil,List.length_cons,length_nil,cons_append,nil_append,reduceAdd,reduceSub,replicate,kD,b1,b2,Bl,bM,Zc,Sc,Aa,Ka,Oa,Pb,Va,Ob,Na,Kb,Res.bind_ok,Cb,e1,e2,ht,e3,e4,Yb,reduceLeDiff,if_true,reduceIte]
def Tg(a b c d:Int):Str:=PySem.Txt.join ⟨#[32]⟩ [toString a,toString b,toString c,toString d]
theorem So(c:Int)(h:0<=c/\c<100):(toString c:Str).length<=2/\HJ (.int c)=.ok (.str (toString c)):=by
 obtain⟨n,rfl⟩:∃ n:Nat,c=n:=⟨c.toNat,by omega⟩
 have hn:n<100:=by omega
 have g:∀ n:Nat,n<100->(toString (n:Int):Str).length<=2/\(n:Int).natAbs.log2<1920:=by decide +kernel
 exact⟨(g n hn).1,if_pos (g n hn).2⟩
variable{fe:Ga->Res D}
theorem IK(δ:Ga)(a b c d:Int)(hfe:fe=b1 HJ (Ca 0))(h:∀ x∈ [a,b,c,d],0<=x/\x<100):Rf 1 (Yc 0) (λ_=>.ok true) fe δ [.int a,.int b,.int c,.int d]=.ok (([toString a,toString b,toString c,toString d]:List Str).map D.str):=by
 subst hfe
 refine Dd ?_ (by show 4<=100000;decide)
 have:=He (fe:=b1 HJ (Ca 0)) (λx=>match x with| .int i=>.str (toString i)|_=>.non) δ [.int a,.int b,.int c,.int d] none (λx hx=>by
  obtain⟨i,hi,rfl⟩:∃ i,i∈ [a,b,c,d]/\x=.int i:=by
   simp only[mem_cons,not_mem_nil,or_false]at hx ⊢
   rcases hx with rfl|rfl|rfl|rfl
   .exact⟨a,.inl rfl,rfl⟩
   .exact⟨b,.inr (.inl rfl),rfl⟩
   .exact⟨c,.inr (.inr (.inl rfl)),rfl⟩
   .exact⟨d,.inr (.inr (.inr rfl)),rfl⟩
  simp only[b1,Na,Res.bind_ok,(So i (h i hi)).2])
 exact this
theorem Wj(a b c d:Int)(h:∀ x∈ [a,b,c,d],0<=x/\x<100):Tf " " [.lst (([toString a,toString b,toString c,toString d]:List Str).map D.str)]=.ok (.str (Tg a b c d))/\(Tg a b c d).length<=20:=by
 have s:(([toString a,toString b,toString c,toString d]:List Str).map (·.length)).sum+([toString a,toString b,toString c,toString d]:List Str).length<=20:=by
  have h1:=(So a (h a (by simp))).1
  have h2:=(So b (h b (by simp))).1
  have h3:=(So c (h c (by simp))).1
  have h4:=(So d (h d (by simp))).1
  simp only[map_cons,map_nil,List.sum_cons,List.sum_nil,List.length_cons,length_nil]
  omega
 exact⟨Dm 32 _ (le_trans s (by decide)),le_trans (Il _ _) s⟩
theorem KD(a b c d:Int)(h:∀ x∈ [a,b,c,d],0<=x/\x<100):La 1 Ke [.tup [.int a,.int b,.int c,.int d]]=.ok (.str (Tg a b c d)):=by
 have c1:=IK (fe:=Sk) [some (.d (.tup [.int a,.int b,.int c,.int d]))] a b c d rfl h
 have j1:=(Wj a b c d h).1
 refine Eb _ _ _ _ ?_ rfl
 generalize (([toString a,toString b,toString c,toString d]:List Str).map D.str)=J at*
 unfold Ke Sm
 simp only[Zb,Qb,map_cons,map_nil,List.length_cons,length_nil,cons_append,nil_append,reduceAdd,reduceSub,replicate,kD,b1,bM,Zc,Xd,Aa,Ka,Oa,Pb,Va,Res.bind_ok,Cb,Zp,c1,j1,Yb]
theorem CH(δ:Ga)(ds:List Str)(hfe:fe=b2 Gb (kD (.str "door ")) (Ca 0))(hl:ds.length<=1000)(h:∀ x∈ds,x.length<=30):Rf 1 (Yc 0) (λ_=>.ok true) fe δ (ds.map D.str)=.ok ((ds.map λx=>(("door ":Str)++x)).map D.str):=by
 subst hfe
 refine Dd ?_ (by rw[length_map];omega)
 have:=He (fe:=b2 Gb (kD (.str "door ")) (Ca 0)) (λx=>match x with| .str i=>.str ("door "++i)|_=>.non) δ (ds.map D.str) none (λx hx=>by
  obtain⟨i,hi,rfl⟩:=mem_map.mp hx
  have e:=Zd "door " i (by have:=h i hi;show 5+i.length<=100000;omega)
  simp only[b2,kD,Na,Res.bind_ok,e])
 rw[map_map]at this
 rw[map_map]
 exact this
theorem Cs(δ:Ga)(k l:Str)(ps:List (Str×List Str))(hfe:fe=b1 (La 2 Lc) (Aa (kD (.str k)) (Aa (Qa 0) Ka)))(hl:ps.length<=1000)(h:∀ p∈ps,Gw p)(hk:k.length<=10)(hl2:l.length<=10)(ht:Bq D.str [("wing","="),("key","opens")] (.str k)=.ok (.str l)):Rf 1 (Yc 0) (λ_=>.ok true) fe δ (ps.map Hg)=.ok ((ps.map (Ud k l)).map D.str):=by
 subst hfe
 refine Dd ?_ (by rw[length_map];omega)
 have:=He (fe:=b1 (La 2 Lc) (Aa (kD (.str k)) (Aa (Qa 0) Ka))) (λx=>match x with| .tup [.str w,.lst ms]=>.str (Ud k l (w,(Pk ms).getD []))|_=>.non) δ (ps.map Hg) none (λx hx=>by
  obtain⟨p,hp,rfl⟩:=mem_map.mp hx
  have e:=YO k l p (h p hp) hk hl2 ht
  simp only[b1,kD,Aa,Ka,Oa,Va,Res.bind_ok,e]
  unfold Hg
  simp only[Mh,Option.getD_some])
 rw[map_map]at this
 rw[map_map]
 refine this.trans (congrArg Res.ok (List.map_congr_left λp hp=>?_))
 show(match Hg p with| .tup [.str w,.lst ms]=>D.str (Ud k l (w,(Pk ms).getD []))|_=>.non)=D.str (Ud k l p)
 unfold Hg
 simp only[Mh,Option.getD_some]
theorem Yw(i:Nat)(δ:Ga)(ds es:List D)(h:δ[i]? =some (some (.o ds)))(hl:ds.length+es.length<=100000):QR i δ (.ok es)=.nx (δ.set i (some (.o (ds++es)))):=by
 unfold QR
 rw[h]
 exact if_pos hl
theorem BS(i:Nat)(δ:Ga)(ds:List D)(h:δ[i]? =some (some (.o ds))):DC i δ=δ.set i (some (.d (.lst ds))):=by
 unfold DC
 rw[h]
def Db(a b c d:Int)(ds:List Str)(ps qs:List (Str×List Str)):List Str:=(("rules ":Str)++Tg a b c d)::(ds.map (λx=>(("door ":Str)++x))++ps.map (Ud "wing" "=")++qs.map (Ud "key" "opens"))
theorem VI(a b c d:Int)(ds:List Str)(ps qs:List (Str×List Str))(h:∀ x∈ [a,b,c,d],0<=x/\x<100)(hd:ds.length<=50)(hp:ps.length<=50)(hq:qs.length<=50)(g1:∀ x∈ds,x.length<=30)(g2:∀ p∈ps,Gw p)(g3:∀ p∈qs,Gw p):
  ((Db a b c d ds ps qs).map (·.length)).sum+(Db a b c d ds ps qs).length<=100000:=by
 have hr:=(Wj a b c d h).2
 have hl:(Db a b c d ds ps qs).length<=151:=by
  unfold Db
  simp only[List.length_cons,length_append,length_map]
  omega
 have hs:=Qk (λx:Str=>x.length) 200 (Db a b c d ds ps qs) (λx hx=>by
  unfold Db at hx
  rcases mem_cons.mp hx with rfl|hx
  .show(("rules ":Str)++Tg a b c d).length<=200
   rw[Lb,show("rules ":Str).length=6 from rfl];omega
  .rcases mem_append.mp hx with hx|hx
   .rcases mem_append.mp hx with hx|hx
    .obtain⟨y,hy,rfl⟩:=mem_map.mp hx
     show(("door ":Str)++y).length<=200
     rw[Lb,show("door ":Str).length=5 from rfl]
     have:=g1 y hy
     omega
    .obtain⟨y,hy,rfl⟩:=mem_map.mp hx
     exact Xo _ _ y (g2 y hy) (by decide) (by decide)
   .obtain⟨y,hy,rfl⟩:=mem_map.mp hx
    exact Xo _ _ y (g3 y hy) (by decide) (by decide))
 omega
theorem RL(a b c d:Int)(ds:List Str)(ps qs:List (Str×List Str))(h:∀ x∈ [a,b,c,d],0<=x/\x<100)(hd:ds.length<=50)(hp:ps.length<=50)(hq:qs.length<=50)(g1:∀ x∈ds,x.length<=30)(g2:∀ p∈ps,Gw p)(g3:∀ p∈qs,Gw p):
  La 1 Od [IQ (.tup [.int a,.int b,.int c,.int d]) (.lst (ds.map D.str)) (.lst (ps.map Hg)) (.lst (qs.map Hg))]=.ok (.str (PySem.Txt.join ⟨#[10]⟩ (Db a b c d ds ps qs))):=by
 have f1:=D8 (.tup [.int a,.int b,.int c,.int d]) (.lst (ds.map D.str)) (.lst (ps.map Hg)) (.lst (qs.map Hg))
 have f2:=E8 (.tup [.int a,.int b,.int c,.int d]) (.lst (ds.map D.str)) (.lst (ps.map Hg)) (.lst (qs.map Hg))
 have f3:=F8 (.tup [.int a,.int b,.int c,.int d]) (.lst (ds.map D.str)) (.lst (ps.map Hg)) (.lst (qs.map Hg))
 have f4:=G8 (.tup [.int a,.int b,.int c,.int d]) (.lst (ds.map D.str)) (.lst (ps.map Hg)) (.lst (qs.map Hg))
 generalize IQ (.tup [.int a,.int b,.int c,.int d]) (.lst (ds.map D.str)) (.lst (ps.map Hg)) (.lst (qs.map Hg))=HH at*
 have r1:=KD a b c d h
 have r2:=Zd "rules " (Tg a b c d) (by rw[show("rules ":Str).length=6 from rfl];have:=(Wj a b c d h).2;omega)
 have jn1:Tf "\n" [.lst ((Db a b c d ds ps qs).map D.str)]=.ok (.str (PySem.Txt.join ⟨#[10]⟩ (Db a b c d ds ps qs))):=Dm 10 _ (VI a b c d ds ps qs h hd hp hq g1 g2 g3)
 have el:(Db a b c d ds ps qs).map D.str=([.str ("rules "++Tg a b c d)]++(ds.map (λx=>(("door ":Str)++x))).map D.str++(ps.map (Ud "wing" "=")).map D.str++(qs.map (Ud "key" "opens")).map D.str:List D):=by
  unfold Db
  simp only[map_cons,map_append,List.singleton_append,cons_append,append_assoc,nil_append]
 rw[el]at jn1
 generalize ("rules ":Str)++Tg a b c d=R0 at*
 have c1:∀ δ,Rf 1 (Yc 0) (λ_=>.ok true) Zh δ (ds.map D.str)=.ok ((ds.map λx=>(("door ":Str)++x)).map D.str):=λδ=>CH (fe:=Zh) δ ds rfl (by omega) g1
 have c2:∀ δ,Rf 1 (Yc 0) (λ_=>.ok true) Ai δ (ps.map Hg)=.ok ((ps.map (Ud "wing" "=")).map D.str):=λδ=>Cs (fe:=Ai) δ "wing" "=" ps rfl (by omega) g2 (by decide) (by decide) rfl
 have c3:∀ δ,Rf 1 (Yc 0) (λ_=>.ok true) Bi δ (qs.map Hg)=.ok ((qs.map (Ud "key" "opens")).map D.str):=λδ=>Cs (fe:=Bi) δ "key" "opens" qs rfl (by omega) g3 (by decide) (by decide) rfl
 have l1:((ds.map λx=>(("door ":Str)++x)).map D.str).length<=50:=by simpa using hd
 have l2:((ps.map (Ud "wing" "=")).map D.str).length<=50:=by simpa using hp
 have l3:((qs.map (Ud "key" "opens")).map D.str).length<=50:=by simpa using hq
 clear el
 generalize (ds.map λx=>(("door ":Str)++x)).map D.str=X1 at*
 generalize (ps.map (Ud "wing" "=")).map D.str=X2 at*
 generalize (qs.map (Ud "key" "opens")).map D.str=X3 at*
 have x1:=Yw 1 [some (.d HH),some (.o [.str R0])] [.str R0] X1 rfl (by simp only[List.length_cons,length_nil];omega)
 have x2:=Yw 1 [some (.d HH),some (.o ([.str R0]++X1))] ([.str R0]++X1) X2 rfl (by simp only[length_append,List.length_cons,length_nil];omega)
 have x3:=Yw 1 [some (.d HH),some (.o ([.str R0]++X1++X2))] ([.str R0]++X1++X2) X3 rfl (by simp only[length_append,List.length_cons,length_nil];omega)
 have z1:=BS 1 [some (.d HH),some (.o ([.str R0]++X1++X2++X3))] ([.str R0]++X1++X2++X3) rfl
 have y1:∀ Y:List D,([some (.d HH),some (.o Y)]:Ga).set 1 (some (.o ([.str R0]++X1)))= [some (.d HH),some (.o ([.str R0]++X1))]:=λ_=>rfl
 have y2:∀ Y:List D,([some (.d HH),some (.o Y)]:Ga).set 1 (some (.o ([.str R0]++X1++X2)))= [some (.d HH),some (.o ([.str R0]++X1++X2))]:=λ_=>rfl
 have y3:∀ Y:List D,([some (.d HH),some (.o Y)]:Ga).set 1 (some (.o ([.str R0]++X1++X2++X3)))= [some (.d HH),some (.o ([.str R0]++X1++X2++X3))]:=λ_=>rfl
 have y4:∀ Y Z:List D,([some (.d HH),some (.o Y)]:Ga).set 1 (some (.d (.lst Z)))= [some (.d HH),some (.d (.lst Z))]:=λ_ _=>rfl
 rw[y1]at x1;rw[y2]at x2;rw[y3]at x3;rw[y4]at z1
 generalize PySem.Txt.join ⟨#[10]⟩ (Db a b c d ds ps qs)=OUT at*
 generalize ([.str R0]++X1++X2++X3:List D)=Z3 at*
 generalize ([.str R0]++X1++X2:List D)=Z2 at*
 generalize ([.str R0]++X1:List D)=Z1 at*
 generalize ds.map D.str=DD at*
 generalize ps.map Hg=PP at*
 generalize qs.map Hg=QQ at*
 clear h hd hp hq g1 g2 g3 l1 l2 l3 y1 y2 y3 y4
 refine Eb _ _ _ _ ?_ rfl
 unfold Od Rm
 simp only[Zb,Qb,map_cons,map_nil,List.length_cons,length_nil,cons_append,nil_append,reduceAdd,reduceSub,replicate,kD,b1,b2,bM,Zc,Sc,Xd,Aa,Ka,Oa,Sa,Of,ZI,Cn,Pb,Va,Ob,Na,Kb,Res.bind_ok,Cb,Ma,Lk,f1,f2,f3,f4,r1,r2,c1,c2,c3,x1,x2,x3,z1,jn1,Yb,set_cons_zero,set_cons_succ,reduceLeDiff,if_true,reduceIte]
theorem BL(x:D)(h:Fe 40 x=true)(e:Zj x x=true):Mm x x=.ok (.bl true)/\Px x x=.ok (.bl false):=by
 unfold Mm Px
 rw[h,e]
 exact⟨rfl,rfl⟩
theorem KO(x:Str):Mm (.str x) (.str x)=.ok (.bl true)/\Px (.str x) (.str x)=.ok (.bl false):=BL _ rfl (by simp[Zj])theorem sIf_t {c:Ga->Res Bool} {a b:Ga->Out} {δ:Ga} (h:c δ= .ok true):Xj c a b δ=a δ:=by unfold Xj;rw[h];rfl
variable{δ:Ga}
theorem Ve{c:Ga->Res Bool}{a b:Ga->Out}(h:c δ= .ok false):Xj c a b δ=b δ:=by unfold Xj;rw[h];rfl
variable{α:Type}
theorem Ie(a:α):noex (Res.ok a)=.ok a:=rfl
theorem MD(a y:Str):PySem.Txt.startswith (a++y) a=true:=by
 have la:a.cps.toList.length=a.length:=length_toList
 have e:(a++y).cps.toList=a.cps.toList++y.cps.toList:=by rw[Str.cps_append,toList_append]
 unfold PySem.Txt.startswith
 rw[and_eq_true,decide_eq_true_eq]
 refine⟨by rw[Lb];omega,?_⟩
 rw[StrLaws.subAt_eq,e,<-la,List.drop_zero,List.take_left,beq_self_eq_true]
theorem EJ(a y:Str):PySem.Txt.slice (a++y) (some (a.length:Int)) none=y:=by
 have la:a.cps.toList.length=a.length:=length_toList
 have ly:y.cps.toList.length=y.length:=length_toList
 have e:(a++y).cps.toList=a.cps.toList++y.cps.toList:=by rw[Str.cps_append,toList_append]
 have n:=Lb a y
 rw[slice_from_eq (b:=((a++y).length:Int)) (by omega) (by omega) rfl]
 refine Ej ?_
 show((a++y).cps.toList.drop _).take _=_
 rw[e,show((a.length:Int)).toNat=a.cps.toList.length by omega,List.drop_left,take_of_length_le (by omega)]
theorem FR:∀ n:Nat,n<100->Hq (toString (n:Int):Str)=true/\vI (toString (n:Int):Str)=(n:Int)/\32∉(toString (n:Int):Str).cps.toList/\10∉(toString (n:Int):Str).cps.toList:=by
 unfold vI Hq
 decide +kernel
theorem Yh(c:Int)(h:0<=c/\c<100):Hq (toString c:Str)=true/\vI (toString c:Str)=c/\32∉(toString c:Str).cps.toList/\10∉(toString c:Str).cps.toList:=by
 obtain⟨n,rfl⟩:∃ n:Nat,c=n:=⟨c.toNat,by omega⟩
 exact FR n (by omega)
structure RuOk(a b c d:Int):Prop where
 a1:1<=a/\a<=24
 b1:2<=b/\b<=20
 c1:1<=c/\c<=b
 d1:1<=d/\d<=b-1
variable{d c a b:Int}
theorem RuOk.sm(o:RuOk a b c d):∀ x∈ [a,b,c,d],0<=x/\x<100:=λx hx=>by
 have h1:=o.a1;have h2:=o.b1;have h3:=o.c1;have h4:=o.d1
 simp only[mem_cons,not_mem_nil,or_false]at hx
 rcases hx with rfl|rfl|rfl|rfl<;>omega
theorem WI(o:RuOk a b c d):PySem.Txt.split (Tg a b c d) ⟨#[32]⟩=([toString a,toString b,toString c,toString d]:List Str):=by
 refine Vi 32 ([toString a,toString b,toString c,toString d]:List Str) (by simp) λx hx=>?_
 have sm:=o.sm
 simp only[mem_cons,not_mem_nil,or_false]at hx
 rcases hx with rfl|rfl|rfl|rfl
 .exact(Yh a (sm a (by simp))).2.2.1
 .exact(Yh b (sm b (by simp))).2.2.1
 .exact(Yh c (sm c (by simp))).2.2.1
 .exact(Yh d (sm d (by simp))).2.2.1
theorem CO(o:RuOk a b c d):Rb [.str (Tg a b c d)]=.ok (.tup [.int a,.int b,.int c,.int d]):=by
 have sm:=o.sm
 have l:=(Wj a b c d sm).2
 have n:=GF (Tg a b c d) (by omega)
 rw[WI o]at n
 have i:=Ym [toString a,toString b,toString c,toString d] (by simp)
 obtain⟨wa,va,_⟩:=Yh a (sm a (by simp))
 obtain⟨wb,vb,_⟩:=Yh b (sm b (by simp))
 obtain⟨wc,vc,_⟩:=Yh c (sm c (by simp))
 obtain⟨wd,vd,_⟩:=Yh d (sm d (by simp))
 have h1:=o.a1;have h2:=o.b1;have h3:=o.c1;have h4:=o.d1
 have al:([toString a,toString b,toString c,toString d]:List Str).all Hq=true:=by simp only[all_cons,List.all_nil,wa,wb,wc,wd];rfl
 have rb:rB (([toString a,toString b,toString c,toString d]:List Str).map vI)=true:=by
  simp only[map_cons,map_nil,va,vb,vc,vd]
  show bnd a b c d=true
  unfold bnd
  simp only[and_eq_true,decide_eq_true_eq]
  exact⟨⟨⟨h1,h2⟩,h3⟩,h4⟩
 rw[al,rb]at i
 have e:Ys [toString a,toString b,toString c,toString d]=.tup [.int a,.int b,.int c,.int d]:=by
  unfold Ys
  rw[if_pos al]
  simp only[map_cons,map_nil,va,vb,vc,vd]
 rw[e]at n i
 exact O1 _ _ n i
theorem Le(δ:Ga):Zz (.nx δ)=.nx δ:=rfl
def Pl(n:Int):List D:= [.tup [.str "row"],.int n]
theorem By(n:Int)(h:0<=n/\n<1000):M1 "NoRow" [("row",true)] [.int n]=.ex "NoRow" (Pl n):=by
 unfold M1
 rw[if_pos (by show((decide (0<=n)&&decide (n<1000))&&true)=true;rw[decide_eq_true h.1,decide_eq_true h.2];rfl)]
 rfl
def WE(r:Str):Bool:=PySem.Txt.startswith r "rules "&&((PySem.Txt.split (PySem.Txt.slice r (some 6) none) ⟨#[32]⟩).all Hq&&rB ((PySem.Txt.split (PySem.Txt.slice r (some 6) none) ⟨#[32]⟩).map vI))
theorem VO(r:Str):Tj (Cc (tR (bM Nk (Qa 0) (Aa (kD (.str "rules ")) Ka)))) [some (.d (.str r))]=.ok (!PySem.Txt.startswith r "rules "):=by
 have:Nk r [.str "rules "]=.ok (.bl (PySem.Txt.startswith r "rules ")):=rfl
 simp only[Tj,Cc,tR,bM,kD,Aa,Ka,Oa,Va,Res.bind_ok,this,Ab,Ie]
theorem Vq(o:RuOk a b c d):Wb [.str (("rules ":Str)++Tg a b c d)]=.ok (.tup [.int a,.int b,.int c,.int d]):=by
 have sm:=o.sm
 have l:=(Wj a b c d sm).2
 have st:=MD "rules " (Tg a b c d)
 have sl:DJ (.str (("rules ":Str)++Tg a b c d)) (some 6) none=.ok (.str (Tg a b c d)):=by
  have:=Ly (("rules ":Str)++Tg a b c d) (some 6) none (by rw[Lb];show 6+_<=1000;omega)
  rw[this]
  exact congrArg (λz=>Res.ok (D.str z)) (EJ "rules " (Tg a b c d))
 have ln:Pc (.str "rules ")=.ok (.int 6):=Ps "rules " (by decide)
 have rx:Jg 1 Rb [.str (Tg a b c d)]=.ok (.tup [.int a,.int b,.int c,.int d]):=(if_pos rfl).trans (CO o)
 have cd:=VO (("rules ":Str)++Tg a b c d)
 rw[st]at cd
 generalize D.tup [.int a,.int b,.int c,.int d]=T at*
 generalize Tg a b c d=y at*
 have tr:Yp ["NoRules"] (Dq (Aa (b3 DJ (Ca 0) (b1 Ue (b1 Pc (kD (.str "rules ")))) Vc) Ka) 1 Rb []) (λd _=>.rt d) Out.nx (OH "NoRow" [("row",true)] (Aa (kD (.int 0)) Ka)) [some (.d (.str (("rules ":Str)++y)))]=.rt T:=by
  have:Dq (Aa (b3 DJ (Ca 0) (b1 Ue (b1 Pc (kD (.str "rules ")))) Vc) Ka) 1 Rb [] [some (.d (.str (("rules ":Str)++y)))]=.ok T:=by
   simp only[Dq,Aa,Ka,b1,b3,kD,Vc,Na,Res.bind_ok,ln,Ce,sl,Oa,Ie,append_nil,rx]
  unfold Yp
  rw[this]
  rfl
 unfold Wb Dk
 show(match Sa _ _ [some (.d (.str (("rules ":Str)++y)))] with| .rt d=>Res.ok d| .nx _=>.ok .non| .ex c fs=>.ex c fs|_=>.stuck)=_
 unfold Sa
 rw[Ve cd,Ma,tr]
theorem YI(hr:r.length<=900)(h:WE r=false):∃ fs,Wb [.str r]=.ex "NoRow" fs/\(fs=Pl 0\/fs=.non::Pl 0):=by
 have cd:=VO r
 cases st:PySem.Txt.startswith r "rules " with
 |false=>
  rw[st]at cd
  refine⟨Pl 0,?_,.inl rfl⟩
  have ra:Ji "NoRow" [("row",true)] (Ci (Aa (kD (.int 0)) Ka)) [some (.d (.str r))]=.ex "NoRow" (Pl 0):=By 0 (by decide)
  unfold Wb Dk
  show(match Sa _ _ [some (.d (.str r))] with| .rt d=>Res.ok d| .nx _=>.ok .non| .ex c fs=>.ex c fs|_=>.stuck)=_
  unfold Sa
  rw[sIf_t cd,ra]
  rfl
 |true=>
  rw[st]at cd
  refine⟨.non::Pl 0,?_,.inr rfl⟩
  unfold WE at h
  rw[st,Bool.true_and]at h
  have sl:=Ly r (some 6) none (by omega)
  have yl:(PySem.Txt.slice r (some 6) none).length<=900:=le_trans (PySem.Txt.slice_le r _ _) hr
  generalize PySem.Txt.slice r (some 6) none=y at*
  have nn:=GF y yl
  have cnt:(PySem.Txt.split y ⟨#[32]⟩).length<=1000:=by
   have:=FJ y 32
   omega
  have ir:=Ym (PySem.Txt.split y ⟨#[32]⟩) cnt
  rw[h]at ir
  have rd:=N1 _ _ nn ir
  have ln:Pc (.str "rules ")=.ok (.int 6):=Ps "rules " (by decide)
  have rx:Jg 1 Rb [.str y]=.ex "NoRules" []:=(if_pos rfl).trans rd
  have tr:Yp ["NoRules"] (Dq (Aa (b3 DJ (Ca 0) (b1 Ue (b1 Pc (kD (.str "rules ")))) Vc) Ka) 1 Rb []) (λd _=>.rt d) Out.nx (OH "NoRow" [("row",true)] (Aa (kD (.int 0)) Ka)) [some (.d (.str r))]=.ex "NoRow" (.non::Pl 0):=by
   have:Dq (Aa (b3 DJ (Ca 0) (b1 Ue (b1 Pc (kD (.str "rules ")))) Vc) Ka) 1 Rb [] [some (.d (.str r))]=.ex "NoRules" []:=by
    simp only[Dq,Aa,Ka,b1,b3,kD,Vc,Na,Res.bind_ok,ln,Ce,sl,Oa,Ie,append_nil,rx]
   unfold Yp
   rw[this]
   rfl
  unfold Wb Dk
  show(match Sa _ _ [some (.d (.str r))] with| .rt d=>Res.ok d| .nx _=>.ok .non| .ex c fs=>.ex c fs|_=>.stuck)=_
  unfold Sa
  rw[Ve cd,Ma,tr]
variable{body:Ga->Out}{ds:List D}{δ':Ga}
theorem CC{t:D->Ga->Res Ga}{d:D}{δ2:Ga}(h:t d δ= .ok δ')(h2:body δ'=.nx δ2):Xf t body (d::ds) δ=Xf t body ds δ2:=by rw[Pp d ds δ δ' h,h2]
variable{c:Nat}
theorem Kq(h:Gd x)(hc:c∉Kx):c∉x.cps.toList:=λz=>hc (h.2.1 c z)
def PrG(p:Str×List Str):Prop:=Gd p.1/\p.2≠ []/\p.2.length<=6/\(∀ w∈p.2,Gd w)/\p.2.Nodup
theorem PrG.ok{p:Str×List Str}(h:PrG p):Gw p:=⟨by have:=h.1.1;omega,h.2.1,h.2.2.1,λw hw=>by have:=(h.2.2.2.1 w hw).1;omega⟩
theorem Gx(W:List Str)(i:Nat)(x:Str)(h:W[i]? =some x):Ae (.lst (W.map D.str)) (.int (i:Int))=.ok (.str x):=Rq _ _ _ (Kr (by omega) (by rw[show((i:Int)).toNat=i by omega,getElem?_map,h];rfl))
theorem Gz(x:Str):(("door ":Str)++x)=PySem.Txt.join ⟨#[32]⟩ ["door",x]:=by
 refine Ej ?_
 rw[show PySem.Txt.join ⟨#[32]⟩ ["door",x]=Str.join ⟨#[32]⟩ ["door",x] from StrLaws.glued_eq_join _ _,Ze,Str.cps_append,toList_append]
 rfl
variable{k:Str}
theorem Vz(h:k="door"\/k="wing"\/k="key"\/k="="\/k="opens"):32∉k.cps.toList/\10∉k.cps.toList/\k.length<=10:=by
 rcases h with rfl|rfl|rfl|rfl|rfl<;>decide +kernel
theorem YB(h:Gd x):Pf (("door ":Str)++x) [.str " "]=.ok ((["door",x]:List Str).map D.str):=by
 have l:(("door ":Str)++x).length<=900:=by rw[Lb];have:=h.1;show 5+_<=900;omega
 have:=Jm _ 32 l
 rw[Gz,Vi 32 (["door",x]:List Str) (by simp) (λy hy=>by
  simp only[mem_cons,not_mem_nil,or_false]at hy
  rcases hy with rfl|rfl
  .exact(Vz (.inl rfl)).1
  .exact Kq h (by decide))]at this
 rw[Gz]
 exact this
theorem Xq{p:Str×List Str}(h:PrG p)(hk:k="wing"\/k="key")(hl:l="="\/l="opens"):Pf (Ud k l p) [.str " "]=.ok ((k::p.1::l::p.2).map D.str):=by
 have k1:=Vz (k:=k) (by rcases hk with rfl|rfl<;>simp)
 have l1:=Vz (k:=l) (by rcases hl with rfl|rfl<;>simp)
 have ln:=Xo k l p h.ok k1.2.2 l1.2.2
 have:=Jm (Ud k l p) 32 (by omega)
 unfold Ud at this ⊢
 rw[Vi 32 (k::p.1::l::p.2) (by simp) (λy hy=>by
  rcases mem_cons.mp hy with rfl|hy
  .exact k1.1
  .rcases mem_cons.mp hy with rfl|hy
   .exact Kq h.1 (by decide)
   .rcases mem_cons.mp hy with rfl|hy
    .exact l1.1
    .exact Kq (h.2.2.2.1 y hy) (by decide))]at this
 exact this
theorem PD(h:Gd x):La 1 Fc [.lst ((["door",x]:List Str).map D.str)]=.ok (.str x):=by
 have e1:=Gx ["door",x] 0 "door" rfl
 have e2:=Gx ["door",x] 1 x rfl
 have e3:Pc (.lst ((["door",x]:List Str).map D.str))=.ok (.int 2):=by rw[Af];rfl
 have e4:=Ox x h
 have e5:Mm (.str "door") (.str "door")=.ok (.bl true):=by rw[Q4];simp
 generalize D.lst ((["door",x]:List Str).map D.str)=W at*
 have e1':Ae W (.int 0)=.ok (.str "door"):=e1
 have e2':Ae W (.int 1)=.ok (.str x):=e2
 refine Eb _ _ _ _ ?_ rfl
 unfold Fc Ek
 rw[Zb]
 show Hl (Sa _ _ [some (.d W)])=_
 unfold Sa
 rw[sIf_t (by simp only[tR,b2,kD,Na,Res.bind_ok,e1',e5,Ab])]
 have e6:Mm (.int 2) (.int 2)=.ok (.bl true):=by rw[Qi];rfl
 simp only[Pb,GQ,Jn,tR,b1,b2,kD,Aa,Ka,Oa,Na,Res.bind_ok,e3,e6,e2',e4,Ab,Aj,if_true,Cb,Rh,Yb]
theorem QB(l:List α):Mb (l.map λ_=>D.bl true)=some (l.map λ_=>true):=by
 induction l with
 |nil=>rfl
 |cons a l ih=>show(Mb (l.map λ_=>D.bl true)).map _=_;rw[ih];rfl
theorem Lz:∀ (ns σ:List Str),(σ++ns).Nodup->ns.foldl DQ σ=σ++ns
 | [],σ,_=>by simp
 |n::ns,σ,h=>by
  have hn:n∉σ:=λz=>(List.nodup_append.mp h).2.2 n z n mem_cons_self rfl
  rw[foldl_cons,DQ,if_neg hn,Lz ns (σ++ [n]) (by rw[append_assoc];exact h),append_assoc]
  rfl
variable{ms:List Str}
theorem OJ(g:∀ w∈ms,Gd w)(nd:ms.Nodup)(hl:ms.length<=6):La 1 Tb [.lst (ms.map D.str)]=.ok (.bl true):=by
 have cm:Rf 1 (Yc 0) (λ_=>.ok true) Sb [some (.d (.lst (ms.map D.str)))] (ms.map D.str)=.ok (ms.map λ_=>D.bl true):=by
  refine Dd ?_ (by rw[length_map];omega)
  have:=He (fe:=Sb) (λ_=>D.bl true) [some (.d (.lst (ms.map D.str)))] (ms.map D.str) none (λx hx=>by
   obtain⟨w,hw,rfl⟩:=mem_map.mp hx
   have e:=Ox w (g w hw)
   unfold Sb
   simp only[b1,Aa,Ka,Oa,Va,Res.bind_ok,e])
  rw[map_map]at this
  exact this
 have al:On (.lst (ms.map λ_=>D.bl true))=.ok (.bl true):=by
  unfold On
  dsimp only
  rw[QB]
  dsimp only
  congr 2
  rw[all_map,all_eq_true]
  exact λ_ _=>rfl
 have ls:Qs (.lst (ms.map D.str))=.ok (.int (ms.length:Int)):=by
  unfold Qs
  simp only[Mh]
  rw[if_pos (by omega),show Wp ms=ms from Lz ms [] nd]
 have ln:Pc (.lst (ms.map D.str))=.ok (.int (ms.length:Int)):=by rw[Af,length_map]
 have ee:Mm (.int (ms.length:Int)) (.int (ms.length:Int))=.ok (.bl true):=by rw[Qi];simp
 have sq:Ei (.lst (ms.map D.str))=.ok (ms.map D.str):=rfl
 refine Eb _ _ _ _ ?_ rfl
 generalize (ms.map λ_=>D.bl true)=BT at*
 generalize ms.map D.str=M at*
 unfold Tb Wf
 rw[Zb]
 show Hl (Pb _ [some (.d (.lst M))])=_
 simp only[Pb,Yl,Zc,Xd,b1,b2,Va,Na,Res.bind_ok,sq,cm,al,ls,ln,ee,Gi,if_true,Cb,Yb]
theorem Dw{p:Str×List Str}(h:PrG p)(hk:(k="wing"/\l="=")\/(k="key"/\l="opens")):La 1 Fc [.lst ((k::p.1::l::p.2).map D.str)]=.ok (Hg p):=by
 have pl:0<p.2.length:=List.length_pos_iff.mpr h.2.1
 have e0:=Gx (k::p.1::l::p.2) 0 k rfl
 have e1:=Gx (k::p.1::l::p.2) 1 p.1 rfl
 have e2:=Gx (k::p.1::l::p.2) 2 l rfl
 have ln:Pc (.lst ((k::p.1::l::p.2).map D.str))=.ok (.int ((p.2.length:Int)+3)):=by rw[Af,length_map];rfl
 have sl:Vr (.lst ((k::p.1::l::p.2).map D.str)) (some 3) none=.ok (p.2.map D.str):=by
  rw[Zv,Vw]
  congr 2
  rw[sIx_nat _ _ 3 (by decide)]
  show take _ (List.drop (min 3 _) (k::p.1::l::p.2))=_
  rw[min_eq_left (by simp)]
  show take _ p.2=_
  refine take_of_length_le ?_
  show _<=HT.sIx _ (k::p.1::l::p.2).length none-_
  show p.2.length<=(k::p.1::l::p.2).length-3
  simp
 have nm:=Ox p.1 h.1
 have un:=OJ h.2.2.2.1 h.2.2.2.2 h.2.2.1
 have ek:Mm (.str k) (.str "door")=.ok (.bl false):=by
  rw[Q4]
  rcases hk with⟨rfl,_⟩|⟨rfl,_⟩<;>(congr 2)
 have nt:Ws (α:=Str) [("wing","="),("key","opens")] (.str k)=.ok (.bl false):=by
  rcases hk with⟨rfl,_⟩|⟨rfl,_⟩<;>rfl
 have tg:Bq D.str [("wing","="),("key","opens")] (.str k)=.ok (.str l):=by
  rcases hk with⟨rfl,rfl⟩|⟨rfl,rfl⟩<;>rfl
 have nl:Px (.str l) (.str l)=.ok (.bl false):=by rw[Q8];simp
 have lt:EQ (.int ((p.2.length:Int)+3)) (.int 4)=.ok (.bl false):=by rw[Ll,decide_eq_false (by omega)]
 have pr:Hg p=.tup [.str p.1,.lst (p.2.map D.str)]:=rfl
 rw[pr]
 generalize D.lst ((k::p.1::l::p.2).map D.str)=W at*
 generalize p.2.map D.str=M at*
 have e0':Ae W (.int 0)=.ok (.str k):=e0
 have e1':Ae W (.int 1)=.ok (.str p.1):=e1
 have e2':Ae W (.int 2)=.ok (.str l):=e2
 refine Eb _ _ _ _ ?_ rfl
 unfold Fc Ek
 rw[Zb]
 show Hl (Sa _ _ [some (.d W)])=_
 unfold Sa
 rw[Ve (by simp only[tR,b2,kD,Na,Res.bind_ok,e0',ek,Ab]),Ma,Ve (by
  simp only[Xe,tR,b1,b2,kD,Na,Res.bind_ok,e0',e2',nt,ln,lt,tg,nl,Ab,Td,false_eq_true,if_false]),Ma,Ve (by
  simp only[Xe,Cc,tR,b1,b2,b3,kD,Zc,Vc,Aa,Ka,Oa,Na,Res.bind_ok,e1',nm,Ce,sl,un,Ab,Td,Bool.not_true,false_eq_true,if_false]),Ma]
 simp only[Pb,b1,b2,b3,kD,Zc,Vc,Zn,Aa,Ka,Oa,Na,Res.bind_ok,e1',Ce,sl,List.length_cons,length_nil,reduceAdd,reduceLeDiff,if_true,Cb,Yb]
def NZ(k:Str):Str:=if k="wing" then "=" else "opens"
def Qn:List Str->Bool
 | []=>false
 |k::r=>if k="door" then !(decide (r.length=1)&&Qd (r.headD "")) else if k="wing"\/k="key" then(decide (r.length<3)|| !decide (r.getD 1 ""=NZ k)|| !Qd (r.headD "")|| !((r.drop 2).all Qd&&decide ((Wp (r.drop 2)).length=(r.drop 2).length))) else true
theorem QG(g:α->Bool)(l:List α):Mb (l.map λx=>D.bl (g x))=some (l.map g):=by
 induction l with
 |nil=>rfl
 |cons a l ih=>show(Mb (l.map λx=>D.bl (g x))).map _=_;rw[ih];rfl
theorem VD(g:∀ w∈ms,w.length<=1000)(hl:ms.length<60):La 1 Tb [.lst (ms.map D.str)]=.ok (.bl (ms.all Qd&&decide ((Wp ms).length=ms.length))):=by
 have cm:Rf 1 (Yc 0) (λ_=>.ok true) Sb [some (.d (.lst (ms.map D.str)))] (ms.map D.str)=.ok (ms.map λw=>D.bl (Qd w)):=by
  refine Dd ?_ (by rw[length_map];omega)
  have:=He (fe:=Sb) (λx=>match x with| .str w=>D.bl (Qd w)|_=>.non) [some (.d (.lst (ms.map D.str)))] (ms.map D.str) none (λx hx=>by
   obtain⟨w,hw,rfl⟩:=mem_map.mp hx
   have e:=Sr w (g w hw)
   unfold Sb
   simp only[b1,Aa,Ka,Oa,Va,Res.bind_ok,e])
  rw[map_map]at this
  exact this
 have al:On (.lst (ms.map λw=>D.bl (Qd w)))=.ok (.bl (ms.all Qd)):=by
  unfold On
  dsimp only
  rw[QG]
  dsimp only
  rw[all_map]
  rfl
 have ls:Qs (.lst (ms.map D.str))=.ok (.int ((Wp ms).length:Int)):=by
  unfold Qs
  simp only[Mh]
  rw[if_pos (by omega)]
 have ln:Pc (.lst (ms.map D.str))=.ok (.int (ms.length:Int)):=by rw[Af,length_map]
 have ee:Mm (.int ((Wp ms).length:Int)) (.int (ms.length:Int))=.ok (.bl (decide ((Wp ms).length=ms.length))):=by
  rw[Qi];congr 2
  rw[Bool.eq_iff_iff,beq_iff_eq,decide_eq_true_eq];omega
 have sq:Ei (.lst (ms.map D.str))=.ok (ms.map D.str):=rfl
 refine Eb _ _ _ _ ?_ rfl
 generalize (ms.map λw=>D.bl (Qd w))=BT at*
 generalize ms.map D.str=M at*
 generalize ms.all Qd=a1 at*
 generalize decide ((Wp ms).length=ms.length)=a2 at*
 unfold Tb Wf
 rw[Zb]
 show Hl (Pb _ [some (.d (.lst M))])=_
 simp only[Pb,Yl,Zc,Xd,b1,b2,Va,Na,Res.bind_ok,sq,cm,al,ls,ln,ee,Gi,Cb,Yb]
 cases a1<;>rfl
theorem CJ(W:List Str):Vr (.lst (W.map D.str)) (some 3) none=.ok ((W.drop 3).map D.str):=by
 rw[Zv,Vw]
 congr 2
 rw[sIx_nat _ _ 3 (by decide)]
 show take (W.length-min 3 W.length) (List.drop (min 3 _) W)=_
 by_cases h:3<=W.length
 .rw[min_eq_left h]
  exact take_of_length_le (by rw[length_drop];exact le_refl _)
 .rw[Nat.min_eq_right (by omega),drop_of_length_le (le_refl _),drop_of_length_le (by omega)]
  simp
theorem JJ{W:List Str}(hb:Qn W=true)(hl:W.length<60)(hw:∀ w∈W,w.length<=1000):La 1 Fc [.lst (W.map D.str)]=.ok .non:=by
 cases W with
 |nil=>cases hb
 |cons k r=>
  have e0:=Gx (k::r) 0 k rfl
  have ln:Pc (.lst ((k::r).map D.str))=.ok (.int ((r.length:Int)+1)):=by rw[Af,length_map];rfl
  have e1:∀ x,r[0]? =some x->Ae (.lst ((k::r).map D.str)) (.int 1)=.ok (.str x):=λx h=>Gx (k::r) 1 x (by simpa using h)
  have e2:∀ x,r[1]? =some x->Ae (.lst ((k::r).map D.str)) (.int 2)=.ok (.str x):=λx h=>Gx (k::r) 2 x (by simpa using h)
  have sl:=CJ (k::r)
  have un:=VD (ms:=(k::r).drop 3) (λw h=>hw w (List.mem_of_mem_drop h)) (by rw[length_drop];omega)
  have dr:(k::r).drop 3=r.drop 2:=rfl
  rw[dr]at sl un
  have wr:∀ w∈r,w.length<=1000:=λw h=>hw w (mem_cons_of_mem _ h)
  have e0':Ae (.lst ((k::r).map D.str)) (.int 0)=.ok (.str k):=e0
  generalize D.lst ((k::r).map D.str)=WL at*
  unfold Qn at hb
  dsimp only at hb
  refine Eb _ _ _ _ ?_ rfl
  unfold Fc Ek
  rw[Zb]
  show Hl (Sa _ _ [some (.d WL)])=_
  unfold Sa
  have ek:=Q4 k "door"
  by_cases hk:k="door"
  .rw[if_pos hk]at hb
   rw[decide_eq_true hk]at ek
   rw[sIf_t (by simp only[tR,b2,kD,Na,Res.bind_ok,e0',ek,Ab])]
   have el:Mm (.int ((r.length:Int)+1)) (.int 2)=.ok (.bl (decide (r.length=1))):=by
    rw[Qi];congr 2
    rw[Bool.eq_iff_iff,beq_iff_eq,decide_eq_true_eq];omega
   by_cases h1:r.length=1
   .obtain⟨x,rfl⟩:∃ x,r= [x]:=List.length_eq_one_iff.mp h1
    have nb:Qd x=false:=by simpa using hb
    have nx:=Sr x (wr x (by simp))
    rw[nb]at nx
    have e1':=e1 x rfl
    rw[decide_eq_true h1]at el
    simp only[Pb,GQ,Jn,tR,b1,b2,kD,Aa,Ka,Oa,Na,Res.bind_ok,ln,el,e1',nx,Ab,Aj,if_true,false_eq_true,if_false,Cb,Rh,Yb]
   .rw[decide_eq_false h1]at el
    simp only[Pb,GQ,Jn,tR,b1,b2,kD,Na,Res.bind_ok,ln,el,Ab,Aj,false_eq_true,if_false,Cb,Rh,Yb]
  .rw[if_neg hk]at hb
   rw[decide_eq_false hk]at ek
   rw[Ve (by simp only[tR,b2,kD,Na,Res.bind_ok,e0',ek,Ab]),Ma]
   by_cases h2:k="wing"\/k="key"
   .rw[if_pos h2]at hb
    have nt:Ws (α:=Str) [("wing","="),("key","opens")] (.str k)=.ok (.bl false):=by rcases h2 with rfl|rfl<;>rfl
    have tg:Bq D.str [("wing","="),("key","opens")] (.str k)=.ok (.str (NZ k)):=by rcases h2 with rfl|rfl<;>rfl
    have lt:EQ (.int ((r.length:Int)+1)) (.int 4)=.ok (.bl (decide (r.length<3))):=by
     rw[Ll];congr 2
     rw[Bool.eq_iff_iff,decide_eq_true_eq,decide_eq_true_eq];omega
    by_cases h3:r.length<3
    .rw[decide_eq_true h3]at lt
     rw[sIf_t (by simp only[Xe,tR,b1,b2,kD,Na,Res.bind_ok,e0',nt,ln,lt,Ab,Td,false_eq_true,if_false,if_true])]
     rfl
    .rw[decide_eq_false h3]at lt hb
     obtain⟨x,y,r',rfl⟩:∃ x y r',r=x::y::r':=by
      match r,h3 with
      |x::y::r',_=>exact⟨x,y,r',rfl⟩
      | [x],h=>exact absurd (by simp:([x]:List Str).length<3) h
      | [],h=>exact absurd (by simp:([]:List Str).length<3) h
     have e1':=e1 x rfl
     have e2':=e2 y rfl
     have nl:=Q8 y (NZ k)
     have nx:=Sr x (wr x (by simp))
     by_cases h4:y=NZ k
     .rw[decide_eq_true h4]at nl
      rw[Ve (by simp only[Xe,tR,b1,b2,kD,Na,Res.bind_ok,e0',e2',nt,ln,lt,tg,nl,Ab,Td,Bool.not_true,false_eq_true,if_false]),Ma]
      have hb':(!Qd x|| !((r'.all Qd)&&decide ((Wp r').length=r'.length)))=true:=by
       have:(x::y::r').getD 1 ""=NZ k:=h4
       rw[decide_eq_true this]at hb
       simpa using hb
      cases hx:Qd x with
      |false=>
       rw[hx]at nx
       rw[sIf_t (by simp only[Xe,Cc,tR,b1,b2,kD,Aa,Ka,Oa,Na,Res.bind_ok,e1',nx,Ab,Td,Bool.not_false,if_true])]
       rfl
      |true=>
       rw[hx]at nx hb'
       have dr2:(x::y::r').drop 2=r':=rfl
       rw[dr2]at un sl
       have ub:(r'.all Qd&&decide ((Wp r').length=r'.length))=false:=by
        cases hq:(r'.all Qd&&decide ((Wp r').length=r'.length)) with
        |false=>rfl
        |true=>rw[hq]at hb';cases hb'
       rw[ub]at un
       rw[sIf_t (by simp only[Xe,Cc,tR,b1,b2,b3,kD,Zc,Vc,Aa,Ka,Oa,Na,Res.bind_ok,e1',nx,Ce,sl,un,Ab,Td,Bool.not_true,Bool.not_false,false_eq_true,if_false,if_true])]
       rfl
     .rw[decide_eq_false h4]at nl
      rw[sIf_t (by simp only[Xe,tR,b1,b2,kD,Na,Res.bind_ok,e0',e2',nt,ln,lt,tg,nl,Ab,Td,Bool.not_false,false_eq_true,if_false,if_true])]
      rfl
   .have h5:¬ k="wing":=λz=>h2 (.inl z)
    have h6:¬ k="key":=λz=>h2 (.inr z)
    have nt:Ws (α:=Str) [("wing","="),("key","opens")] (.str k)=.ok (.bl true):=by
     show Res.ok (D.bl (!(List.lookup k [(("wing":Str),("=":Str)),("key","opens")]).isSome))=_
     rw[lookup_cons,beq_eq_false_iff_ne.mpr h5]
     dsimp only
     rw[lookup_cons,beq_eq_false_iff_ne.mpr h6]
     rfl
    rw[sIf_t (by simp only[Xe,tR,b1,b2,kD,Na,Res.bind_ok,e0',nt,Ab,Td,if_true])]
    rfl
abbrev KS:List Jd:= [.inr "door",.inr "wing",.inr "key"]
def tbC(A B C:List D):List (Jd×D):= [(.inr "door",.lst A),(.inr "wing",.lst B),(.inr "key",.lst C)]
theorem Tl(ks:List Jd)(ds:List D)(r:Ga):Gg 0 (some (.d (.dct ks ds))::r)=.ok (ks.zip ds):=by simp[Gg]
theorem Oy(n:Nat)(a:Option S)(r:Ga):Gg (n+1) (a::r)=Gg n r:=by simp[Gg]
abbrev Kp(A B C:List D):D:=.dct KS [.lst A,.lst B,.lst C]
theorem OM(A B C:List D)(k:Str)(L:List Str)(hk:(k="door"/\L=(["wing","key"]:List Str)/\B= []/\C= [])\/(k="wing"/\L=(["key"]:List Str)/\C= [])\/(k="key"/\L= [])):
  Bq Fz [("door",(["wing","key"]:List Str)),("wing",(["key"]:List Str)),("key",([]:List Str))] (.str k)=.ok (Fz L)/\∃ bs,Rf 1 (Yc 0) (λ_=>.ok true) Ld [some (.d (Kp A B C)),some (.d (.str k))] (L.map D.str)=.ok bs/\IB (.lst bs)=.ok (.bl false):=by
 have el:∀ (x:Str) (δ:Ga),Se (tbC A B C) (.str x)=.ok (.lst [])->Ld (some (.d (.str x))::some (.d (Kp A B C))::δ)=.ok (.bl false):=λx δ e=>by
  have z:Pc (.lst [])=.ok (.int 0):=by rw[Af];rfl
  have g:BW (.int 0) (.int 0)=.ok (.bl false):=by rw[Rn];rfl
  have e':Se (KS.zip [.lst A,.lst B,.lst C]) (.str x)=.ok (.lst []):=e
  unfold Ld
  simp only[b1,b2,Br,kD,Oy,Tl,Na,Res.bind_ok,e',z,g]
 rcases hk with⟨rfl,rfl,rfl,rfl⟩|⟨rfl,rfl,rfl⟩|⟨rfl,rfl⟩
 .refine⟨rfl,[.bl false,.bl false],?_,rfl⟩
  refine Dd ?_ (by show 2<=100000;decide)
  exact He (fe:=Ld) (λ_=>D.bl false) [some (.d (Kp A [] [])),some (.d (.str "door"))] [.str "wing",.str "key"] none (λx hx=>by
   simp only[mem_cons,not_mem_nil,or_false]at hx
   rcases hx with rfl|rfl
   .exact el _ _ rfl
   .exact el _ _ rfl)
 .refine⟨rfl,[.bl false],?_,rfl⟩
  refine Dd ?_ (by show 1<=100000;decide)
  exact He (fe:=Ld) (λ_=>D.bl false) [some (.d (Kp A B [])),some (.d (.str "wing"))] [.str "key"] none (λx hx=>by
   simp only[mem_cons,not_mem_nil,or_false]at hx
   rcases hx with rfl
   exact el _ _ rfl)
 .exact⟨rfl,[],Dd (by rfl) (by show 0<=100000;decide),rfl⟩
theorem Xt(A B C:List D)(k:Str)(hk:(k="door"/\B= []/\C= []/\A.length<60)\/(k="wing"/\C= []/\A≠ []/\B.length<60)\/(k="key"/\A≠ []/\C.length<60)):La 2 Ec [Kp A B C,.str k]=.ok (.bl true):=by
 obtain⟨L,Z,hL,hZ,hz,hd⟩:∃ (L:List Str) (Z:List D),((k="door"/\L=(["wing","key"]:List Str)/\B= []/\C= [])\/(k="wing"/\L=(["key"]:List Str)/\C= [])\/(k="key"/\L= []))/\Se (KS.zip [.lst A,.lst B,.lst C]) (.str k)=.ok (.lst Z)/\Z.length<60/\(k="door"\/(k≠"door"/\A≠ [])):=by
  rcases hk with⟨rfl,h1,h2,h3⟩|⟨rfl,h1,h2,h3⟩|⟨rfl,h1,h2⟩
  .exact⟨_,A,.inl ⟨rfl,rfl,h1,h2⟩,rfl,h3,.inl rfl⟩
  .exact⟨_,B,.inr (.inl ⟨rfl,rfl,h1⟩),rfl,h3,.inr ⟨by decide,h2⟩⟩
  .exact⟨_,C,.inr (.inr ⟨rfl,rfl⟩),rfl,h2,.inr ⟨by decide,h1⟩⟩
 obtain⟨t1,bs,t2,t3⟩:=OM A B C k L hL
 have ln:Pc (.lst Z)=.ok (.int (Z.length:Int)):=Af Z
 have ge:OY (.int (Z.length:Int)) (.int 60)=.ok (.bl false):=by rw[Qp,decide_eq_false (by omega)]
 have sq:Ei (Fz L)=.ok (L.map D.str):=rfl
 have g0:Se (KS.zip [.lst A,.lst B,.lst C]) (.str "door")=.ok (.lst A):=rfl
 have l0:Pc (.lst A)=.ok (.int (A.length:Int)):=Af A
 have cd:Xe (tR (b2 OY (b1 Pc (Br Se (Gg 0) (Ca 1))) (kD (.int 60)))) (tR (b1 IB (Zc (Xd 1 (Yc 0) (λ_=>.ok true) Ld (b1 Ei (b1 (Bq Fz [("door",(["wing","key"]:List Str)),("wing",(["key"]:List Str)),("key",([]:List Str))]) (Ca 1))))))) [some (.d (Kp A B C)),some (.d (.str k))]=.ok false:=by
  generalize Fz L=DL at*
  simp only[Xe,tR,b1,b2,Br,kD,Zc,Xd,Tl,Kb,Na,Res.bind_ok,hZ,ln,ge,t1,sq,t2,t3,Ab,Td,false_eq_true,if_false]
 refine Eb _ _ _ _ ?_ rfl
 unfold Ec Nq
 rw[Zb]
 show Hl (Sa _ _ [some (.d (Kp A B C)),some (.d (.str k))])=_
 unfold Sa
 rw[Ve cd,Ma]
 have ek:=Q4 k "door"
 rcases hd with rfl|⟨hn,ha⟩
 .rw[decide_eq_true rfl]at ek
  simp only[Pb,HQ,b2,kD,Kb,Na,Res.bind_ok,ek,Vn,if_true,Cb,Yb]
 .rw[decide_eq_false hn]at ek
  have gt:BW (.int (A.length:Int)) (.int 0)=.ok (.bl true):=by rw[Rn,decide_eq_true (by have:=List.length_pos_iff.mpr ha;omega)]
  simp only[Pb,HQ,b1,b2,Br,kD,Tl,Kb,Na,Res.bind_ok,ek,g0,l0,gt,Vn,false_eq_true,if_false,Cb,Yb]
theorem Aw{W:List D}(h:Pf z [.str y]=.ok W):Ug z [.str y]=.ok W:=by
 unfold Pf at h
 dsimp only at h
 split at h
 .rename_i c
  unfold Ug
  dsimp only
  rw[if_pos ⟨c.1,by have:=c.2.1;omega,c.2.2⟩]
  exact h
 .cases h
theorem SD(Tx Rw Ru pl:D)(A B C:List D)(r k:Str)(W:List D)(d:D)(j:Nat)(L:List D)(x6 x7:Option S)(e1':Pf r [.str " "]=.ok W)(e2:Ae (.lst W) (.int 0)=.ok (.str k))(e3:La 1 Fc [.lst W]=.ok d)(e4:Er d=.ok (.bl false))(e5:La 2 Ec [Kp A B C,.str k]=.ok (.bl true))(e6:DZ KS (.inr k)=some j)(e7: [Ch.l A,.l B,.l C][j]? =some (.l L))(e8:L.length<=100000):
  Bb [some (.d Tx),some (.d Rw),some (.d Ru),some (.k (.dct KS) [.l A,.l B,.l C]),some (.d pl),some (.d (.str r)),x6,x7]=.nx [some (.d Tx),some (.d Rw),some (.d Ru),some (.k (.dct KS) ([Ch.l A,.l B,.l C].set j (.l (L++ [d])))),some (.d pl),some (.d (.str r)),some (.d (.lst W)),some (.d d)]:=by
 have e1:=Aw e1'
 have w6:Nb 6 (Zc (bM Ug (Qa 5) (Aa (kD (.str " ")) Ka))) [some (.d Tx),some (.d Rw),some (.d Ru),some (.k (.dct KS) [.l A,.l B,.l C]),some (.d pl),some (.d (.str r)),x6,x7]=.nx [some (.d Tx),some (.d Rw),some (.d Ru),some (.k (.dct KS) [.l A,.l B,.l C]),some (.d pl),some (.d (.str r)),some (.d (.lst W)),x7]:=by
  simp only[Nb,Zc,bM,kD,Aa,Ka,Oa,Va,Ob,Res.bind_ok,e1,Cb,set_cons_zero,set_cons_succ]
 have w7:Nb 7 (b1 (La 1 Fc) (Aa (Qa 6) Ka)) [some (.d Tx),some (.d Rw),some (.d Ru),some (.k (.dct KS) [.l A,.l B,.l C]),some (.d pl),some (.d (.str r)),some (.d (.lst W)),x7]=.nx [some (.d Tx),some (.d Rw),some (.d Ru),some (.k (.dct KS) [.l A,.l B,.l C]),some (.d pl),some (.d (.str r)),some (.d (.lst W)),some (.d d)]:=by
  simp only[Nb,b1,Aa,Ka,Oa,Va,Ob,Res.bind_ok,e3,Cb,set_cons_zero,set_cons_succ]
 have vw:Bu 3 (b1 (La 2 Ec) (Aa (Qa 3) (Aa (b2 Ae (Ca 6) (kD (.int 0))) Ka))) [some (.d Tx),some (.d Rw),some (.d Ru),some (.k (.dct KS) [.l A,.l B,.l C]),some (.d pl),some (.d (.str r)),some (.d (.lst W)),some (.d d)]=.ok (.bl true):=by
  have:(b1 (La 2 Ec) (Aa (Qa 3) (Aa (b2 Ae (Ca 6) (kD (.int 0))) Ka))) [some (.d Tx),some (.d Rw),some (.d Ru),some (.d (Kp A B C)),some (.d pl),some (.d (.str r)),some (.d (.lst W)),some (.d d)]=.ok (.bl true):=by
   simp only[b1,b2,kD,Aa,Ka,Oa,Va,Ob,Na,Kb,Res.bind_ok,e2,e5]
  show(match (b1 (La 2 Ec) (Aa (Qa 3) (Aa (b2 Ae (Ca 6) (kD (.int 0))) Ka))) [some (.d Tx),some (.d Rw),some (.d Ru),some (.d (Kp A B C)),some (.d pl),some (.d (.str r)),some (.d (.lst W)),some (.d d)] with
   | .ok x=>if Bj x=true then Res.ok x else .stuck
   |_=>.stuck)=_
  rw[this];rfl
 have cd:Xe (tR (b1 Er (Ca 7))) (Cc (tR (Bu 3 (b1 (La 2 Ec) (Aa (Qa 3) (Aa (b2 Ae (Ca 6) (kD (.int 0))) Ka)))))) [some (.d Tx),some (.d Rw),some (.d Ru),some (.k (.dct KS) [.l A,.l B,.l C]),some (.d pl),some (.d (.str r)),some (.d (.lst W)),some (.d d)]=.ok false:=by
  simp only[Xe,Cc,tR,b1,Na,Kb,Res.bind_ok,e4,vw,Ab,Td,Bool.not_true,false_eq_true,if_false]
 have ap:TF 3 (b2 Ae (Ca 6) (kD (.int 0))) (Qa 7) [some (.d Tx),some (.d Rw),some (.d Ru),some (.k (.dct KS) [.l A,.l B,.l C]),some (.d pl),some (.d (.str r)),some (.d (.lst W)),some (.d d)]=.nx [some (.d Tx),some (.d Rw),some (.d Ru),some (.k (.dct KS) ([Ch.l A,.l B,.l C].set j (.l (L++ [d])))),some (.d pl),some (.d (.str r)),some (.d (.lst W)),some (.d d)]:=by
  have i0:(b2 Ae (Ca 6) (kD (.int 0))) [some (.d Tx),some (.d Rw),some (.d Ru),some (.k (.dct KS) [.l A,.l B,.l C]),some (.d pl),some (.d (.str r)),some (.d (.lst W)),some (.d d)]=.ok (.str k):=by
   simp only[b2,kD,Na,Kb,Res.bind_ok,e2]
  show Wk ((b2 Ae (Ca 6) (kD (.int 0))) _) (B4 3 (Qa 7) _ KS [.l A,.l B,.l C])=_
  rw[i0]
  show B4 3 (Qa 7) _ KS [.l A,.l B,.l C] (.str k)=_
  unfold B4
  show(match DZ KS (.inr k) with|some j=>_|none=>Out.stuck)=_
  rw[e6]
  dsimp only
  rw[e7]
  dsimp only
  rw[if_pos e8]
  rfl
 have cd':Tj (Xe (tR (b1 Er (Ca 7))) (Cc (tR (Bu 3 (b1 (La 2 Ec) (Aa (Qa 3) (Aa (b2 Ae (Ca 6) (kD (.int 0))) Ka))))))) [some (.d Tx),some (.d Rw),some (.d Ru),some (.k (.dct KS) [.l A,.l B,.l C]),some (.d pl),some (.d (.str r)),some (.d (.lst W)),some (.d d)]=.ok false:=by unfold Tj;rw[cd];rfl
 unfold Bb Sa Tn
 rw[w6,Le,Ma,w7,Le,Ma,Ve cd',Ma,ap,Le]
theorem BP(Tx Rw Ru T3:D)(n:Nat)(hn:n<1000)(cs:Option S)(r:Str)(W:List D)(x6 x7:Option S)(e1':Pf r [.str " "]=.ok W)(e3:La 1 Fc [.lst W]=.ok .non):
  Bb [some (.d Tx),some (.d Rw),some (.d Ru),cs,some (.d (.int (n:Int))),some (.d (.str r)),x6,x7]=.ex "NoRow" (Pl (n:Int)):=by
 have e1:=Aw e1'
 have w6:Nb 6 (Zc (bM Ug (Qa 5) (Aa (kD (.str " ")) Ka))) [some (.d Tx),some (.d Rw),some (.d Ru),cs,some (.d (.int (n:Int))),some (.d (.str r)),x6,x7]=.nx [some (.d Tx),some (.d Rw),some (.d Ru),cs,some (.d (.int (n:Int))),some (.d (.str r)),some (.d (.lst W)),x7]:=by
  simp only[Nb,Zc,bM,kD,Aa,Ka,Oa,Va,Ob,Res.bind_ok,e1,Cb,set_cons_zero,set_cons_succ]
 have w7:Nb 7 (b1 (La 1 Fc) (Aa (Qa 6) Ka)) [some (.d Tx),some (.d Rw),some (.d Ru),cs,some (.d (.int (n:Int))),some (.d (.str r)),some (.d (.lst W)),x7]=.nx [some (.d Tx),some (.d Rw),some (.d Ru),cs,some (.d (.int (n:Int))),some (.d (.str r)),some (.d (.lst W)),some (.d .non)]:=by
  simp only[Nb,b1,Aa,Ka,Oa,Va,Ob,Res.bind_ok,e3,Cb,set_cons_zero,set_cons_succ]
 have cd:Tj (Xe (tR (b1 Er (Ca 7))) (Cc (tR (Bu 3 (b1 (La 2 Ec) (Aa (Qa 3) (Aa (b2 Ae (Ca 6) (kD (.int 0))) Ka))))))) [some (.d Tx),some (.d Rw),some (.d Ru),cs,some (.d (.int (n:Int))),some (.d (.str r)),some (.d (.lst W)),some (.d .non)]=.ok true:=by
  have i:Er .non=.ok (.bl true):=rfl
  simp only[Tj,Xe,tR,b1,Na,Kb,Res.bind_ok,i,Ab,Td,if_true,Ie]
 have ra:Ji "NoRow" [("row",true)] (Ci (Aa (Qa 4) Ka)) [some (.d Tx),some (.d Rw),some (.d Ru),cs,some (.d (.int (n:Int))),some (.d (.str r)),some (.d (.lst W)),some (.d .non)]=.ex "NoRow" (Pl (n:Int)):=by
  have:=By (n:Int) (by omega)
  simp only[Ji,Ci,Aa,Ka,Oa,Va,Ob,Res.bind_ok,Ie,Cb,this]
 unfold Bb Sa Tn
 rw[w6,Le,Ma,w7,Le,Ma,sIf_t cd,ra]
 rfl
abbrev LD(Tx Rw Ru:D)(A B C:List D)(x4 x5 x6 x7:Option S):Ga:= [some (.d Tx),some (.d Rw),some (.d Ru),some (.k (.dct KS) [.l A,.l B,.l C]),x4,x5,x6,x7]
abbrev VJ:D->Ga->Res Ga:=Zq 2 (Nh (Yc 4) (Nh (Yc 5) Yq))
theorem JS(x:Str):Er (.str x)=.ok (.bl false):=rfl
theorem BM(p:Str×List Str):Er (Hg p)=.ok (.bl false):=rfl
theorem Sv(Tx Rw Ru:D):∀ (ds:List Str) (k:Nat) (A rest:List D) (x4 x5 x6 x7:Option S),(∀ x∈ds,Gd x)->A.length+ds.length<60->
  ∃ y4 y5 y6 y7,Xf VJ Bb (Sf k ((ds.map λx=>D.str (("door ":Str)++x))++rest)) (LD Tx Rw Ru A [] [] x4 x5 x6 x7)=Xf VJ Bb (Sf (k+ds.length) rest) (LD Tx Rw Ru (A++ds.map D.str) [] [] y4 y5 y6 y7)
 | [],k,A,rest,x4,x5,x6,x7,_,_=>⟨x4,x5,x6,x7,by rw[map_nil,map_nil,append_nil];rfl⟩
 |x::ds,k,A,rest,x4,x5,x6,x7,g,h=>by
  have gx:=g x mem_cons_self
  have st:=Xt A [] [] "door" (.inl ⟨rfl,rfl,rfl,by rw[List.length_cons]at h;omega⟩)
  have tn:=SD Tx Rw Ru (.int (k:Int)) A [] [] (("door ":Str)++x) "door" _ (.str x) 0 A x6 x7 (YB gx) (Gx ["door",x] 0 "door" rfl) (PD gx) (JS x) st rfl rfl (by rw[List.length_cons]at h;omega)
  obtain⟨y4,y5,y6,y7,e⟩:=Sv Tx Rw Ru ds (k+1) (A++ [.str x]) rest (some (.d (.int (k:Int)))) (some (.d (.str (("door ":Str)++x)))) (some (.d (.lst ((["door",x]:List Str).map D.str)))) (some (.d (.str x))) (λy hy=>g y (mem_cons_of_mem _ hy)) (by rw[length_append];rw[List.length_cons]at h;show A.length+1+_<60;omega)
  refine⟨y4,y5,y6,y7,?_⟩
  rw[append_assoc,show k+1+ds.length=k+(x::ds).length by rw[List.length_cons];omega]at e
  rw[map_cons (f:=D.str)]
  refine Eq.trans ?_ e
  exact CC rfl tn
theorem Tv(Tx Rw Ru:D)(A:List D)(hA:A≠ []):∀ (ps:List (Str×List Str)) (k:Nat) (B rest:List D) (x4 x5 x6 x7:Option S),(∀ p∈ps,PrG p)->B.length+ps.length<60->
  ∃ y4 y5 y6 y7,Xf VJ Bb (Sf k ((ps.map λp=>D.str (Ud "wing" "=" p))++rest)) (LD Tx Rw Ru A B [] x4 x5 x6 x7)=Xf VJ Bb (Sf (k+ps.length) rest) (LD Tx Rw Ru A (B++ps.map Hg) [] y4 y5 y6 y7)
 | [],k,B,rest,x4,x5,x6,x7,_,_=>⟨x4,x5,x6,x7,by rw[map_nil,map_nil,append_nil];rfl⟩
 |p::ps,k,B,rest,x4,x5,x6,x7,g,h=>by
  have gx:=g p mem_cons_self
  have st:=Xt A B [] "wing" (.inr (.inl ⟨rfl,rfl,hA,by rw[List.length_cons]at h;omega⟩))
  have tn:=SD Tx Rw Ru (.int (k:Int)) A B [] (Ud "wing" "=" p) "wing" _ (Hg p) 1 B x6 x7 (Xq gx (.inl rfl) (.inl rfl)) (Gx ("wing"::p.1::"="::p.2) 0 "wing" rfl) (Dw gx (.inl ⟨rfl,rfl⟩)) (BM p) st rfl rfl (by rw[List.length_cons]at h;omega)
  obtain⟨y4,y5,y6,y7,e⟩:=Tv Tx Rw Ru A hA ps (k+1) (B++ [Hg p]) rest (some (.d (.int (k:Int)))) (some (.d (.str (Ud "wing" "=" p)))) (some (.d (.lst ((("wing":Str)::p.1::("=":Str)::p.2).map D.str)))) (some (.d (Hg p))) (λy hy=>g y (mem_cons_of_mem _ hy)) (by rw[length_append];rw[List.length_cons]at h;show B.length+1+_<60;omega)
  refine⟨y4,y5,y6,y7,?_⟩
  rw[append_assoc,show k+1+ps.length=k+(p::ps).length by rw[List.length_cons];omega]at e
  rw[map_cons (f:=Hg)]
  refine Eq.trans ?_ e
  exact CC rfl tn
theorem Wz(Tx Rw Ru:D)(A B:List D)(hA:A≠ []):∀ (ps:List (Str×List Str)) (k:Nat) (C rest:List D) (x4 x5 x6 x7:Option S),(∀ p∈ps,PrG p)->C.length+ps.length<60->
  ∃ y4 y5 y6 y7,Xf VJ Bb (Sf k ((ps.map λp=>D.str (Ud "key" "opens" p))++rest)) (LD Tx Rw Ru A B C x4 x5 x6 x7)=Xf VJ Bb (Sf (k+ps.length) rest) (LD Tx Rw Ru A B (C++ps.map Hg) y4 y5 y6 y7)
 | [],k,C,rest,x4,x5,x6,x7,_,_=>⟨x4,x5,x6,x7,by rw[map_nil,map_nil,append_nil];rfl⟩
 |p::ps,k,C,rest,x4,x5,x6,x7,g,h=>by
  have gx:=g p mem_cons_self
  have st:=Xt A B C "key" (.inr (.inr ⟨rfl,hA,by rw[List.length_cons]at h;omega⟩))
  have tn:=SD Tx Rw Ru (.int (k:Int)) A B C (Ud "key" "opens" p) "key" _ (Hg p) 2 C x6 x7 (Xq gx (.inr rfl) (.inr rfl)) (Gx ("key"::p.1::"opens"::p.2) 0 "key" rfl) (Dw gx (.inr ⟨rfl,rfl⟩)) (BM p) st rfl rfl (by rw[List.length_cons]at h;omega)
  obtain⟨y4,y5,y6,y7,e⟩:=Wz Tx Rw Ru A B hA ps (k+1) (C++ [Hg p]) rest (some (.d (.int (k:Int)))) (some (.d (.str (Ud "key" "opens" p)))) (some (.d (.lst ((("key":Str)::p.1::("opens":Str)::p.2).map D.str)))) (some (.d (Hg p))) (λy hy=>g y (mem_cons_of_mem _ hy)) (by rw[length_append];rw[List.length_cons]at h;show C.length+1+_<60;omega)
  refine⟨y4,y5,y6,y7,?_⟩
  rw[append_assoc,show k+1+ps.length=k+(p::ps).length by rw[List.length_cons];omega]at e
  rw[map_cons (f:=Hg)]
  refine Eq.trans ?_ e
  exact CC rfl tn
variable{xs:List Str}
theorem Hx(hc:c≠32)(h:∀ x∈xs,c∉x.cps.toList):c∉(PySem.Txt.join ⟨#[32]⟩ xs).cps.toList:=by
 rw[show PySem.Txt.join ⟨#[32]⟩ xs=Str.join ⟨#[32]⟩ xs from StrLaws.glued_eq_join _ _,Ze]
 intro z
 rcases HM 32 c z with z|⟨y,hy,z⟩
 .exact hc z
 .obtain⟨x,hx,rfl⟩:=mem_map.mp hy
  exact h x hx z
theorem Ul{rows:List Str}(h2:2<=rows.length)(hn:rows.length<=1000)(hl:(rows.map (·.length)).sum+rows.length<=100000)(hf:∀ x∈rows,10∉x.cps.toList):Ug (PySem.Txt.join ⟨#[10]⟩ rows) [.str ⟨#[10]⟩]=.ok (rows.map D.str):=by
 have sj:=Vi 10 rows (λz=>by rw[z]at h2;simp at h2) hf
 have zl:=le_trans (Il 10 rows) hl
 generalize PySem.Txt.join ⟨#[10]⟩ rows=z at*
 have ps:(PySem.Builtin.Str.partsBetween z (PySem.Builtin.Str.occurrences z ⟨#[10]⟩ 0 z.length (z.length+1)) (⟨#[10]⟩:Str).length).length<=1000:=by
  have sj':=sj
  unfold PySem.Txt.split at sj'
  split at sj'
  .rw[<-sj']at h2;simp at h2
  .split at sj'
   .rw[<-sj']at h2;simp at h2
   .rw[sj'];exact hn
 unfold Ug
 dsimp only
 rw[if_pos ⟨rfl,zl,ps⟩,sj]
theorem Fy{c:Int}(o:RuOk a b c d){ds:List Str}{ps qs:List (Str×List Str)}(g1:∀ x∈ds,Gd x)(g2:∀ p∈ps,PrG p)(g3:∀ p∈qs,PrG p):∀ x∈Db a b c d ds ps qs,10∉x.cps.toList:=λx hx=>by
 have sm:=o.sm
 have cat:∀ u v:Str,10∉u.cps.toList->10∉v.cps.toList->10∉(u++v).cps.toList:=λu v hu hv z=>by
  rw[Str.cps_append,toList_append]at z
  rcases mem_append.mp z with z|z
  .exact hu z
  .exact hv z
 have row:∀ (k l:Str) (p:Str×List Str),(k="wing"\/k="key")->(l="="\/l="opens")->PrG p->10∉(Ud k l p).cps.toList:=λk l p hk hl hp=>by
  refine Hx (by decide) λy hy=>?_
  rcases mem_cons.mp hy with rfl|hy
  .exact(Vz (by rcases hk with rfl|rfl<;>simp)).2.1
  .rcases mem_cons.mp hy with rfl|hy
   .exact Kq hp.1 (by decide)
   .rcases mem_cons.mp hy with rfl|hy
    .exact(Vz (by rcases hl with rfl|rfl<;>simp)).2.1
    .exact Kq (hp.2.2.2.1 y hy) (by decide)
 unfold Db at hx
 rcases mem_cons.mp hx with rfl|hx
 .refine cat _ _ (by decide +kernel) (Hx (by decide) λy hy=>?_)
  simp only[mem_cons,not_mem_nil,or_false]at hy
  rcases hy with rfl|rfl|rfl|rfl
  .exact(Yh a (sm a (by simp))).2.2.2
  .exact(Yh b (sm b (by simp))).2.2.2
  .exact(Yh c (sm c (by simp))).2.2.2
  .exact(Yh d (sm d (by simp))).2.2.2
 .rcases mem_append.mp hx with hx|hx
  .rcases mem_append.mp hx with hx|hx
   .obtain⟨y,hy,rfl⟩:=mem_map.mp hx
    exact cat _ _ (by decide +kernel) (Kq (g1 y hy) (by decide))
   .obtain⟨p,hp,rfl⟩:=mem_map.mp hx
    exact row _ _ p (.inl rfl) (.inl rfl) (g2 p hp)
  .obtain⟨p,hp,rfl⟩:=mem_map.mp hx
   exact row _ _ p (.inr rfl) (.inr rfl) (g3 p hp)
theorem Aq(r:Str)(rest:List Str):Vr (.lst ((r::rest).map D.str)) (some 1) none=.ok (rest.map D.str):=by
 rw[Zv,Vw]
 congr 2
 rw[sIx_nat _ _ 1 (by decide)]
 show take _ (List.drop (min 1 _) (r::rest))=_
 rw[min_eq_left (by simp)]
 show take _ rest=_
 refine take_of_length_le ?_
 show rest.length<=(r::rest).length-1
 simp
theorem MY{t:D->Ga->Res Ga}{d:D}{c:Str}{fs:List D}(h:t d δ= .ok δ')(h2:body δ'=.ex c fs):Xf t body (d::ds) δ= .ex c fs:=by rw[Pp d ds δ δ' h,h2]
variable{T:D}
theorem UI(h:Yd "str" T=.ok (.bl false)):Ta [T]=.ex "NoRow" (Pl 0):=by
 have cd:Tj (Cc (tR (b1 (Yd "str") (Ca 0)))) [some (.d T),none,none,none,none,none,none,none]=.ok true:=by
  simp only[Tj,Cc,tR,b1,Na,Res.bind_ok,h,Ab,Bool.not_false,Ie]
 have ra:Ji "NoRow" [("row",true)] (Ci (Aa (kD (.int 0)) Ka)) [some (.d T),none,none,none,none,none,none,none]=.ex "NoRow" (Pl 0):=By 0 (by decide)
 unfold Ta Ig
 show(match Sa _ _ [some (.d T),none,none,none,none,none,none,none] with| .rt d=>Res.ok d| .nx _=>.ok .non| .ex c fs=>.ex c fs|_=>.stuck)=_
 unfold Sa
 rw[sIf_t cd,ra]
 rfl
theorem Cy{r0:Str}{RW:List D}(sp:Ug z [.str "\n"]=.ok RW)(i0:Ae (.lst RW) (.int 0)=.ok (.str r0)):
  (∀ fs,Wb [.str r0]=.ex "NoRow" fs->Ta [.str z]=.ex "NoRow" fs)/\
  ∀ (R:D) (RS:List D),Wb [.str r0]=.ok R->Vr (.lst RW) (some 1) none=.ok RS->
   (∀ fs,Xf VJ Bb (Sf 1 RS) (LD (.str z) (.lst RW) R [] [] [] none none none none)=.ex "NoRow" fs->Ta [.str z]=.ex "NoRow" fs)/\
   ∀ (A B C:List D) (w4 w5 w6 w7:Option S) (HH:D),Xf VJ Bb (Sf 1 RS) (LD (.str z) (.lst RW) R [] [] [] none none none none)=.nx (LD (.str z) (.lst RW) R A B C w4 w5 w6 w7)->A≠ []->La 4 (Rs 4 "House" Th) [R,.lst A,.lst B,.lst C]=.ok HH->Ta [.str z]=.ok HH:=by
 have isS':Yd "str" (.str z)=.ok (.bl true):=by rw[Og _ (by simp[Au])];rfl
 have q0:Tj (Cc (tR (b1 (Yd "str") (Ca 0)))) [some (.d (.str z)),none,none,none,none,none,none,none]=.ok false:=by
  simp only[Tj,Cc,tR,b1,Na,Res.bind_ok,isS',Ab,Bool.not_true,Ie]
 have q1:Nb 1 (Zc (bM Ug (Qa 0) (Aa (kD (.str "\n")) Ka))) [some (.d (.str z)),none,none,none,none,none,none,none]=.nx [some (.d (.str z)),some (.d (.lst RW)),none,none,none,none,none,none]:=by
  simp only[Nb,Zc,bM,kD,Aa,Ka,Oa,Va,Res.bind_ok,sp,Cb,set_cons_zero,set_cons_succ]
 refine⟨λfs rx=>?_,λR RS rx s1=>?_⟩
 .have cx:Jg 1 Wb [.str r0]=.ex "NoRow" fs:=(if_pos rfl).trans rx
  have q2:Nb 2 (b1 (Jg 1 Wb) (Ci (Aa (b2 Ae (Ca 1) (kD (.int 0))) Ka))) [some (.d (.str z)),some (.d (.lst RW)),none,none,none,none,none,none]=.ex "NoRow" fs:=by
   have:(b1 (Jg 1 Wb) (Ci (Aa (b2 Ae (Ca 1) (kD (.int 0))) Ka))) [some (.d (.str z)),some (.d (.lst RW)),none,none,none,none,none,none]=.ex "NoRow" fs:=by
    simp only[b1,b2,kD,Ci,Aa,Ka,Oa,Na,Kb,Res.bind_ok,i0,Ie,cx]
   unfold Nb
   rw[this]
   rfl
  unfold Ta Ig
  show(match Sa _ _ [some (.d (.str z)),none,none,none,none,none,none,none] with| .rt d=>Res.ok d| .nx _=>.ok .non| .ex c fs=>.ex c fs|_=>.stuck)=_
  unfold Sa Tn
  rw[Ve q0,Ma,q1,Le,Ma,q2]
  rfl
 .have cx:Jg 1 Wb [.str r0]=.ok R:=(if_pos rfl).trans rx
  have q2:Nb 2 (b1 (Jg 1 Wb) (Ci (Aa (b2 Ae (Ca 1) (kD (.int 0))) Ka))) [some (.d (.str z)),some (.d (.lst RW)),none,none,none,none,none,none]=.nx [some (.d (.str z)),some (.d (.lst RW)),some (.d R),none,none,none,none,none]:=by
   simp only[Nb,b1,b2,kD,Ci,Aa,Ka,Oa,Na,Kb,Res.bind_ok,i0,Ie,cx,Cb,set_cons_zero,set_cons_succ]
  have q3:T1 3 "door" "wing" "key" [some (.d (.str z)),some (.d (.lst RW)),some (.d R),none,none,none,none,none]=.nx (LD (.str z) (.lst RW) R [] [] [] none none none none):=rfl
  have en:Ds [.lst RS]=.ok (Sf 1 RS):=rfl
  have q4:∀ o,Xf VJ Bb (Sf 1 RS) (LD (.str z) (.lst RW) R [] [] [] none none none none)=o->Om VJ Bb (Ci (b1 Ds (Aa (Zc (b3 Vr (Ca 1) (b1 Ue (kD (.int 1))) Vc)) Ka))) (LD (.str z) (.lst RW) R [] [] [] none none none none)=o:=λo fo=>by
   rw[<-fo]
   simp only[LD,Om,Ci,Zc,b1,b3,kD,Vc,Aa,Ka,Oa,Na,Kb,Res.bind_ok,Ce,s1,en,Ie,Cb]
  refine⟨λfs fo=>?_,λA B C w4 w5 w6 w7 HH fo hA mk=>?_⟩
  .unfold Ta Ig
   show(match Sa _ _ [some (.d (.str z)),none,none,none,none,none,none,none] with| .rt d=>Res.ok d| .nx _=>.ok .non| .ex c fs=>.ex c fs|_=>.stuck)=_
   unfold Sa Tn
   rw[Ve q0,Ma,q1,Le,Ma,q2,Ma,q3,Le,Ma,q4 _ fo]
   rfl
  .have g0:Se (KS.zip [.lst A,.lst B,.lst C]) (.str "door")=.ok (.lst A):=rfl
   have g1:Se (KS.zip [.lst A,.lst B,.lst C]) (.str "wing")=.ok (.lst B):=rfl
   have g2:Se (KS.zip [.lst A,.lst B,.lst C]) (.str "key")=.ok (.lst C):=rfl
   have la:Pc (.lst A)=.ok (.int (A.length:Int)):=Af A
   have ea:Mm (.int (A.length:Int)) (.int 0)=.ok (.bl false):=by rw[Qi,beq_eq_false_iff_ne.mpr (by have:=List.length_pos_iff.mpr hA;omega)]
   have q5:Tj (tR (b2 Mm (b1 Pc (Br Se (Gg 3) (kD (.str "door")))) (kD (.int 0)))) [some (.d (.str z)),some (.d (.lst RW)),some (.d R),some (.d (Kp A B C)),w4,w5,w6,w7]=.ok false:=by
    simp only[Tj,tR,b1,b2,Br,kD,Oy,Tl,Res.bind_ok,g0,la,ea,Ab,Ie]
   have q6:Pb (b1 (La 4 (Rs 4 "House" Th)) (Aa (Qa 2) (Aa (Br Se (Gg 3) (kD (.str "door"))) (Aa (Br Se (Gg 3) (kD (.str "wing"))) (Aa (Br Se (Gg 3) (kD (.str "key"))) Ka))))) [some (.d (.str z)),some (.d (.lst RW)),some (.d R),some (.d (Kp A B C)),w4,w5,w6,w7]=.rt HH:=by
    simp only[Pb,b1,Br,kD,Aa,Ka,Oa,Va,Ob,Oy,Tl,Res.bind_ok,g0,g1,g2,mk,Cb]
   unfold Ta Ig
   show(match Sa _ _ [some (.d (.str z)),none,none,none,none,none,none,none] with| .rt d=>Res.ok d| .nx _=>.ok .non| .ex c fs=>.ex c fs|_=>.stuck)=_
   unfold Sa Tn
   rw[Ve q0,Ma,q1,Le,Ma,q2,Ma,q3,Le,Ma,q4 _ fo,Ma]
   show(match Tt (Xj (Tj (tR (b2 Mm (b1 Pc (Br Se (Gg 3) (kD (.str "door")))) (kD (.int 0))))) _ Out.nx [some (.d (.str z)),some (.d (.lst RW)),some (.d R),some (.d (Kp A B C)),w4,w5,w6,w7]) _ with| .rt d=>Res.ok d| .nx _=>.ok .non| .ex c fs=>.ex c fs|_=>.stuck)=_
   rw[Ve q5,Ma,q6]
   rfl
section
variable {a b c d:Int}(o:RuOk a b c d){ds:List Str}{ps qs:List (Str×List Str)}(hd:1<=ds.length/\ds.length<=40)(hp:ps.length<=20)(hq:qs.length<=20)(g1:∀ x∈ds,Gd x)(g2:∀ p∈ps,PrG p)(g3:∀ p∈qs,PrG p)
include hd hp hq g1 g2 g3
def Yk(ds:List Str)(ps qs:List (Str×List Str)):List Str:=ds.map (λx=>(("door ":Str)++x))++ps.map (Ud "wing" "=")++qs.map (Ud "key" "opens")
theorem JA(Tx Rw Ru:D)(m:Nat)(rest:List D):∃ (A B C:List D) (y4 y5 y6 y7:Option S),Xf VJ Bb (Sf 1 (((Yk ds ps qs).take m).map D.str++rest)) (LD Tx Rw Ru [] [] [] none none none none)=Xf VJ Bb (Sf (1+min m (Yk ds ps qs).length) rest) (LD Tx Rw Ru A B C y4 y5 y6 y7)/\((Yk ds ps qs).length<=m->A=ds.map D.str/\B=ps.map Hg/\C=qs.map Hg):=by
 have tl:(Yk ds ps qs).length=ds.length+ps.length+qs.length:=by unfold Yk;rw[length_append,length_append,length_map,length_map,length_map]
 by_cases h0:m=0
 .subst h0
  exact⟨[],[],[],none,none,none,none,by rw[List.take_zero,Nat.zero_min];rfl,λh=>by rw[tl]at h;omega⟩
 .have e:((Yk ds ps qs).take m).map D.str=(ds.take m).map (λx=>D.str (("door ":Str)++x))++((ps.take (m-ds.length)).map (λp=>D.str (Ud "wing" "=" p))++(qs.take (m-(ds.length+ps.length))).map (λp=>D.str (Ud "key" "opens" p))):=by
   unfold Yk
   rw[List.take_append,List.take_append,length_append,length_map,length_map,map_append,map_append,<-map_take,<-map_take,<-map_take,map_map,map_map,map_map,append_assoc]
   rfl
  have hA:(ds.take m).map D.str≠ []:=λz=>by
   have:=congrArg List.length z
   rw[length_map,length_take,length_nil]at this
   omega
  have n1:(ds.take m).length=min m ds.length:=length_take ..
  have n2:(ps.take (m-ds.length)).length=min (m-ds.length) ps.length:=length_take ..
  have n3:(qs.take (m-(ds.length+ps.length))).length=min (m-(ds.length+ps.length)) qs.length:=length_take ..
  obtain⟨u4,u5,u6,u7,f1⟩:=Sv Tx Rw Ru (ds.take m) 1 [] ((ps.take (m-ds.length)).map (λp=>D.str (Ud "wing" "=" p))++((qs.take (m-(ds.length+ps.length))).map (λp=>D.str (Ud "key" "opens" p))++rest)) none none none none (λx hx=>g1 x (mem_of_mem_take hx)) (by show 0+_<60;omega)
  obtain⟨v4,v5,v6,v7,f2⟩:=Tv Tx Rw Ru ([]++(ds.take m).map D.str) hA (ps.take (m-ds.length)) (1+(ds.take m).length) [] ((qs.take (m-(ds.length+ps.length))).map (λp=>D.str (Ud "key" "opens" p))++rest) u4 u5 u6 u7 (λx hx=>g2 x (mem_of_mem_take hx)) (by show 0+_<60;omega)
  obtain⟨w4,w5,w6,w7,f3⟩:=Wz Tx Rw Ru ([]++(ds.take m).map D.str) ([]++(ps.take (m-ds.length)).map Hg) hA (qs.take (m-(ds.length+ps.length))) (1+(ds.take m).length+(ps.take (m-ds.length)).length) [] rest v4 v5 v6 v7 (λx hx=>g3 x (mem_of_mem_take hx)) (by show 0+_<60;omega)
  refine⟨[]++(ds.take m).map D.str,[]++(ps.take (m-ds.length)).map Hg,[]++(qs.take (m-(ds.length+ps.length))).map Hg,w4,w5,w6,w7,?_,λh=>?_⟩
  .rw[e,append_assoc,append_assoc,show 1+min m (Yk ds ps qs).length=1+(ds.take m).length+(ps.take (m-ds.length)).length+(qs.take (m-(ds.length+ps.length))).length by omega]
   exact(f1.trans f2).trans f3
  .rw[tl]at h
   rw[take_of_length_le (by omega),take_of_length_le (by omega),take_of_length_le (by omega)]
   exact⟨rfl,rfl,rfl⟩
include o
theorem Ey:∀ x∈Db a b c d ds ps qs,x.length<=1000:=λx hx=>by
 have l:=(Wj a b c d o.sm).2
 unfold Db at hx
 rcases mem_cons.mp hx with rfl|hx
 .rw[Lb];show 6+_<=1000;omega
 .rcases mem_append.mp hx with hx|hx
  .rcases mem_append.mp hx with hx|hx
   .obtain⟨y,hy,rfl⟩:=mem_map.mp hx
    rw[Lb];have:=(g1 y hy).1;show 5+_<=1000;omega
   .obtain⟨p,hp,rfl⟩:=mem_map.mp hx
    have:=Xo "wing" "=" p (g2 p hp).ok (by decide) (by decide);omega
  .obtain⟨p,hp,rfl⟩:=mem_map.mp hx
   have:=Xo "key" "opens" p (g3 p hp).ok (by decide) (by decide);omega
theorem FD:Db a b c d ds ps qs=(("rules ":Str)++Tg a b c d)::Yk ds ps qs/\(Yk ds ps qs).length=ds.length+ps.length+qs.length:=⟨rfl,by unfold Yk;rw[length_append,length_append,length_map,length_map,length_map]⟩
theorem SI:Ta [.str (PySem.Txt.join ⟨#[10]⟩ (Db a b c d ds ps qs))]=.ok (IQ (.tup [.int a,.int b,.int c,.int d]) (.lst (ds.map D.str)) (.lst (ps.map Hg)) (.lst (qs.map Hg))):=by
 obtain⟨r1,r2⟩:=FD o hd hp hq g1 g2 g3
 have rl:(Db a b c d ds ps qs).length=1+(ds.length+ps.length+qs.length):=by rw[r1,List.length_cons,r2];omega
 have sm:=Qk (λx:Str=>x.length) 1000 _ (Ey o hd hp hq g1 g2 g3)
 have sp:=Ul (rows:=Db a b c d ds ps qs) (by omega) (by omega) (by omega) (Fy o g1 g2 g3)
 have H:=(Cy (r0:=("rules ":Str)++Tg a b c d) sp (Gx _ 0 _ (by rw[r1];rfl))).2 _ ((Yk ds ps qs).map D.str) (Vq o) (by rw[r1];exact Aq _ _)
 obtain⟨A,B,C,y4,y5,y6,y7,f,ab⟩:=JA hd hp hq g1 g2 g3 (.str (PySem.Txt.join ⟨#[10]⟩ (Db a b c d ds ps qs))) (.lst ((Db a b c d ds ps qs).map D.str)) (.tup [.int a,.int b,.int c,.int d]) (Yk ds ps qs).length []
 obtain⟨rfl,rfl,rfl⟩:=ab (le_refl _)
 rw[List.take_length,append_nil]at f
 refine H.2 _ _ _ y4 y5 y6 y7 _ f (λz=>?_) (VS _ _ ps qs (by omega) (by omega))
 have:=congrArg List.length z
 rw[length_map,length_nil]at this
 omega
theorem NA{bd:Str}{W:List Str}(hb:Qn W=true)(hW:W.length<60)(hw:∀ w∈W,w.length<=1000)(sp':Pf bd [.str " "]=.ok (W.map D.str))(h10:10∉bd.cps.toList)(hl:bd.length<=1000)(n:Nat)(h1:1<=n)(h2:n<=(Db a b c d ds ps qs).length):
  Ta [.str (PySem.Txt.join ⟨#[10]⟩ ((Db a b c d ds ps qs).take n++ [bd]++(Db a b c d ds ps qs).drop n))]=.ex "NoRow" (Pl (n:Int)):=by
 obtain⟨r1,r2⟩:=FD o hd hp hq g1 g2 g3
 have rl:(Db a b c d ds ps qs).length=1+(ds.length+ps.length+qs.length):=by rw[r1,List.length_cons,r2];omega
 have mem:∀ x∈(Db a b c d ds ps qs).take n++ [bd]++(Db a b c d ds ps qs).drop n,x∈Db a b c d ds ps qs\/x=bd:=λx hx=>by
  rcases mem_append.mp hx with hx|hx
  .rcases mem_append.mp hx with hx|hx
   .exact .inl (mem_of_mem_take hx)
   .exact .inr (mem_singleton.mp hx)
  .exact .inl (List.mem_of_mem_drop hx)
 have sl:((Db a b c d ds ps qs).take n++ [bd]++(Db a b c d ds ps qs).drop n).length=(Db a b c d ds ps qs).length+1:=by
  rw[length_append,length_append,length_take,length_drop,length_singleton];omega
 have sm:=Qk (λx:Str=>x.length) 1000 ((Db a b c d ds ps qs).take n++ [bd]++(Db a b c d ds ps qs).drop n) (λx hx=>(mem x hx).elim (Ey o hd hp hq g1 g2 g3 x) λz=>by rw[z];exact hl)
 have sp:=Ul (rows:=(Db a b c d ds ps qs).take n++ [bd]++(Db a b c d ds ps qs).drop n) (by omega) (by omega) (by omega) (λx hx=>(mem x hx).elim (Fy o g1 g2 g3 x) λz=>by rw[z];exact h10)
 obtain⟨m,rfl⟩:∃ m,n=m+1:=⟨n-1,by omega⟩
 have es:(Db a b c d ds ps qs).take (m+1)++ [bd]++(Db a b c d ds ps qs).drop (m+1)=(("rules ":Str)++Tg a b c d)::((Yk ds ps qs).take m++(bd::(Yk ds ps qs).drop m)):=by
  rw[r1,List.take_succ_cons,List.drop_succ_cons,append_assoc]
  rfl
 rw[es]at sp ⊢
 have H:=((Cy (r0:=("rules ":Str)++Tg a b c d) sp (Gx _ 0 _ rfl)).2 _ (((Yk ds ps qs).take m).map D.str++(D.str bd::((Yk ds ps qs).drop m).map D.str)) (Vq o) (by rw[Aq,map_append];rfl)).1
 obtain⟨A,B,C,y4,y5,y6,y7,f,_⟩:=JA hd hp hq g1 g2 g3 (.str (PySem.Txt.join ⟨#[10]⟩ ((("rules ":Str)++Tg a b c d)::((Yk ds ps qs).take m++(bd::(Yk ds ps qs).drop m))))) (.lst (((("rules ":Str)++Tg a b c d)::((Yk ds ps qs).take m++(bd::(Yk ds ps qs).drop m))).map D.str)) (.tup [.int a,.int b,.int c,.int d]) m (D.str bd::((Yk ds ps qs).drop m).map D.str)
 refine H _ (f.trans ?_)
 rw[show 1+min m (Yk ds ps qs).length=m+1 by omega]
 have tb:=BP (.str (PySem.Txt.join ⟨#[10]⟩ ((("rules ":Str)++Tg a b c d)::((Yk ds ps qs).take m++(bd::(Yk ds ps qs).drop m))))) (.lst (((("rules ":Str)++Tg a b c d)::((Yk ds ps qs).take m++(bd::(Yk ds ps qs).drop m))).map D.str)) (.tup [.int a,.int b,.int c,.int d]) .non (m+1) (by omega) (some (.k (.dct KS) [.l A,.l B,.l C])) bd _ y6 y7 sp' (JJ hb hW hw)
 exact MY rfl tb
end
theorem KW:∀ (l:List Nat),(∀ c∈l,c∈Kx)->(PySem.Txt.upper ⟨l.toArray⟩).cps.toList=l.map (· -32)
 | [],_=>rfl
 |c::l,h=>by
  have hc:97<=c/\c<=122:=by
   have:=h c mem_cons_self
   unfold Kx at this
   simp only[mem_cons,not_mem_nil,or_false]at this
   omega
  have e:(⟨(c::l).toArray⟩:Str)=⟨#[c]⟩++⟨l.toArray⟩:=Ej (by rw[Str.cps_append,toList_append];rfl)
  rw[e,PySem.W.KOpn.upper_app,PySem.W.KOpn.upper_one (by omega),if_pos hc,Str.cps_append,toList_append,KW l λx hx=>h x (mem_cons_of_mem _ hx)]
  rfl
theorem GP(h:Uo x):(PySem.Txt.upper x).cps.toList=x.cps.toList.map (· -32):=by
 obtain⟨a⟩:=x
 obtain⟨l⟩:=a
 exact KW l h
theorem Yz(h:c∈x.cps.toList)(hc:c∉Kx):Qd x=false:=by
 have:(We x).all Jx=false:=by
  rw[<-Bool.not_eq_true,all_eq_true]
  intro z
  have:=z (.str ⟨#[c]⟩) (mem_map.mpr ⟨c,h,rfl⟩)
  rw[Y4]at this
  exact hc (of_decide_eq_true this)
 unfold Qd
 rw[this,Bool.and_false,Bool.and_false]
def wk(w:Str):Prop:=32∉w.cps.toList/\10∉w.cps.toList/\w.length<=30
theorem YD{u v:Str}(hu:wk u/\u.length<=15)(hv:wk v/\v.length<=15):wk (u++v):=by
 have e:(u++v).cps.toList=u.cps.toList++v.cps.toList:=by rw[Str.cps_append,toList_append]
 refine⟨λz=>?_,λz=>?_,by rw[Lb];omega⟩
 .rw[e]at z
  exact(mem_append.mp z).elim hu.1.1 hv.1.1
 .rw[e]at z
  exact(mem_append.mp z).elim hu.1.2.1 hv.1.2.1
structure Bd(bd:Str):Prop where
 ex:∃ W:List Str,Qn W=true/\W.length<60/\(∀ w∈W,w.length<=1000)/\Pf bd [.str " "]=.ok (W.map D.str)
 no:10∉bd.cps.toList
 le:bd.length<=800
theorem Tc{bd:Str}(W:List Str)(e:bd.cps.toList=jn 32 (W.map λx=>x.cps.toList))(hn:W≠ [])(hW':decide (W.length<=8)=true)(hw:∀ w∈W,wk w)(hb:Qn W=true):Bd bd:=by
 have hW:=of_decide_eq_true hW'
 have eb:bd=PySem.Txt.join ⟨#[32]⟩ W:=Ej (by rw[e,show PySem.Txt.join ⟨#[32]⟩ W=Str.join ⟨#[32]⟩ W from StrLaws.glued_eq_join _ _,Ze])
 have sm:=Qk (λx:Str=>x.length) 30 W λw h=>(hw w h).2.2
 have ln:bd.length<=800:=by
  rw[eb]
  refine le_trans (Il _ _) ?_
  omega
 have sp:=Jm bd 32 (by omega)
 have sj:=Vi 32 W hn λw h=>(hw w h).1
 rw[<-eb]at sj
 rw[sj]at sp
 refine⟨⟨W,hb,by omega,λw h=>by have:=(hw w h).2.2;omega,sp⟩,?_,ln⟩
 rw[eb]
 exact Hx (by decide) λw h=>(hw w h).2.1
def clB(k:Str)(r:List Str):Bool:=decide (r.length<2)||(!decide (r.headD ""=NZ k)|| !(r.tail.all Qd&&decide ((Wp r.tail).length=r.tail.length)))
theorem Xb(k n:Str)(r:List Str)(hk:(decide (k="wing")||decide (k="key"))=true)(h:clB k r=true):Qn (k::n::r)=true:=by
 have hk':k="wing"\/k="key":=by
  rcases Bool.or_eq_true _ _ |>.mp hk with z|z
  .exact .inl (of_decide_eq_true z)
  .exact .inr (of_decide_eq_true z)
 have nd:¬ k="door":=by rcases hk' with rfl|rfl<;>decide
 unfold Qn
 dsimp only
 rw[if_neg nd,if_pos hk']
 have e1:decide ((n::r).length<3)=decide (r.length<2):=by rw[List.length_cons];exact decide_eq_decide.mpr ⟨λz=>by omega,λz=>by omega⟩
 have e2:(n::r).getD 1 ""=r.headD "":=by cases r<;>rfl
 have e3:(n::r).drop 2=r.tail:=by cases r<;>rfl
 rw[e1,e2,e3]
 unfold clB at h
 generalize decide (r.length<2)=p1 at*
 generalize decide (r.headD ""=NZ k)=p2 at*
 generalize (r.tail.all Qd&&decide ((Wp r.tail).length=r.tail.length))=p3 at*
 generalize Qd ((n::r).headD "")=p4 at*
 revert h
 cases p1<;>cases p2<;>cases p3<;>cases p4<;>decide
theorem Yy(k n:Str)(r:List Str)(hk:(decide (k="wing")||decide (k="key"))=true)(h:Qd n=false):Qn (k::n::r)=true:=by
 have hk':k="wing"\/k="key":=by
  rcases Bool.or_eq_true _ _ |>.mp hk with z|z
  .exact .inl (of_decide_eq_true z)
  .exact .inr (of_decide_eq_true z)
 have nd:¬ k="door":=by rcases hk' with rfl|rfl<;>decide
 unfold Qn
 dsimp only
 rw[if_neg nd,if_pos hk',show(n::r).headD ""=n from rfl,h]
 simp
theorem Lr(r:List Str)(h:¬ r.length=1):Qn ("door"::r)=true:=by
 unfold Qn
 dsimp only
 rw[if_pos rfl,decide_eq_false h];rfl
theorem Yu(x:Str)(h:Qd x=false):Qn ["door",x]=true:=by
 unfold Qn
 dsimp only
 rw[if_pos rfl,show([x]:List Str).headD ""=x from rfl,h,Bool.and_false];rfl
theorem Ge(k:Str)(r:List Str)(h1:¬ k="door")(h2:¬ k="wing")(h3:¬ k="key"):Qn (k::r)=true:=by
 unfold Qn
 dsimp only
 rw[if_neg h1,if_neg (λz=>z.elim h2 h3)]
def An(n u:Str):List Str:=([""," ","door","door ",n,"door  "++n," door "++n,"door "++n++" ","door\t"++n]:List Str)++(["Door "++n,"door "++u,"door "++n++"1","door a b","door door","door opens"]:List Str)++
 (["door abcdefghijklm","doors "++n,"wing "++n,"wing "++n++" =","wing "++n++" = "]:List Str)++(["wing "++n++" a","wing "++n++" = a a","wing "++n++" = a  b"]:List Str)++(["wing "++n++" = a b a"]:List Str)++(["wing "++n++" = key","wing wing = a","wing = a","wing "++n++" opens a","wing a b = c"]:List Str)++
 (["wing "++n++" =a","wing "++n++"= a","Wing "++n++" = a","wing "++n++" = a "]:List Str)++(["key "++n,"key "++n++" opens","key "++n++" opens ","key "++n++" = a"]:List Str)++(["key "++n++" opens a a","key "++n++" opens A","key "++n++" open a","key opens a"]:List Str)++
 (["key "++n++" opens a  b","key key opens a","key "++n++" opens a wing","house "++n]:List Str)++(["rules 3 4 2 3","rules","window "++n,"key "++n++" opens a,b","wing "++n++" = a, b"]:List Str)
local macro_rules| `(tactic| walk_at "wk")=> `(tactic| repeat (first|exact forall_mem_nil _|refine forall_mem_cons.mpr ⟨(by first|assumption|(unfold wk;decide +kernel)),?_⟩))
local macro_rules| `(tactic| walk_at "fc")=> `(tactic| refine forall_mem_cons.mpr ⟨?_,?_⟩)
variable{n:Str}
theorem AA(g:Gd n):∀ bd∈An n (PySem.Txt.upper n),Bd bd:=by
 have gl:=g.1
 have wn:wk n:=⟨Kq g (by decide),Kq g (by decide),by omega⟩
 have uc:=GP g.2.1
 obtain⟨c0,hc0⟩:∃ c,c∈n.cps.toList:=by
  have:0<n.cps.toList.length:=by rw[Ap];omega
  exact⟨_,getElem_mem this⟩
 have lt:∀ c∈n.cps.toList,97<=c/\c<=122:=λc hc=>by
  have:=g.2.1 c hc
  unfold Kx at this
  simp only[mem_cons,not_mem_nil,or_false]at this
  omega
 have un:Qd (PySem.Txt.upper n)=false:=by
  refine Yz (c:=c0-32) (by rw[uc];exact mem_map.mpr ⟨c0,hc0,rfl⟩) λz=>?_
  have:=lt c0 hc0
  unfold Kx at z
  simp only[mem_cons,not_mem_nil,or_false]at z
  omega
 have wu:wk (PySem.Txt.upper n):=by
  refine⟨λz=>?_,λz=>?_,?_⟩
  .rw[uc]at z
   obtain⟨c,hc,e⟩:=mem_map.mp z
   have:=lt c hc
   omega
  .rw[uc]at z
   obtain⟨c,hc,e⟩:=mem_map.mp z
   have:=lt c hc
   omega
  .rw[<-Ap,uc,length_map,Ap];omega
 have cps:∀ a b:Str,(a++b).cps.toList=a.cps.toList++b.cps.toList:=λa b=>by rw[Str.cps_append,toList_append]
 have w1:wk (n++"1"):=YD ⟨wn,by omega⟩ (by unfold wk;decide +kernel)
 have we:wk (n++"="):=YD ⟨wn,by omega⟩ (by unfold wk;decide +kernel)
 have wt:wk ("door\t"++n):=YD (by unfold wk;decide +kernel) ⟨wn,by omega⟩
 have n1:Qd (n++"1")=false:=Yz (c:=49) (by rw[cps];exact mem_append_right _ (by decide +kernel)) (by decide)
 have tn:∀ k:Str,k="door"\/k="wing"\/k="key"->¬ ("door\t"++n:Str)=k:=λk hk z=>by
  have:("door\t"++n:Str).cps.toList=k.cps.toList:=by rw[z]
  rw[cps]at this
  have m:9∈k.cps.toList:=by rw[<-this];exact mem_append_left _ (by decide +kernel)
  rcases hk with rfl|rfl|rfl<;>exact absurd m (by decide +kernel)
 have nn:∀ k:Str,inB (.str k) MB=true->¬ n=k:=λk hk z=>by
  have:=g.2.2
  rw[z,hk]at this
  cases this
 unfold An
 simp only[cons_append,nil_append]
 walk_at "fc";exact Tc [""] (by rfl) (by simp) rfl (by walk_at "wk") (Ge _ _ (by decide) (by decide) (by decide))
 walk_at "fc";exact Tc ["",""] (by rfl) (by simp) rfl (by walk_at "wk") (Ge _ _ (by decide) (by decide) (by decide))
 walk_at "fc";exact Tc ["door"] (by rfl) (by simp) rfl (by walk_at "wk") (Lr _ (by decide))
 walk_at "fc";exact Tc ["door",""] (by rfl) (by simp) rfl (by walk_at "wk") (Yu _ (by decide +kernel))
 walk_at "fc";exact Tc [n] (by rfl) (by simp) rfl (by walk_at "wk") (Ge _ _ (nn _ (by decide +kernel)) (nn _ (by decide +kernel)) (nn _ (by decide +kernel)))
 walk_at "fc";exact Tc ["door","",n] (by rw[cps];rfl) (by simp) rfl (by walk_at "wk") (Lr _ (by simp))
 walk_at "fc";exact Tc ["","door",n] (by rw[cps];rfl) (by simp) rfl (by walk_at "wk") (Ge _ _ (by decide) (by decide) (by decide))
 walk_at "fc";exact Tc ["door",n,""] (by rw[cps,cps];rfl) (by simp) rfl (by walk_at "wk") (Lr _ (by simp))
 walk_at "fc";exact Tc ["door\t"++n] (by rfl) (by simp) rfl (by walk_at "wk") (Ge _ _ (tn _ (.inl rfl)) (tn _ (.inr (.inl rfl))) (tn _ (.inr (.inr rfl))))
 walk_at "fc";exact Tc ["Door",n] (by rw[cps];rfl) (by simp) rfl (by walk_at "wk") (Ge _ _ (by decide) (by decide) (by decide))
 walk_at "fc";exact Tc ["door",PySem.Txt.upper n] (by rw[cps];rfl) (by simp) rfl (by walk_at "wk") (Yu _ un)
 walk_at "fc";exact Tc ["door",n++"1"] (by rw[cps,cps];show _=_++32::(n++"1":Str).cps.toList;rw[cps];rfl) (by simp) rfl (by walk_at "wk") (Yu _ n1)
 walk_at "fc";exact Tc ["door","a","b"] (by rfl) (by simp) rfl (by walk_at "wk") (Lr _ (by decide))
 walk_at "fc";exact Tc ["door","door"] (by rfl) (by simp) rfl (by walk_at "wk") (Yu _ (by decide +kernel))
 walk_at "fc";exact Tc ["door","opens"] (by rfl) (by simp) rfl (by walk_at "wk") (Yu _ (by decide +kernel))
 walk_at "fc";exact Tc ["door","abcdefghijklm"] (by rfl) (by simp) rfl (by walk_at "wk") (Yu _ (by decide +kernel))
 walk_at "fc";exact Tc ["doors",n] (by rw[cps];rfl) (by simp) rfl (by walk_at "wk") (Ge _ _ (by decide) (by decide) (by decide))
 walk_at "fc";exact Tc ["wing",n] (by rw[cps];rfl) (by simp) rfl (by walk_at "wk") (Xb _ _ _ (by decide) (by decide +kernel))
 walk_at "fc";exact Tc ["wing",n,"="] (by rw[cps,cps];rfl) (by simp) rfl (by walk_at "wk") (Xb _ _ _ (by decide) (by decide +kernel))
 walk_at "fc";exact Tc ["wing",n,"=",""] (by rw[cps,cps];rfl) (by simp) rfl (by walk_at "wk") (Xb _ _ _ (by decide) (by decide +kernel))
 walk_at "fc";exact Tc ["wing",n,"a"] (by rw[cps,cps];rfl) (by simp) rfl (by walk_at "wk") (Xb _ _ _ (by decide) (by decide +kernel))
 walk_at "fc";exact Tc ["wing",n,"=","a","a"] (by rw[cps,cps];rfl) (by simp) rfl (by walk_at "wk") (Xb _ _ _ (by decide) (by decide +kernel))
 walk_at "fc";exact Tc ["wing",n,"=","a","","b"] (by rw[cps,cps];rfl) (by simp) rfl (by walk_at "wk") (Xb _ _ _ (by decide) (by decide +kernel))
 walk_at "fc";exact Tc ["wing",n,"=","a","b","a"] (by rw[cps,cps];rfl) (by simp) rfl (by walk_at "wk") (Xb _ _ _ (by decide) (by decide +kernel))
 walk_at "fc";exact Tc ["wing",n,"=","key"] (by rw[cps,cps];rfl) (by simp) rfl (by walk_at "wk") (Xb _ _ _ (by decide) (by decide +kernel))
 walk_at "fc";exact Tc ["wing","wing","=","a"] (by rfl) (by simp) rfl (by walk_at "wk") (Yy _ _ _ (by decide) (by decide +kernel))
 walk_at "fc";exact Tc ["wing","=","a"] (by rfl) (by simp) rfl (by walk_at "wk") (Xb _ _ _ (by decide) (by decide +kernel))
 walk_at "fc";exact Tc ["wing",n,"opens","a"] (by rw[cps,cps];rfl) (by simp) rfl (by walk_at "wk") (Xb _ _ _ (by decide) (by decide +kernel))
 walk_at "fc";exact Tc ["wing","a","b","=","c"] (by rfl) (by simp) rfl (by walk_at "wk") (Xb _ _ _ (by decide) (by decide +kernel))
 walk_at "fc";exact Tc ["wing",n,"=a"] (by rw[cps,cps];rfl) (by simp) rfl (by walk_at "wk") (Xb _ _ _ (by decide) (by decide +kernel))
 walk_at "fc";exact Tc ["wing",n++"=","a"] (by rw[cps,cps];show _=_++32::((n++"=":Str).cps.toList++_);rw[cps n "=",append_assoc,append_assoc];rfl) (by simp) rfl (by walk_at "wk") (Xb _ _ _ (by decide) (by decide +kernel))
 walk_at "fc";exact Tc ["Wing",n,"=","a"] (by rw[cps,cps];rfl) (by simp) rfl (by walk_at "wk") (Ge _ _ (by decide) (by decide) (by decide))
 walk_at "fc";exact Tc ["wing",n,"=","a",""] (by rw[cps,cps];rfl) (by simp) rfl (by walk_at "wk") (Xb _ _ _ (by decide) (by decide +kernel))
 walk_at "fc";exact Tc ["key",n] (by rw[cps];rfl) (by simp) rfl (by walk_at "wk") (Xb _ _ _ (by decide) (by decide +kernel))
 walk_at "fc";exact Tc ["key",n,"opens"] (by rw[cps,cps];rfl) (by simp) rfl (by walk_at "wk") (Xb _ _ _ (by decide) (by decide +kernel))
 walk_at "fc";exact Tc ["key",n,"opens",""] (by rw[cps,cps];rfl) (by simp) rfl (by walk_at "wk") (Xb _ _ _ (by decide) (by decide +kernel))
 walk_at "fc";exact Tc ["key",n,"=","a"] (by rw[cps,cps];rfl) (by simp) rfl (by walk_at "wk") (Xb _ _ _ (by decide) (by decide +kernel))
 walk_at "fc";exact Tc ["key",n,"opens","a","a"] (by rw[cps,cps];rfl) (by simp) rfl (by walk_at "wk") (Xb _ _ _ (by decide) (by decide +kernel))
 walk_at "fc";exact Tc ["key",n,"opens","A"] (by rw[cps,cps];rfl) (by simp) rfl (by walk_at "wk") (Xb _ _ _ (by decide) (by decide +kernel))
 walk_at "fc";exact Tc ["key",n,"open","a"] (by rw[cps,cps];rfl) (by simp) rfl (by walk_at "wk") (Xb _ _ _ (by decide) (by decide +kernel))
 walk_at "fc";exact Tc ["key","opens","a"] (by rfl) (by simp) rfl (by walk_at "wk") (Xb _ _ _ (by decide) (by decide +kernel))
 walk_at "fc";exact Tc ["key",n,"opens","a","","b"] (by rw[cps,cps];rfl) (by simp) rfl (by walk_at "wk") (Xb _ _ _ (by decide) (by decide +kernel))
 walk_at "fc";exact Tc ["key","key","opens","a"] (by rfl) (by simp) rfl (by walk_at "wk") (Yy _ _ _ (by decide) (by decide +kernel))
 walk_at "fc";exact Tc ["key",n,"opens","a","wing"] (by rw[cps,cps];rfl) (by simp) rfl (by walk_at "wk") (Xb _ _ _ (by decide) (by decide +kernel))
 walk_at "fc";exact Tc ["house",n] (by rw[cps];rfl) (by simp) rfl (by walk_at "wk") (Ge _ _ (by decide) (by decide) (by decide))
 walk_at "fc";exact Tc ["rules","3","4","2","3"] (by rfl) (by simp) rfl (by walk_at "wk") (Ge _ _ (by decide) (by decide) (by decide))
 walk_at "fc";exact Tc ["rules"] (by rfl) (by simp) rfl (by walk_at "wk") (Ge _ _ (by decide) (by decide) (by decide))
 walk_at "fc";exact Tc ["window",n] (by rw[cps];rfl) (by simp) rfl (by walk_at "wk") (Ge _ _ (by decide) (by decide) (by decide))
 walk_at "fc";exact Tc ["key",n,"opens","a,b"] (by rw[cps,cps];rfl) (by simp) rfl (by walk_at "wk") (Xb _ _ _ (by decide) (by decide +kernel))
 walk_at "fc";exact Tc ["wing",n,"=","a,","b"] (by rw[cps,cps];rfl) (by simp) rfl (by walk_at "wk") (Xb _ _ _ (by decide) (by decide +kernel))
 exact forall_mem_nil _
theorem WT(h:c∈w.cps.toList):c∈(HA w).cps.toList:=by
 unfold HA
 split
 .rw[Str.cps_append,toList_append];exact mem_append_left _ h
 .exact h
theorem FI(c:Int)(M:Nat)(hM:M<=81):∃ f:Nat->Str,(∀ j k,j<81->k<81->f j=f k->j=k)/\(∀ k,Gd (f k))/\(∃ c,(c=98\/c=121\/c=107)/\c∈(f 0).cps.toList)/\La 2 Fd [.int c,.int (M:Int)]=.ok (sL (range M) f):=by
 obtain⟨w,e1,hw,wk⟩:=ZS c
 have e2:=Ps w (by omega)
 have d1:=RK c 7 (by decide) (by decide)
 have m1:=Fr (c / 7) ((w.length:Int)+1) (by omega)
 have d2:=RK c 5 (by decide) (by decide)
 have m2:=Fr (c / 5) 3 (by decide)
 obtain⟨zd,ez,hz⟩:=PB (xs:= [D.str "bdfhkmpry",.str "yrpmkhfdb",.str "kbydrfmhp"]) (i:=c / 5%3) (emod_nonneg _ (by decide)) (emod_lt_of_pos _ (by decide))
 have ez':=Rq _ _ _ ez
 obtain⟨z,rfl,hz9,zk,z0⟩:∃ z:Str,zd=.str z/\zOk z/\Uo z/\(Yg z 0=98\/Yg z 0=121\/Yg z 0=107):=by
  simp only[mem_cons,not_mem_nil,or_false]at hz
  rcases hz with rfl|rfl|rfl
  .exact⟨"bdfhkmpry",rfl,⟨rfl,BQ _ (by unfold Yg;decide +kernel)⟩,by unfold Uo;decide +kernel,by unfold Yg;decide +kernel⟩
  .exact⟨"yrpmkhfdb",rfl,⟨rfl,BQ _ (by unfold Yg;decide +kernel)⟩,by unfold Uo;decide +kernel,by unfold Yg;decide +kernel⟩
  .exact⟨"kbydrfmhp",rfl,⟨rfl,BQ _ (by unfold Yg;decide +kernel)⟩,by unfold Uo;decide +kernel,by unfold Yg;decide +kernel⟩
 have rg:Ol [.int (M:Int)]=.ok (Wn 0 M):=by
  have:=ED (M:Int) (by omega) (by omega)
  rwa [show((M:Int)).toNat=M by omega]at this
 have p0:=emod_nonneg (c / 7) (show(w.length:Int)+1≠0 by omega)
 have p1:=emod_lt_of_pos (c / 7) (show(0:Int)<(w.length:Int)+1 by omega)
 generalize c / 7%((w.length:Int)+1)=p at*
 have sm:=E2 w p p0 (by omega)
 have s1:=Ly w none (some p) (by omega)
 have s2:=Ly w (some p) none (by omega)
 have k1:Uo (PySem.Txt.slice w none (some p)):=SO wk _ _
 have k2:Uo (PySem.Txt.slice w (some p) none):=SO wk _ _
 generalize PySem.Txt.slice w none (some p)=l at*
 generalize PySem.Txt.slice w (some p) none=r at*
 obtain⟨f,ef⟩:∃ f,f=fN l r z:=⟨_,rfl⟩
 obtain⟨δ2,fo,x,y,rfl⟩:=Ax (t:=Yc 6) (body:=Pg) (λi δ=>∃ (x y:Option S),δ= [some (.d (.int c)),some (.d (.int (M:Int))),some (.d (.str w)),some (.d (.int p)),some (.d (.str z)),some (.o ((range i).map λk=>D.str (f k))),x,y])
  (Wn 0 M) [some (.d (.int c)),some (.d (.int (M:Int))),some (.d (.str w)),some (.d (.int p)),some (.d (.str z)),some (.o []),none,none] (λi d δ hd hI=>by
   obtain⟨x,y,rfl⟩:=hI
   obtain⟨hi,rfl⟩:=Nt hd
   obtain⟨y2,e⟩:=OC (.int c) (.int (M:Int)) w z l r p i f ef y hz9 (by omega) (by omega) s1 s2 (by omega)
   refine⟨_,rfl,_,.inl ?_,some (.d (.int (i:Int))),y2,rfl⟩
   rw[show(0+(i:Int))=(i:Int) by omega]
   exact e) ⟨none,none,rfl⟩
 rw[Ot]at fo
 refine⟨f,λj k hj hk e=>by rw[ef]at e;exact FY hz9 hj hk e,λk=>by rw[ef];exact R4 (by omega) k1 k2 zk hz9.1 k,⟨Yg z 0,z0,by rw[ef];exact WT (by rw[Str.cps_append,toList_append,Str.cps_append,toList_append];exact mem_append_left _ (mem_append_right _ mem_cons_self))⟩,Eb _ _ _ _ ?_ rfl⟩
 unfold sL
 clear z0 hw hz9 hz ez zk wk k1 k2 hM sm p0 p1
 generalize (M:Int)=MM at*
 generalize (range M).map (λk=>D.str (f k))=ds at*
 generalize c / 5%3=q at*
 generalize (w.length:Int)=n at*
 unfold Fd Go
 simp only[Zb,Qb,map_cons,map_nil,List.length_cons,length_nil,cons_append,nil_append,reduceAdd,reduceSub,replicate,kD,b1,b2,Zc,Sc,Aa,Ka,Oa,Sa,Nb,Of,Om,Pb,Va,Ob,Na,Uf,Kb,Res.bind_ok,Cb,Ma,Ph,e1,e2,d1,m1,d2,m2,ez',rg,fo,set_cons_zero,set_cons_succ,Yb,reduceLeDiff,zero_le,if_true,reduceIte]
theorem FH(xs:List D)(a:Nat):L3.cutD xs (some (a:Int)) none=xs.drop a:=by
 unfold L3.cutD
 rw[HT.sIx_nat]
 show(xs.drop (min a xs.length)).take (xs.length-min a xs.length)=_
 rw[take_of_length_le (by rw[length_drop];omega)]
 by_cases h:a<=xs.length
 .rw[min_eq_left h]
 .rw[Nat.min_eq_right (by omega),drop_of_length_le (by omega),drop_of_length_le (by omega)]
theorem Rr(d:Int)(n:Nat)(h:0<n):∃ a:Nat,a<n/\Dh (.int d) (.int (n:Int))=.ok (.int (a:Int)):=by
 have m:=Fr d (n:Int) (by omega)
 have a1:=emod_nonneg d (show(n:Int)≠0 by omega)
 have a2:=emod_lt_of_pos d (show(0:Int)<(n:Int) by omega)
 exact⟨(d%(n:Int)).toNat,by omega,by rw[m,show(((d%(n:Int)).toNat:Nat):Int)=d%(n:Int) by omega]⟩
theorem N8(xs:List Str)(k:Nat)(h:k<xs.length):Ae (.lst (xs.map D.str)) (.int (k:Int))=.ok (.str xs[k]):=Gx xs k _ (getElem?_eq_getElem h)
theorem AT(g:Gd n)(c:Int):∃ bd∈An n (PySem.Txt.upper n),La 2 Bf [.str n,.int c]=.ok (.str bd):=by
 have gl:=g.1
 obtain⟨k,hk,mk⟩:=Rr c 50 (by decide)
 have nl:(An n (PySem.Txt.upper n)).length=50:=rfl
 refine⟨(An n (PySem.Txt.upper n))[k]'(by rw[nl];exact hk),getElem_mem _,?_⟩
 have ix:=N8 (An n (PySem.Txt.upper n)) k (by rw[nl];exact hk)
 have ul:(PySem.Txt.upper n).length<=12:=by rw[<-Ap,GP g.2.1,length_map,Ap];omega
 have up:Fq (.str n)=.ok (.str (PySem.Txt.upper n)):=by
  unfold Fq
  dsimp only
  rw[if_pos ?_]
  show decide (sizeLine<(PySem.Txt.upper n).length)=false
  rw[sizeLine_eq]
  exact decide_eq_false (by omega)
 have a1:∀ a:Str,decide (a.length<=50)=true->Gb (.str a) (.str n)=.ok (.str (a++n)):=λa h=>Zd a n (by have:=of_decide_eq_true h;omega)
 have a2:∀ a b:Str,decide (a.length<=50)=true->decide (b.length<=50)=true->Gb (.str (a++n)) (.str b)=.ok (.str (a++n++b)):=λa b h1 h2=>Zd _ b (by rw[Lb];have:=of_decide_eq_true h1;have:=of_decide_eq_true h2;omega)
 have au:Gb (.str "door ") (.str (PySem.Txt.upper n))=.ok (.str ("door "++PySem.Txt.upper n)):=Zd _ _ (by show 5+_<=100000;omega)
 have mk':Dh (.int c) (.int 50)=.ok (.int (k:Int)):=mk
 refine Eb _ _ _ _ ?_ rfl
 have ct:∀ xs ys:List D,xs.length+ys.length<=1000->Xg (.lst xs) (.lst ys)=.ok (xs++ys):=λxs ys h=>El xs ys h
 have ap:∀ (a0 a1:Option S) (xs:List D) (x:D),xs.length<=1000->OB 2 [a0,a1,some (.o xs)] (.ok x)=.nx [a0,a1,some (.o (xs++ [x]))]:=λa0 a1 xs x h=>Jr 2 _ _ x rfl (by omega)
 have ll:∀ xs:List D,xs.length=50->Pc (.lst xs)=.ok (.int 50):=λxs h=>by rw[Af,h];rfl
 generalize hu:PySem.Txt.upper n=u at*
 have ix':Ae (.lst ((An n u).map D.str)) (.int (k:Int))=.ok (.str ((An n u)[k]'(by rw[nl];exact hk))):=ix
 generalize (An n u)[k]'(by rw[nl];exact hk)=bd at*
 unfold Bf Mq
 rw[Zb]
 show Hl (Sa _ _ [some (.d (.str n)),some (.d (.int c)),none])=_
 simp (disch:=first|decide|simp) only [Sa,Of,Xn,Pb,Zc,b1,b2,Bl,kD,Sc,Aa,Ka,Oa,Va,Ob,Na,Kb,Uf,Res.bind_ok,a1,a2,au,up,ct,ap,ll,mk',List.length_cons,length_nil,reduceAdd,reduceLeDiff,if_true,Cb,Ma,set_cons_zero,set_cons_succ,cons_append,nil_append]
 exact(congrArg (λr=>Hl (Wk r Out.rt)) ix')
def RC:List Str:=(["rules","rules 3 4 2","rules 3 4 2 3 1","rules 0 4 2 3","rules 25 4 2 3","rules 3 1 1 1"]:List Str)++(["rules 3 21 2 3"]:List Str)++(["rules 3 4 0 3","rules 3 4 5 3","rules 3 4 2 0","rules 3 4 2 4","rules 03 4 2 3"]:List Str)++(["rules 3 4 2 -1"]:List Str)++(["rules 3  4 2 3","rules 3 4 2 3 "," rules 3 4 2 3","Rules 3 4 2 3","rules 3,4,2,3"]:List Str)
theorem CT:∀ r∈RC,WE r=false/\r.length<=20/\10∉r.cps.toList:=by
 unfold WE RC vI Hq
 decide +kernel
theorem RZ(c:Int):∃ r∈RC,La 1 Qc [.int c]=.ok (.str r):=by
 obtain⟨k,hk,mk⟩:=Rr c 18 (by decide)
 have nl:RC.length=18:=rfl
 refine⟨RC[k]'(by rw[nl];exact hk),getElem_mem _,?_⟩
 have ix:=N8 RC k (by rw[nl];exact hk)
 have mk':Dh (.int c) (.int 18)=.ok (.int (k:Int)):=mk
 have ct:∀ xs ys:List D,xs.length+ys.length<=1000->Xg (.lst xs) (.lst ys)=.ok (xs++ys):=λxs ys h=>El xs ys h
 have ap:∀ (a0:Option S) (xs:List D) (x:D),xs.length<=1000->OB 1 [a0,some (.o xs)] (.ok x)=.nx [a0,some (.o (xs++ [x]))]:=λa0 xs x h=>Jr 1 _ _ x rfl (by omega)
 refine Eb _ _ _ _ ?_ rfl
 generalize RC[k]'(by rw[nl];exact hk)=bd at*
 unfold Qc Rk
 rw[Zb]
 show Hl (Sa _ _ [some (.d (.int c)),none])=_
 simp (disch:=first|decide|simp) only [Sa,Of,Xn,Pb,Zc,b1,b2,Bl,kD,Sc,Aa,Ka,Oa,Va,Ob,Na,Kb,Uf,Res.bind_ok,ct,ap,mk',List.length_cons,length_nil,reduceAdd,reduceLeDiff,if_true,Cb,Ma,set_cons_zero,set_cons_succ,cons_append,nil_append]
 exact(congrArg (λr=>Hl (Wk r Out.rt)) ix)
theorem Dy{n:Int}{fs:List D}(h:Ta [T]=.ex "NoRow" fs)(hf:fs=Pl n\/fs=.non::Pl n):La 1 Oc [T]=.ok (.int n):=by
 have cx:Jg 1 Ta [T]=.ex "NoRow" fs:=(if_pos rfl).trans h
 have tr:Yp ["NoRow"] (Dq (Aa (Qa 0) Ka) 1 Ta []) (λ_ δ=>.nx δ) Out.nx (PL 2 Pj) [some (.d T),some (.d .non),none]=.nx [some (.d T),some (.d (.exc "NoRow" fs)),none]:=by
  have:Dq (Aa (Qa 0) Ka) 1 Ta [] [some (.d T),some (.d .non),none]=.ex "NoRow" fs:=by
   simp only[Dq,Aa,Ka,Va,Res.bind_ok,Oa,Ie,append_nil,cx]
  unfold Yp
  rw[this]
  rfl
 have x1:Tk [("NoRow",true),("NoRules",false)] (.exc "NoRow" fs)=.ok (.bl true):=rfl
 have x2:Tk [("NoRow",true),("NoRules",true)] (.exc "NoRow" fs)=.ok (.bl true):=rfl
 have x3:Tk [("NoRow",false),("NoRules",true)] (.exc "NoRow" fs)=.ok (.bl false):=rfl
 have x4:Tk [("NoRow",false),("NoRules",false)] (.exc "NoRow" fs)=.ok (.bl false):=rfl
 have xf:HL ["NoRow"] "row" (.exc "NoRow" fs)=.ok (.int n):=by rcases hf with rfl|rfl<;>rfl
 have i1:Yd "int" (.int n)=.ok (.bl true):=by rw[CM _ (by simp[Au])];rfl
 have i2:Yd "bool" (.int n)=.ok (.bl false):=by rw[VH _ (by simp[Au])];rfl
 refine Eb _ _ _ _ ?_ rfl
 generalize D.exc "NoRow" fs=X at*
 unfold Oc Dl
 rw[Zb]
 show Hl (Sa _ _ [some (.d T),none,none])=_
 unfold Sa
 rw[show Nb 1 (kD .non) [some (.d T),none,none]=.nx [some (.d T),some (.d .non),none] from rfl,Ma,tr,Ma,
  Ve (by simp only[Xe,Cc,tR,b1,Na,Kb,Res.bind_ok,x1,x2,Ab,Td,Bool.not_true,false_eq_true,if_false]),Ma,
  Ve (by simp only[tR,b1,Na,Kb,Res.bind_ok,x3,Ab]),Ma,Ve (by simp only[tR,b1,Na,Kb,Res.bind_ok,x4,Ab]),Ma,
  Ve (by simp only[Xe,Cc,tR,b1,Va,Ob,Res.bind_ok,xf,i1,i2,Ab,Td,Bool.not_true,false_eq_true,if_false]),Ma]
 simp only[Pb,b1,Va,Ob,Res.bind_ok,xf,Cb,Yb]
theorem FM:∀ {xs:List (List Nat)},xs≠ []->jn 10 (xs++ [[]])=jn 10 xs++ [10]
 | [],h=>absurd rfl h
 | [x],_=>by show x++10:: []=_;rfl
 |x::y::r,_=>by
  show x++10::jn 10 ((y::r)++ [[]])=(x++10::jn 10 (y::r))++ [10]
  rw[FM (by simp),append_assoc];rfl
theorem IM(h:xs≠ []):PySem.Txt.join ⟨#[10]⟩ (xs++([""]:List Str))=PySem.Txt.join ⟨#[10]⟩ xs++"\n":=by
 refine Ej ?_
 rw[show PySem.Txt.join ⟨#[10]⟩ (xs++([""]:List Str))=Str.join ⟨#[10]⟩ (xs++([""]:List Str)) from StrLaws.glued_eq_join _ _,show PySem.Txt.join ⟨#[10]⟩ xs=Str.join ⟨#[10]⟩ xs from StrLaws.glued_eq_join _ _,Ze,Str.cps_append,toList_append,Ze,map_append]
 exact FM λz=>h (List.map_eq_nil_iff.mp z)
theorem EC(h:(decide (1<=x.length/\x.length<=12)&&(x.cps.toList.all (λc=>decide (c∈Kx))&& !inB (.str x) MB))=true):Gd x:=by
 rw[and_eq_true,and_eq_true,decide_eq_true_eq,all_eq_true]at h
 exact⟨h.1,λc hc=>of_decide_eq_true (h.2.1 c hc),by have:=h.2.2;cases z:inB (.str x) MB with|false=>rfl|true=>rw[z]at this;cases this⟩
theorem LP(n m:Str):Ud "wing" "=" (n,[m])="wing "++n++" = "++m:=by
 rw[QF "wing" "=" "wing " " = " (n,[m]) (by simp) (by decide +kernel) (by decide +kernel)]
 rfl
theorem US(n m:Str):Ud "key" "opens" (n,[m])="key "++n++" opens "++m:=by
 rw[QF "key" "opens" "key " " opens " (n,[m]) (by simp) (by decide +kernel) (by decide +kernel)]
 rfl
theorem SJ(m:Str):Ud "wing" "=" ("wings",["doors",m])="wing wings = doors "++m:=by
 refine Ej ?_
 unfold Ud
 rw[show PySem.Txt.join ⟨#[32]⟩ (("wing":Str)::"wings"::"=":: ["doors",m])=Str.join ⟨#[32]⟩ (("wing":Str)::"wings"::"=":: ["doors",m]) from StrLaws.glued_eq_join _ _,Ze,Str.cps_append,toList_append]
 rfl
theorem NM:Ud "key" "opens" ("keys",["wings"])="key keys opens wings":=by decide +kernel
theorem QU:(("rules ":Str)++Tg 3 4 2 3)="rules 3 4 2 3":=by decide +kernel
theorem QM(A cc:D)(ws:List Str)(hl:ws.length=40)(g:∀ w∈ws,Gd w)(n:Nat)(hn:n<=31):∃ y4,Xf (Yc 4) Oo (Wn 0 n) [some (.d A),some (.d cc),some (.d (.lst (ws.map D.str))),some (.o [.str "rules 3 4 2 3"]),none,none,none,none,none,none,none]=.nx [some (.d A),some (.d cc),some (.d (.lst (ws.map D.str))),some (.o (.str "rules 3 4 2 3"::(ws.take n).map λx=>D.str (("door ":Str)++x))),y4,none,none,none,none,none,none]:=by
 obtain⟨δ2,fo,y4,rfl⟩:=Ax (t:=Yc 4) (body:=Oo) (λi δ=>∃ y4:Option S,δ= [some (.d A),some (.d cc),some (.d (.lst (ws.map D.str))),some (.o (.str "rules 3 4 2 3"::(ws.take i).map λx=>D.str (("door ":Str)++x))),y4,none,none,none,none,none,none])
  (Wn 0 n) [some (.d A),some (.d cc),some (.d (.lst (ws.map D.str))),some (.o [.str "rules 3 4 2 3"]),none,none,none,none,none,none,none] (λi e δ hd hI=>by
   obtain⟨y4,rfl⟩:=hI
   obtain⟨hi,rfl⟩:=Nt hd
   rw[show(0+(i:Int))=(i:Int) by omega]
   have ix:=N8 ws i (by omega)
   have gx:=g (ws[i]'(by omega)) (getElem_mem _)
   have ad:=Zd "door " (ws[i]'(by omega)) (by have:=gx.1;show 5+_<=100000;omega)
   have ap:=Jr 3 [some (.d A),some (.d cc),some (.d (.lst (ws.map D.str))),some (.o (.str "rules 3 4 2 3"::(ws.take i).map λx=>D.str (("door ":Str)++x))),some (.d (.int (i:Int))),none,none,none,none,none,none] _ (.str (("door ":Str)++ws[i]'(by omega))) rfl (by rw[List.length_cons,length_map,length_take];omega)
   refine⟨_,rfl,_,.inl ?_,some (.d (.int (i:Int))),rfl⟩
   have te:(ws.take (i+1)).map (λx=>D.str (("door ":Str)++x))=(ws.take i).map (λx=>D.str (("door ":Str)++x))++ [D.str (("door ":Str)++ws[i]'(by omega))]:=by
    rw[List.take_succ_eq_append_getElem (by omega),map_append];rfl
   rw[te]
   generalize ws.map D.str=WL at*
   unfold Oo
   simp only[set_cons_zero,set_cons_succ,Xn,b2,kD,Na,Kb,Res.bind_ok,ix,ad,ap,cons_append]) ⟨none,rfl⟩
 rw[Ot]at fo
 exact⟨y4,fo⟩
theorem law_true(ns:List Int)(hns:ns.length<=63):RM [.lst (ns.map D.int)]=.ok (.bl true):=by
 obtain⟨c0,e0⟩:=Tw ns 0 (by decide)
 obtain⟨c1,e1⟩:=Tw ns 1 (by decide)
 obtain⟨c2,e2⟩:=Tw ns 2 (by decide)
 obtain⟨mx,e4⟩:=UM c0 4 (by decide) (by decide)
 obtain⟨f,inj,gd,⟨l0,hl0,ml0⟩,e5⟩:=FI mx 40 (by decide)
 obtain⟨ws,hws⟩:∃ ws:List Str,ws=(range 40).map f:=⟨_,rfl⟩
 have esL:sL (range 40) f=.lst (ws.map D.str):=by rw[hws,map_map];rfl
 rw[esL]at e5
 have e5':La 2 Fd [.int mx,.int 40]=.ok (.lst (ws.map D.str)):=e5
 have wl:ws.length=40:=by rw[hws,length_map,List.length_range]
 have wg:∀ w∈ws,Gd w:=λw hw=>by
  rw[hws]at hw
  obtain⟨k,_,rfl⟩:=mem_map.mp hw
  exact gd k
 have wat:∀ k,k<40->ws[k]? =some (f k):=λk hk=>by rw[hws,getElem?_map,List.getElem?_range hk];rfl
 have i0:=Gx ws 0 _ (wat 0 (by decide))
 have i37:=Gx ws 37 _ (wat 37 (by decide))
 have i38:=Gx ws 38 _ (wat 38 (by decide))
 have i39:=Gx ws 39 _ (wat 39 (by decide))
 have gd1:Gd "doors":=EC (by decide +kernel)
 have gd2:Gd "wings":=EC (by decide +kernel)
 have gd3:Gd "keys":=EC (by decide +kernel)
 have nd0:¬ ("doors":Str)=f 0:=λz=>by
  rw[<-z]at ml0
  rcases hl0 with rfl|rfl|rfl<;>exact absurd ml0 (by decide +kernel)
 obtain⟨m,hm,hmd⟩:∃ m:Nat,m<=30/\((ns.drop 3).take 30).length=m:=⟨_,by rw[length_take];omega,rfl⟩
 have sn:Vr (.lst (ns.map D.int)) (some 3) (some 33)=.ok (((ns.drop 3).take 30).map D.int):=by
  rw[Zv]
  unfold L3.cutD
  rw[show(3:Int)=((3:Nat):Int) from rfl,show(33:Int)=((33:Nat):Int) from rfl,HT.sIx_nat,HT.sIx_nat,length_map]
  congr 1
  rw[<-List.map_drop,<-map_take]
  congr 1
  by_cases h:3<=ns.length
  .rw[min_eq_left h]
   by_cases hb:33<=ns.length
   .rw[min_eq_left hb]
   .rw[Nat.min_eq_right (by omega),take_of_length_le (by rw[length_drop];omega),take_of_length_le (by rw[length_drop];omega)]
  .rw[Nat.min_eq_right (by omega),Nat.min_eq_right (by omega),drop_of_length_le (le_refl _),drop_of_length_le (by omega)]
   simp
 have lnn:Pc (.lst (((ns.drop 3).take 30).map D.int))=.ok (.int (m:Int)):=by rw[Af,length_map,hmd]
 have rg:Ol [.int ((m:Int)+1)]=.ok (Wn 0 (m+1)):=by
  have:=ED ((m:Int)+1) (by omega) (by omega)
  rwa [show((m:Int)+1).toNat=m+1 by omega]at this
 obtain⟨y4,lo⟩:=QM (.lst (ns.map D.int)) (.int c0) ws wl wg (m+1) (by omega)
 obtain⟨ds,hds⟩:∃ ds:List Str,ds=ws.take (m+1)++(["doors"]:List Str):=⟨_,rfl⟩
 have dl:ds.length=m+2:=by rw[hds,length_append,length_take,wl];show min (m+1) 40+1=_;omega
 have dg:∀ x∈ds,Gd x:=λx hx=>by
  rw[hds]at hx
  rcases mem_append.mp hx with hx|hx
  .exact wg x (mem_of_mem_take hx)
  .rw[mem_singleton.mp hx];exact gd1
 obtain⟨ps,hps⟩:∃ ps:List (Str×List Str),ps= [(f 38,[f 0]),("wings",["doors",f 0])]:=⟨_,rfl⟩
 obtain⟨qs,hqs⟩:∃ qs:List (Str×List Str),qs= [(f 39,[f 38]),("keys",["wings"])]:=⟨_,rfl⟩
 have pg:∀ p∈ps,PrG p:=λp hp=>by
  rw[hps]at hp
  rcases mem_cons.mp hp with rfl|hp
  .exact⟨gd 38,by simp,by simp,λw hw=>by rw[mem_singleton.mp hw];exact gd 0,by simp⟩
  .rw[mem_singleton.mp hp]
   refine⟨gd2,by simp,by simp,λw hw=>?_,by simp[nd0]⟩
   rcases mem_cons.mp hw with rfl|hw
   .exact gd1
   .rw[mem_singleton.mp hw];exact gd 0
 have qg:∀ p∈qs,PrG p:=λp hp=>by
  rw[hqs]at hp
  rcases mem_cons.mp hp with rfl|hp
  .exact⟨gd 39,by simp,by simp,λw hw=>by rw[mem_singleton.mp hw];exact gd 38,by simp⟩
  .rw[mem_singleton.mp hp]
   exact⟨gd3,by simp,by decide,λw hw=>by rw[mem_singleton.mp hw];exact gd2,by simp⟩
 have pl:ps.length=2:=by rw[hps];rfl
 have ql:qs.length=2:=by rw[hqs];rfl
 have o:RuOk 3 4 2 3:=⟨by decide,by decide,by decide,by decide⟩
 obtain⟨r1,r2⟩:=FD o (ds:=ds) (ps:=ps) (qs:=qs) (by omega) (by omega) (by omega) dg pg qg
 have rl:(Db 3 4 2 3 ds ps qs).length=m+7:=by rw[r1,List.length_cons,r2];omega
 have rle:=Ey o (ds:=ds) (ps:=ps) (qs:=qs) (by omega) (by omega) (by omega) dg pg qg
 have good:=SI o (ds:=ds) (ps:=ps) (qs:=qs) (by omega) (by omega) (by omega) dg pg qg
 have spl:=@NA 3 4 2 3 o ds ps qs (by omega) (by omega) (by omega) dg pg qg
 have sh:=RL 3 4 2 3 ds ps qs o.sm (by omega) (by omega) (by omega) (λx hx=>by have:=(dg x hx).1;omega) (λq hq=>(pg q hq).ok) (λq hq=>(qg q hq).ok)
 have rno:=Fy o (ds:=ds) (ps:=ps) (qs:=qs) dg pg qg
 have rws:(.str "rules 3 4 2 3"::(ws.take (m+1)).map λx=>D.str (("door ":Str)++x))++ [D.str "door doors",.str ("wing "++f 38++" = "++f 0),.str ("wing wings = doors "++f 0)]++ [D.str ("key "++f 39++" opens "++f 38),.str "key keys opens wings"]=(Db 3 4 2 3 ds ps qs).map D.str:=by
  unfold Db
  rw[hds,hps,hqs,QU]
  simp only[map_append,map_cons,map_nil,map_map,LP,SJ,US,NM,append_assoc,cons_append,nil_append]
  rfl
 have g38:=(gd 38).1
 have g39:=(gd 39).1
 have g0:=(gd 0).1
 have a1:=Zd "wing " (f 38) (by show 5+_<=100000;omega)
 have a2:=Zd ("wing "++f 38) " = " (by rw[Lb];show 5+_+3<=100000;omega)
 have a3:=Zd ("wing "++f 38++" = ") (f 0) (by rw[Lb,Lb];show 5+_+3+_<=100000;omega)
 have a4:=Zd "wing wings = doors " (f 0) (by show 19+_<=100000;omega)
 have a5:=Zd "key " (f 39) (by show 4+_<=100000;omega)
 have a6:=Zd ("key "++f 39) " opens " (by rw[Lb];show 4+_+7<=100000;omega)
 have a7:=Zd ("key "++f 39++" opens ") (f 38) (by rw[Lb,Lb];show 4+_+7+_<=100000;omega)
 have k1:=El (.str "rules 3 4 2 3"::(ws.take (m+1)).map λx=>D.str (("door ":Str)++x)) [D.str "door doors",.str ("wing "++f 38++" = "++f 0),.str ("wing wings = doors "++f 0)] (by rw[List.length_cons,length_map,length_take];show _+1+3<=1000;omega)
 have k2:=El ((.str "rules 3 4 2 3"::(ws.take (m+1)).map λx=>D.str (("door ":Str)++x))++ [D.str "door doors",.str ("wing "++f 38++" = "++f 0),.str ("wing wings = doors "++f 0)]) [D.str ("key "++f 39++" opens "++f 38),.str "key keys opens wings"] (by rw[length_append,List.length_cons,length_map,length_take];show _+1+3+2<=1000;omega)
 rw[rws]at k2
 have jn1:∀ xs:List Str,xs.length<=90->(∀ x∈xs,x.length<=1000)->Tf "\n" [.lst (xs.map D.str)]=.ok (.str (PySem.Txt.join ⟨#[10]⟩ xs)):=λxs h1 h2=>Dm 10 xs (by have:=Qk (λx:Str=>x.length) 1000 xs h2;omega)
 have j0:=jn1 _ (by omega) rle
 have lr:Pc (.lst ((Db 3 4 2 3 ds ps qs).map D.str))=.ok (.int ((m+7:Nat):Int)):=by rw[Af,length_map,rl]
 obtain⟨j,hj,mj⟩:=Rr c2 (m+7) (by omega)
 obtain⟨bd,hbd,nb⟩:=AT (gd 37) c1
 obtain⟨⟨W,b1',b2',b3',b4'⟩,bno,ble⟩:=AA (gd 37) bd hbd
 have s1:Vr (.lst ((Db 3 4 2 3 ds ps qs).map D.str)) none (some (1+(j:Int)))=.ok (((Db 3 4 2 3 ds ps qs).take (1+j)).map D.str):=by rw[Zv,show 1+(j:Int)=((1+j:Nat):Int) by omega,L3.cutD_to,map_take]
 have s2:Vr (.lst ((Db 3 4 2 3 ds ps qs).map D.str)) (some (1+(j:Int))) none=.ok (((Db 3 4 2 3 ds ps qs).drop (1+j)).map D.str):=by rw[Zv,show 1+(j:Int)=((1+j:Nat):Int) by omega,FH,List.map_drop]
 have s3:Vr (.lst ((Db 3 4 2 3 ds ps qs).map D.str)) (some 1) none=.ok ((Yk ds ps qs).map D.str):=by rw[r1];exact Aq _ _
 have k3:=El (((Db 3 4 2 3 ds ps qs).take (1+j)).map D.str) [D.str bd] (by rw[length_map,length_take];show _+1<=1000;omega)
 have k4:=El (((Db 3 4 2 3 ds ps qs).take (1+j)).map D.str++ [D.str bd]) (((Db 3 4 2 3 ds ps qs).drop (1+j)).map D.str) (by rw[length_append,length_map,length_map,length_take,length_drop];show _+1+_<=1000;omega)
 rw[show((Db 3 4 2 3 ds ps qs).take (1+j)).map D.str++ [D.str bd]++((Db 3 4 2 3 ds ps qs).drop (1+j)).map D.str=((Db 3 4 2 3 ds ps qs).take (1+j)++ [bd]++(Db 3 4 2 3 ds ps qs).drop (1+j)).map D.str by rw[map_append,map_append];rfl]at k4
 have j1:=jn1 ((Db 3 4 2 3 ds ps qs).take (1+j)++ [bd]++(Db 3 4 2 3 ds ps qs).drop (1+j)) (by rw[length_append,length_append,length_take,length_drop];show _+1+_<=90;omega) (λx hx=>by
  rcases mem_append.mp hx with hx|hx
  .rcases mem_append.mp hx with hx|hx
   .exact rle x (mem_of_mem_take hx)
   .rw[mem_singleton.mp hx];omega
  .exact rle x (List.mem_of_mem_drop hx))
 have x0:=spl b1' b2' b3' b4' bno (by omega) (1+j) (by omega) (by omega)
 obtain⟨r5,hr5,nr⟩:=RZ c1
 obtain⟨q1,q2,q3⟩:=CT r5 hr5
 have k5:=El [D.str r5] ((Yk ds ps qs).map D.str) (by rw[length_map,r2];show 1+_<=1000;omega)
 have tle:∀ x∈r5::Yk ds ps qs,x.length<=1000:=λx hx=>by
  rcases mem_cons.mp hx with rfl|hx
  .omega
  .exact rle x (by rw[r1];exact mem_cons_of_mem _ hx)
 have j5:=jn1 (r5::Yk ds ps qs) (by rw[List.length_cons,r2];omega) tle
 obtain⟨f5,y5,yf⟩:=YI (r:=r5) (by omega) q1
 have x5:Ta [.str (PySem.Txt.join ⟨#[10]⟩ (r5::Yk ds ps qs))]=.ex "NoRow" f5:=by
  have l5:(r5::Yk ds ps qs).length=m+7:=by rw[List.length_cons,r2];omega
  have s5:=Qk (λx:Str=>x.length) 1000 _ tle
  have sp5:=Ul (rows:=r5::Yk ds ps qs) (by omega) (by omega) (by omega) (λx hx=>by
   rcases mem_cons.mp hx with rfl|hx
   .exact q3
   .exact rno x (by rw[r1];exact mem_cons_of_mem _ hx))
  exact(Cy (r0:=r5) sp5 (Gx _ 0 _ rfl)).1 _ y5
 have x6:Ta [.str (PySem.Txt.join ⟨#[10]⟩ (Db 3 4 2 3 ds ps qs)++"\n")]=.ex "NoRow" (Pl ((m+7:Nat):Int)):=by
  obtain⟨⟨W',c1',c2',c3',c4'⟩,cno,cle⟩:=AA (gd 37) "" (by unfold An;simp)
  have:=spl c1' c2' c3' c4' cno (by omega) (m+7) (by omega) (by omega)
  rw[take_of_length_le (by omega),drop_of_length_le (by omega),append_nil,IM (λz=>by rw[z]at rl;simp at rl)]at this
  exact this
 have tl6:(PySem.Txt.join ⟨#[10]⟩ (Db 3 4 2 3 ds ps qs)).length<=90000:=le_trans (Il 10 _) (by have:=Qk (λx:Str=>x.length) 1000 _ rle;omega)
 have a8:=Zd (PySem.Txt.join ⟨#[10]⟩ (Db 3 4 2 3 ds ps qs)) "\n" (by show _+1<=100000;omega)
 obtain⟨k7,hk7,mk7⟩:=Rr c1 5 (by decide)
 obtain⟨T7,i7,x7⟩:∃ T7,Ae (.lst [.int 5,.non,.bl true,.lst ((Db 3 4 2 3 ds ps qs).map D.str),.tup [.str "rules 1 2 1 1",.str "door a"]]) (.int (k7:Int))=.ok T7/\Ta [T7]=.ex "NoRow" (Pl 0):=by
  have go:∀ T7:D,Yd "str" T7=.ok (.bl false)->Ta [T7]=.ex "NoRow" (Pl 0):=λT7 h=>UI h
  match k7,hk7 with
  |0,_=>exact⟨_,Rq _ _ _ rfl,go _ (by rw[Og _ (by simp[Au])];rfl)⟩
  |1,_=>exact⟨_,Rq _ _ _ rfl,go _ (by rw[Og _ (by simp[Au])];rfl)⟩
  |2,_=>exact⟨_,Rq _ _ _ rfl,go _ (by rw[Og _ (by simp[Au])];rfl)⟩
  |3,_=>exact⟨_,Rq _ _ _ rfl,go _ (by rw[Og _ (by simp[Au])];rfl)⟩
  |4,_=>exact⟨_,Rq _ _ _ rfl,go _ (by rw[Og _ (by simp[Au])];rfl)⟩
 have m8:=Fr c0 8 (by decide)
 generalize c0%8=way at*
 have cg:La 1 Ta [.str (PySem.Txt.join ⟨#[10]⟩ (Db 3 4 2 3 ds ps qs))]=_:=Eb _ _ _ _ good rfl
 have is:Yd "str" (.str (PySem.Txt.join ⟨#[10]⟩ (Db 3 4 2 3 ds ps qs)))=.ok (.bl true):=by rw[Og _ (by simp[Au])];rfl
 have et:=(KO (PySem.Txt.join ⟨#[10]⟩ (Db 3 4 2 3 ds ps qs))).1
 have rf0:=Dy x0 (.inl rfl)
 have rf5:=Dy x5 yf
 have rf6:=Dy x6 (.inl rfl)
 have rf7:=Dy x7 (.inl rfl)
 have nee:∀ i:Int,Px (.int i) (.int i)=.ok (.bl false):=λi=>by rw[Nl];simp
 rw[show((1+j:Nat):Int)=1+(j:Int) by omega]at rf0
 clear spl x0 x5 x6 x7 good rno rle b1' b2' b3' b4' bno ble dg pg qg wg gd inj
 generalize PySem.Txt.join ⟨#[10]⟩ (Db 3 4 2 3 ds ps qs)=tt at*
 generalize PySem.Txt.join ⟨#[10]⟩ ((Db 3 4 2 3 ds ps qs).take (1+j)++ [bd]++(Db 3 4 2 3 ds ps qs).drop (1+j))=t0 at*
 generalize PySem.Txt.join ⟨#[10]⟩ (r5::Yk ds ps qs)=t5 at*
 generalize ((Db 3 4 2 3 ds ps qs).take (1+j)++ [bd]++(Db 3 4 2 3 ds ps qs).drop (1+j)).map D.str=SP at*
 generalize ((Db 3 4 2 3 ds ps qs).take (1+j)).map D.str=S1 at*
 generalize ((Db 3 4 2 3 ds ps qs).drop (1+j)).map D.str=S2 at*
 have j5':Tf "\n" [.lst ([D.str r5]++(Yk ds ps qs).map D.str)]=.ok (.str t5):=j5
 generalize (Yk ds ps qs).map D.str=TL at*
 generalize (Db 3 4 2 3 ds ps qs).map D.str=RW at*
 generalize IQ (.tup [.int 3,.int 4,.int 2,.int 3]) (.lst (ds.map D.str)) (.lst (ps.map Hg)) (.lst (qs.map Hg))=HH at*
 generalize (.str "rules 3 4 2 3"::(ws.take (m+1)).map λx=>D.str (("door ":Str)++x):List D)=R0 at*
 generalize R0++ [D.str "door doors",.str ("wing "++f 38++" = "++f 0),.str ("wing wings = doors "++f 0)]=R1 at*
 generalize ws.map D.str=WS at*
 generalize ((ns.drop 3).take 30).map D.int=NT at*
 generalize ns.map D.int=NS at*
 generalize ((m+7:Nat):Int)=LN at*
 have i0':Ae (.lst WS) (.int 0)=.ok (.str (f 0)):=i0
 have i37':Ae (.lst WS) (.int 37)=.ok (.str (f 37)):=i37
 have i38':Ae (.lst WS) (.int 38)=.ok (.str (f 38)):=i38
 have i39':Ae (.lst WS) (.int 39)=.ok (.str (f 39)):=i39
 have mk7':Dh (.int c1) (.int 5)=.ok (.int (k7:Int)):=mk7
 have lo':Om (Yc 4) Oo (b1 Ol (Aa (b2 Gb (b1 Pc (Zc (b3 Vr (Ca 0) (b1 Ue (kD (.int 3))) (b1 Ue (kD (.int 33)))))) (kD (.int 1))) Ka)) [some (.d (.lst NS)),some (.d (.int c0)),some (.d (.lst WS)),some (.o [.str "rules 3 4 2 3"]),none,none,none,none,none,none,none]=.nx [some (.d (.lst NS)),some (.d (.int c0)),some (.d (.lst WS)),some (.o R0),y4,none,none,none,none,none,none]:=by
  rw[<-lo]
  simp only[Om,Zc,b1,b2,b3,kD,Aa,Ka,Oa,Na,Res.bind_ok,Ce,sn,lnn,Ph,rg,Cb]
 have fz:∀ (a0 a1 a2 a4 a5 a6 a7 a8 a9 a10:Option S) (xs:List D),DC 3 [a0,a1,a2,some (.o xs),a4,a5,a6,a7,a8,a9,a10]= [a0,a1,a2,some (.d (.lst xs)),a4,a5,a6,a7,a8,a9,a10]:=λ_ _ _ _ _ _ _ _ _ _ _=>rfl
 have fz':∀ (a0 a1 a2 a4 a5 a6 a7 a8 a9 a10:Option S) (x:D),DC 3 [a0,a1,a2,some (.d x),a4,a5,a6,a7,a8,a9,a10]= [a0,a1,a2,some (.d x),a4,a5,a6,a7,a8,a9,a10]:=λ_ _ _ _ _ _ _ _ _ _ _=>rfl
 have w1:Nb 1 (b1 (La 2 Hb) (Aa (Qa 0) (Aa (kD (.int 0)) Ka))) [some (.d (.lst NS)),none,none,none,none,none,none,none,none,none,none]=.nx [some (.d (.lst NS)),some (.d (.int c0)),none,none,none,none,none,none,none,none,none]:=by
  simp only[Nb,b1,kD,Aa,Ka,Oa,Va,Res.bind_ok,e0,Cb,set_cons_zero,set_cons_succ]
 have w2:Nb 2 (b1 (La 2 Fd) (Aa (b1 (La 2 Be) (Aa (Qa 1) (Aa (kD (.int 4)) Ka))) (Aa (kD (.int 40)) Ka))) [some (.d (.lst NS)),some (.d (.int c0)),none,none,none,none,none,none,none,none,none]=.nx [some (.d (.lst NS)),some (.d (.int c0)),some (.d (.lst WS)),none,none,none,none,none,none,none,none]:=by
  simp only[Nb,b1,kD,Aa,Ka,Oa,Va,Ob,Res.bind_ok,e4,e5',Cb,set_cons_zero,set_cons_succ]
 have w3:Of 3 (b1 Sc (Aa (kD (.str "rules 3 4 2 3")) Ka)) [some (.d (.lst NS)),some (.d (.int c0)),some (.d (.lst WS)),none,none,none,none,none,none,none,none]=.nx [some (.d (.lst NS)),some (.d (.int c0)),some (.d (.lst WS)),some (.o [.str "rules 3 4 2 3"]),none,none,none,none,none,none,none]:=by
  simp only[Of,b1,kD,Sc,Aa,Ka,Oa,Res.bind_ok,List.length_cons,length_nil,reduceAdd,reduceLeDiff,if_true,Cb,set_cons_zero,set_cons_succ]
 have w5:Of 3 (Bl Xg (Ca 3) (Zc (b1 Sc (Aa (kD (.str "door doors")) (Aa (b2 Gb (b2 Gb (b2 Gb (kD (.str "wing ")) (b2 Ae (Ca 2) (kD (.int 38)))) (kD (.str " = "))) (b2 Ae (Ca 2) (kD (.int 0)))) (Aa (b2 Gb (kD (.str "wing wings = doors ")) (b2 Ae (Ca 2) (kD (.int 0)))) Ka)))))) [some (.d (.lst NS)),some (.d (.int c0)),some (.d (.lst WS)),some (.o R0),y4,none,none,none,none,none,none]=.nx [some (.d (.lst NS)),some (.d (.int c0)),some (.d (.lst WS)),some (.o R1),y4,none,none,none,none,none,none]:=by
  simp only[Of,Zc,b1,b2,Bl,kD,Sc,Aa,Ka,Oa,Na,Uf,Kb,Res.bind_ok,i0',i38',a1,a2,a3,a4,k1,List.length_cons,length_nil,reduceAdd,reduceLeDiff,if_true,Cb,set_cons_zero,set_cons_succ]
 have w6:Of 3 (Bl Xg (Ca 3) (Zc (b1 Sc (Aa (b2 Gb (b2 Gb (b2 Gb (kD (.str "key ")) (b2 Ae (Ca 2) (kD (.int 39)))) (kD (.str " opens "))) (b2 Ae (Ca 2) (kD (.int 38)))) (Aa (kD (.str "key keys opens wings")) Ka))))) [some (.d (.lst NS)),some (.d (.int c0)),some (.d (.lst WS)),some (.o R1),y4,none,none,none,none,none,none]=.nx [some (.d (.lst NS)),some (.d (.int c0)),some (.d (.lst WS)),some (.o RW),y4,none,none,none,none,none,none]:=by
  simp only[Of,Zc,b1,b2,Bl,kD,Sc,Aa,Ka,Oa,Na,Uf,Kb,Res.bind_ok,i38',i39',a5,a6,a7,k2,List.length_cons,length_nil,reduceAdd,reduceLeDiff,if_true,Cb,set_cons_zero,set_cons_succ]
 have w7:Cn 3 (Nb 5 (bM Tf (kD (.str "\n")) (Aa (Qa 3) Ka))) [some (.d (.lst NS)),some (.d (.int c0)),some (.d (.lst WS)),some (.o RW),y4,none,none,none,none,none,none]=.nx [some (.d (.lst NS)),some (.d (.int c0)),some (.d (.lst WS)),some (.d (.lst RW)),y4,some (.d (.str tt)),none,none,none,none,none]:=by
  simp only[Cn,fz,Nb,bM,kD,Aa,Ka,Oa,Va,Ob,Res.bind_ok,j0,Cb,set_cons_zero,set_cons_succ]
 have w8:Nb 6 (b2 Gb (kD (.int 1)) (b2 Dh (b1 (La 2 Hb) (Aa (Qa 0) (Aa (kD (.int 2)) Ka))) (b1 Pc (Ca 3)))) [some (.d (.lst NS)),some (.d (.int c0)),some (.d (.lst WS)),some (.d (.lst RW)),y4,some (.d (.str tt)),none,none,none,none,none]=.nx [some (.d (.lst NS)),some (.d (.int c0)),some (.d (.lst WS)),some (.d (.lst RW)),y4,some (.d (.str tt)),some (.d (.int (1+(j:Int)))),none,none,none,none]:=by
  simp only[Nb,b1,b2,kD,Aa,Ka,Oa,Va,Na,Kb,Res.bind_ok,e2,lr,mj,Ph,Cb,set_cons_zero,set_cons_succ]
 have w9:Nb 7 (Zc (Bl Xg (Zc (Bl Xg (Zc (b3 Vr (Ca 3) Vc (b1 Ue (Qa 6)))) (Zc (b1 Sc (Aa (b1 (La 2 Bf) (Aa (b2 Ae (Ca 2) (kD (.int 37))) (Aa (b1 (La 2 Hb) (Aa (Qa 0) (Aa (kD (.int 1)) Ka))) Ka))) Ka))))) (Zc (b3 Vr (Ca 3) (b1 Ue (Qa 6)) Vc)))) [some (.d (.lst NS)),some (.d (.int c0)),some (.d (.lst WS)),some (.d (.lst RW)),y4,some (.d (.str tt)),some (.d (.int (1+(j:Int)))),none,none,none,none]=.nx [some (.d (.lst NS)),some (.d (.int c0)),some (.d (.lst WS)),some (.d (.lst RW)),y4,some (.d (.str tt)),some (.d (.int (1+(j:Int)))),some (.d (.lst SP)),none,none,none]:=by
  simp only[Nb,Zc,b1,b2,Bl,b3,kD,Vc,Sc,Aa,Ka,Oa,Va,Ob,Na,Kb,Res.bind_ok,Ce,s1,s2,i37',e1,nb,k3,k4,List.length_cons,length_nil,reduceAdd,reduceLeDiff,if_true,Cb,set_cons_zero,set_cons_succ]
 have w10:Nb 8 (bM Tf (kD (.str "\n")) (Aa (Qa 7) Ka)) [some (.d (.lst NS)),some (.d (.int c0)),some (.d (.lst WS)),some (.d (.lst RW)),y4,some (.d (.str tt)),some (.d (.int (1+(j:Int)))),some (.d (.lst SP)),none,none,none]=.nx [some (.d (.lst NS)),some (.d (.int c0)),some (.d (.lst WS)),some (.d (.lst RW)),y4,some (.d (.str tt)),some (.d (.int (1+(j:Int)))),some (.d (.lst SP)),some (.d (.str t0)),none,none]:=by
  simp only[Nb,bM,kD,Aa,Ka,Oa,Va,Ob,Res.bind_ok,j1,Cb,set_cons_zero,set_cons_succ]
 have w11:Nb 9 (b2 Dh (Ca 1) (kD (.int 8))) [some (.d (.lst NS)),some (.d (.int c0)),some (.d (.lst WS)),some (.d (.lst RW)),y4,some (.d (.str tt)),some (.d (.int (1+(j:Int)))),some (.d (.lst SP)),some (.d (.str t0)),none,none]=.nx [some (.d (.lst NS)),some (.d (.int c0)),some (.d (.lst WS)),some (.d (.lst RW)),y4,some (.d (.str tt)),some (.d (.int (1+(j:Int)))),some (.d (.lst SP)),some (.d (.str t0)),some (.d (.int way)),none]:=by
  simp only[Nb,b2,kD,Na,Kb,Res.bind_ok,m8,Cb,set_cons_zero,set_cons_succ]
 have tst:∀ (x:Int) (P T:D),tR (b2 Mm (Ca 9) (kD (.int x))) [some (.d (.lst NS)),some (.d (.int c0)),some (.d (.lst WS)),some (.d (.lst RW)),y4,some (.d (.str tt)),some (.d P),some (.d (.lst SP)),some (.d T),some (.d (.int way)),none]=.ok (way==x):=λx P T=>by
  simp only[tR,b2,kD,Na,Kb,Res.bind_ok,Qi,Ab]
 have v5:∀ (P T:D),Sa (Nb 6 (kD (.int 0))) (Nb 8 (bM Tf (kD (.str "\n")) (Aa (Zc (Bl Xg (Zc (b1 Sc (Aa (b1 (La 1 Qc) (Aa (b1 (La 2 Hb) (Aa (Qa 0) (Aa (kD (.int 1)) Ka))) Ka)) Ka))) (Zc (b3 Vr (Ca 3) (b1 Ue (kD (.int 1))) Vc)))) Ka))) [some (.d (.lst NS)),some (.d (.int c0)),some (.d (.lst WS)),some (.d (.lst RW)),y4,some (.d (.str tt)),some (.d P),some (.d (.lst SP)),some (.d T),some (.d (.int way)),none]=.nx [some (.d (.lst NS)),some (.d (.int c0)),some (.d (.lst WS)),some (.d (.lst RW)),y4,some (.d (.str tt)),some (.d (.int 0)),some (.d (.lst SP)),some (.d (.str t5)),some (.d (.int way)),none]:=λP T=>by
  simp only[Sa,Nb,Zc,b1,Bl,b3,bM,kD,Vc,Sc,Aa,Ka,Oa,Va,Na,Kb,Res.bind_ok,Ce,e1,nr,s3,k5,j5',List.length_cons,length_nil,reduceAdd,reduceLeDiff,if_true,Ma,Cb,set_cons_zero,set_cons_succ]
 have v6:∀ (P T:D),Sa (Nb 6 (b1 Pc (Ca 3))) (Nb 8 (b2 Gb (Ca 5) (kD (.str "\n")))) [some (.d (.lst NS)),some (.d (.int c0)),some (.d (.lst WS)),some (.d (.lst RW)),y4,some (.d (.str tt)),some (.d P),some (.d (.lst SP)),some (.d T),some (.d (.int way)),none]=.nx [some (.d (.lst NS)),some (.d (.int c0)),some (.d (.lst WS)),some (.d (.lst RW)),y4,some (.d (.str tt)),some (.d (.int LN)),some (.d (.lst SP)),some (.d (.str (tt++"\n"))),some (.d (.int way)),none]:=λP T=>by
  simp only[Sa,Nb,b1,b2,kD,Na,Kb,Res.bind_ok,lr,a8,Ma,Cb,set_cons_zero,set_cons_succ]
 have v7:∀ (P T:D),Sa (Nb 6 (kD (.int 0))) (Cn 3 (Nb 8 (b2 Ae (Zc (b1 Sc (Aa (kD (.int 5)) (Aa (kD .non) (Aa (kD (.bl true)) (Aa (Qa 3) (Aa (b1 Zn (Aa (kD (.str "rules 1 2 1 1")) (Aa (kD (.str "door a")) Ka))) Ka))))))) (b2 Dh (b1 (La 2 Hb) (Aa (Qa 0) (Aa (kD (.int 1)) Ka))) (kD (.int 5)))))) [some (.d (.lst NS)),some (.d (.int c0)),some (.d (.lst WS)),some (.d (.lst RW)),y4,some (.d (.str tt)),some (.d P),some (.d (.lst SP)),some (.d T),some (.d (.int way)),none]=.nx [some (.d (.lst NS)),some (.d (.int c0)),some (.d (.lst WS)),some (.d (.lst RW)),y4,some (.d (.str tt)),some (.d (.int 0)),some (.d (.lst SP)),some (.d T7),some (.d (.int way)),none]:=λP T=>by
  simp only[Sa,Nb,Cn,fz',Zc,b1,b2,kD,Sc,Zn,Aa,Ka,Oa,Va,Ob,Res.bind_ok,e1,mk7',i7,List.length_cons,length_nil,reduceAdd,reduceLeDiff,if_true,Ma,Cb,set_cons_zero,set_cons_succ]
 have fin:∀ (P:Int) (T:D),La 1 Oc [T]=.ok (.int P)->Hl (Sa (Xj (tR (b2 Px (b1 (La 1 Oc) (Aa (Qa 8) Ka)) (Ca 6))) (Pb (kD (.bl false))) Out.nx) (Sa (Nb 10 (b1 (La 1 Od) (Aa (b1 (La 1 Ta) (Aa (Qa 5) Ka)) Ka))) (Pb (Yl (b1 (Yd "str") (Ca 10)) (b2 Mm (Ca 10) (Ca 5))))) [some (.d (.lst NS)),some (.d (.int c0)),some (.d (.lst WS)),some (.d (.lst RW)),y4,some (.d (.str tt)),some (.d (.int P)),some (.d (.lst SP)),some (.d T),some (.d (.int way)),none])=.ok (.bl true):=λP T h=>by
  have n0:=nee P
  unfold Sa
  rw[Ve (by simp only[tR,b1,b2,Aa,Ka,Oa,Va,Ob,Na,Kb,Res.bind_ok,h,n0,Ab]),Ma]
  simp only[Nb,Pb,Yl,b1,b2,Aa,Ka,Oa,Va,Ob,Na,Kb,Res.bind_ok,cg,sh,is,et,Gi,if_true,Ma,Cb,set_cons_zero,set_cons_succ,Yb]
 unfold RM XV
 rw[Zb]
 show Hl (Sa _ _ [some (.d (.lst NS)),none,none,none,none,none,none,none,none,none,none])=_
 rw[Sa,w1,Ma,Sa,w2,Ma,Sa,w3,Ma,Sa,lo',Ma,Sa,w5,Ma,Sa,w6,Ma,Sa,w7,Ma,Sa,w8,Ma,Sa,w9,Ma,Sa,w10,Ma,Sa,w11,Ma]
 by_cases q5:(way==5)=true
 .have h6:(way==6)=false:=by rw[beq_iff_eq]at q5;rw[q5];rfl
  have h7:(way==7)=false:=by rw[beq_iff_eq]at q5;rw[q5];rfl
  rw[Sa,sIf_t ((tst 5 _ _).trans (by rw[q5])),v5,Ma,Sa,Ve ((tst 6 _ _).trans (by rw[h6])),Ma,Sa,Ve ((tst 7 _ _).trans (by rw[h7])),Ma]
  exact fin 0 _ rf5
 .rw[Bool.not_eq_true]at q5
  rw[Sa,Ve ((tst 5 _ _).trans (by rw[q5])),Ma]
  by_cases q6:(way==6)=true
  .have h7:(way==7)=false:=by rw[beq_iff_eq]at q6;rw[q6];rfl
   rw[Sa,sIf_t ((tst 6 _ _).trans (by rw[q6])),v6,Ma,Sa,Ve ((tst 7 _ _).trans (by rw[h7])),Ma]
   exact fin _ _ rf6
  .rw[Bool.not_eq_true]at q6
   rw[Sa,Ve ((tst 6 _ _).trans (by rw[q6])),Ma]
   by_cases q7:(way==7)=true
   .rw[Sa,sIf_t ((tst 7 _ _).trans (by rw[q7])),v7,Ma]
    exact fin 0 _ rf7
   .rw[Bool.not_eq_true]at q7
    rw[Sa,Ve ((tst 7 _ _).trans (by rw[q7])),Ma]
    exact fin _ _ rf0
end G
local macro_rules| `(tactic| walk_at "memfree")=> `(tactic| first|exact forall_mem_nil _|exact forall_mem_cons.mpr ⟨(by intro h;first|exact absurd h (by decide)|exact Or.inl rfl|exact Or.inr rfl),by walk_at "memfree"⟩)
local macro_rules| `(tactic| walk_at "memdis")=> `(tactic| first|exact forall_mem_nil _|exact forall_mem_cons.mpr ⟨by decide +kernel,by walk_at "memdis"⟩)
local macro_rules| `(tactic| walk_at "compok")=> `(tactic| exact⟨rfl,by decide +kernel,by walk_at "memfree",rfl,by walk_at "memdis"⟩)
namespace G
open PySem PySem.Spec PyProof.Rows L2 L3
def top(i:Nat):Stmt:=PySem.Challenge.pw_wardsmith_k34_rows_that_are_none.main.body.getD i (.Pass ⟨0,0,0,0⟩)
abbrev Vd:Stmt:=top 59
abbrev Ff:Stmt:=top 60
abbrev Ag:Stmt:=top 62
abbrev Cg:Stmt:=top 61
abbrev Gf:Stmt:=top 63
abbrev Cd:Stmt:=top 65
abbrev Bg:Stmt:=top 64
abbrev Yj:Stmt:=top 50
abbrev Hm:Stmt:=YE (top 49) 0
abbrev Im:Stmt:=YE (top 7) 0
abbrev Dg:Stmt:=top 55
abbrev Eg:Stmt:=top 38
abbrev Hf:Stmt:=top 39
abbrev Fg:Stmt:=top 37
abbrev Li:Stmt:=top 40
abbrev Me:Stmt:=top 42
abbrev Ih:Stmt:=top 28
abbrev Hh:Stmt:=top 41
abbrev Gh:Stmt:=top 30
abbrev Jf:Stmt:=top 31
abbrev Kf:Stmt:=top 32
abbrev Mf:Stmt:=top 43
abbrev Jh:Stmt:=top 52
abbrev Ki:Stmt:=top 29
abbrev Ic:Stmt:=top 54
abbrev Kh:Stmt:=top 53
abbrev Lf:Stmt:=top 51
abbrev Wd:Stmt:=top 66
abbrev Pe:Stmt:=top 44
abbrev Qe:Stmt:=top 57
abbrev Oe:Stmt:=top 56
abbrev Yo:Stmt:=top 67
structure Txt(w:World)(K:Frag)(mg:Str->Option Value)(ca:Nat->V):Prop where
 n_ValueError:mg "ValueError"=none
 n_all:mg "all"=none
 n_any:mg "any"=none
 n_bool:mg "bool"=none
 n_enumerate:mg "enumerate"=none
 n_int:mg "int"=none
 n_isinstance:mg "isinstance"=none
 n_len:mg "len"=none
 n_list:mg "list"=none
 n_range:mg "range"=none
 n_set:mg "set"=none
 n_str:mg "str"=none
 n_tuple:mg "tuple"=none
 c_FIGURES:∃ t,mg "FIGURES"=some (.str "0123456789" t)
 c_KEPT_WORDS:GlobT K mg "KEPT_WORDS" (["door","key","opens","rules","wing"]:List Str)
 c_LATER_KINDS:GlobG (V3 K) w K mg "LATER_KINDS" [("door",(["wing","key"]:List Str)),("wing",(["key"]:List Str)),("key",([]:List Str))]
 c_LEAST_DEPTHS:∃ t,mg "LEAST_DEPTHS"=some (.int 2 t)
 c_LETTERS:∃ t,mg "LETTERS"=some (.str "abcdefghijklmnopqrstuvwxyz" t)
 c_LINKS:GlobG Y3 w K mg "LINKS" [("wing","="),("key","opens")]
 c_MOST_DEPTHS:∃ t,mg "MOST_DEPTHS"=some (.int 20 t)
 c_MOST_FIGURES:∃ t,mg "MOST_FIGURES"=some (.int 3 t)
 c_MOST_LETTERS:∃ t,mg "MOST_LETTERS"=some (.int 12 t)
 c_MOST_OF_A_KIND:∃ t,mg "MOST_OF_A_KIND"=some (.int 60 t)
 c_MOST_PLACES:∃ t,mg "MOST_PLACES"=some (.int 24 t)
 o_House_doors:FldK K "House" "doors"
 o_House_grants:FldK K "House" "grants"
 o_House_rules:FldK K "House" "rules"
 o_House_wings:FldK K "House" "wings"
 f_row:∀ c∈(["NoRow"]:List Str),FldX K c "row"
 x_NoRules:ClsX K "NoRules"
 m_NoRules_NoRules:MatchX K "NoRules" "NoRules"
 m_SmithError_NoRow:MatchX K "SmithError" "NoRow"
 v_NoBarrel:IsC K mg "NoBarrel" (ca 4)
 v_NoCuts:IsC K mg "NoCuts" (ca 5)
 v_NoDeed:IsC K mg "NoDeed" (ca 6)
 v_NoPlan:IsC K mg "NoPlan" (ca 7)
 v_NoRow:IsC K mg "NoRow" (ca 1)
 v_NoRules:IsC K mg "NoRules" (ca 0)
 v_NoSay:IsC K mg "NoSay" (ca 8)
 v_NoSuch:IsC K mg "NoSuch" (ca 9)
 v_NoThing:IsC K mg "NoThing" (ca 10)
 v_NoTower:IsC K mg "NoTower" (ca 11)
 v_Ring:IsC K mg "Ring" (ca 12)
 v_Shallow:IsC K mg "Shallow" (ca 13)
 v_Shared:IsC K mg "Shared" (ca 14)
 v_Steep:IsC K mg "Steep" (ca 15)
 v_TooFlat:IsC K mg "TooFlat" (ca 16)
 v_TooHigh:IsC K mg "TooHigh" (ca 17)
 v_TooNarrow:IsC K mg "TooNarrow" (ca 18)
 v_Twice:IsC K mg "Twice" (ca 19)
 v_Unknown:IsC K mg "Unknown" (ca 20)
 v_ValueError:IsC K mg "ValueError" (ca 3)
 v_Wrong:IsC K mg "Wrong" (ca 21)
 i_0:IsiX K [("NoRow",true),("NoRules",false)] [ca 1]
 i_1:IsiX K [("NoRow",true),("NoRules",true)] [ca 3]
 i_2:IsiX K [("NoRow",false),("NoRules",true)] [ca 4,ca 5,ca 6,ca 7,ca 0,ca 8,ca 9,ca 10,ca 11]
 i_3:IsiX K [("NoRow",false),("NoRules",false)] [ca 12,ca 13,ca 14,ca 15,ca 16,ca 17,ca 18,ca 19,ca 20,ca 21]
variable{w:World}{K:Frag}{mg:Str->Option Value}{f C:Addr}{fd:FuncData}
section
variable {P:Program}{base:Heap}{ca:Nat->V}
theorem Ir:FnScope ["_law_script","_law_k"] ["_law_script","_law_k"] (Da Vd):=⟨rfl,rfl,rfl,by decide +kernel,rfl,by decide +kernel,by decide +kernel⟩
theorem Gr(F:Fun K "_law_cell_at" "_law_cell_at" Vd f fd)(hm:mg "_law_cell_at"=some (.ref f))(T:Txt w K mg ca)  :Fn P w K mg base 1 "_law_cell_at" 2 Hb:=
 Mc (k:=0) F Ir hm (F.binds (ps:= ["_law_script","_law_k"]) λ_ _ _ _ _ _=>FQ λ_ _=>rfl) λcdv A outer s H E hr=>
  (Ja (Di (Uk E4 (Ha 1) (Fa (Wg T.n_len (Ha 0)))) (Ya (Vb (Qf (Ha 0) (Ha 1)))) Jc)
  (Ya (Vb Wa)))
theorem En:FnScope ["_law_cell","_law_k","_law_number"] ["_law_cell","_law_k"] (Da Ff):=⟨rfl,rfl,rfl,by decide +kernel,rfl,by decide +kernel,by decide +kernel⟩
theorem Lu(F:Fun K "_law_mixed" "_law_mixed" Ff f fd)(hm:mg "_law_mixed"=some (.ref f))(T:Txt w K mg ca)  :Fn P w K mg base 1 "_law_mixed" 2 Be:=
 Mc (k:=0) F En hm (F.binds (ps:= ["_law_cell","_law_k"]) λ_ _ _ _ _ _=>FQ λ_ _=>rfl) λcdv A outer s H E hr=>
  (Ja (Wc 2 En.nd (Xi (Fa (BE (Fa (Za (Fa (Xi (Ha 0) (Fa Wa))) (Fa Wa))) (Fa (Za (Fa Wa) (Fa (BE (Fa Wa) (Ha 1))))))) (Fa Wa)))
  (Ya (Vb (Xi (Fa (BE (Ha 2) (Ha 2))) (Fa Wa)))))
theorem Nf:FnScope ["_law_cell","_law_number","_law_word","_law_k"] ["_law_cell"] (Da Ag):=⟨rfl,rfl,rfl,by decide +kernel,rfl,by decide +kernel,by decide +kernel⟩
theorem Qx(F:Fun K "_law_name" "_law_name" Ag f fd)(hm:mg "_law_name"=some (.ref f))(T:Txt w K mg ca)  :Fn P w K mg base 1 "_law_name" 1 Zf:=
 Mc (k:=0) F Nf hm (F.binds (ps:= ["_law_cell"]) λ_ _ _ _ _ _=>us1 λ_=>rfl) λcdv A outer s H E hr=>
  (Ja (Wc 1 Nf.nd (Xi (Fa (Eu (Ha 0) (Fa Wa))) (Fa (Q6 (Fa Wa) (Fa Wa)))))
  (Ja (Wc 2 Nf.nd Ia)
  (Ja (UF PassesOwn.never rfl (Js T.n_range (Ba (Za (Fa Wa) (Fa (Xi (Ha 0) (Fa Wa)))) Ua)) (Ye 3 Nf.nd) (Ja (Wc 2 Nf.nd (Za (Ha 2) (Fa (Qf (Fa Ia) (Fa (Xi (Ha 1) (Fa Wa)))))))
  (Ya (Wc 1 Nf.nd (Eu (Ha 1) (Fa Wa))))))
  (Ya (Vb (Fb 2))))))
theorem Hy:FnScope ["_law_word"] ["_law_word"] (Da Cg):=⟨rfl,rfl,rfl,by decide +kernel,rfl,by decide +kernel,by decide +kernel⟩
theorem Sx(F:Fun K "_law_open" "_law_open" Cg f fd)(hm:mg "_law_open"=some (.ref f))(T:Txt w K mg ca)  :Fn P w K mg base 1 "_law_open" 1 Cf:=
 Mc (k:=0) F Hy hm (F.binds (ps:= ["_law_word"]) λ_ _ _ _ _ _=>us1 λ_=>rfl) λcdv A outer s H E hr=>
  (Ja (Di (U6 (Ha 0) (Fa (Ac (Te (Ba Ia (Ba Ia (Ba Ia (Ba Ia (Ba Ia Ua))))))))) (Ya (Vb (Za (Ha 0) (Fa Ia)))) Jc)
  (Ya (Vb (Fb 0))))
theorem Pd:FnScope ["_law_cell","_law_many","_law_word","_law_place","_law_some","_law_names_here","_law_k","_law_inner"] ["_law_cell","_law_many"] (Da Gf):=⟨rfl,rfl,rfl,by decide +kernel,rfl,by decide +kernel,by decide +kernel⟩
theorem Mu(F:Fun K "_law_names" "_law_names" Gf f fd)(hm:mg "_law_names"=some (.ref f))(T:Txt w K mg ca)(F__law_name:Fn P w K mg base 1 "_law_name" 1 Zf)(F__law_open:Fn P w K mg base 1 "_law_open" 1 Cf):Fn P w K mg base 2 "_law_names" 2 Fd:=
 Mc (k:=1) F Pd hm (F.binds (ps:= ["_law_cell","_law_many"]) λ_ _ _ _ _ _=>FQ λ_ _=>rfl) λcdv A outer s H E hr=>
  (Ja (Wc 2 Pd.nd (Ub (F__law_name.mono (by decide)) hr (Ba (Fb 0) Ua)))
  (Ja (Wc 3 Pd.nd (Xi (Fa (Eu (Ha 0) (Fa Wa))) (Fa (Za (Fa (Wg T.n_len (Ha 2))) (Fa Wa)))))
  (Ja (Wc 4 Pd.nd (Qf (Fa (Ac (Te (Ba Ia (Ba Ia (Ba Ia Ua)))))) (Fa (Xi (Fa (Eu (Ha 0) (Fa Wa))) (Fa Wa)))))
  (Ja (Wh 5 Pd.nd (Te Ua))
  (Ja (UF PassesOwn.never rfl (Js T.n_range (Ba (Fb 1) Ua)) (Ye 6 Pd.nd) (Ja (Wc 7 Pd.nd (Za (Fa (Qf (Ha 4) (Fa (Xi (Ha 6) (Fa Wa))))) (Fa (Qf (Ha 4) (Fa (Xi (Fa (Eu (Ha 6) (Fa Wa))) (Fa Wa)))))))
  (Ya (Ql 5 (Ub (F__law_open.mono (by decide)) hr (Ba (Za (Fa (Za (Fa (OP (Ha 2) Kk (Ti (Fb 3)))) (Ha 7))) (Fa (OP (Ha 2) (Ti (Fb 3)) Kk))) Ua))))))
  (Ya (Y1 5)))))))
theorem Lh:FnScope ["_law_cell","_law_some"] ["_law_cell"] (Da Cd):=⟨rfl,rfl,rfl,by decide +kernel,rfl,by decide +kernel,by decide +kernel⟩
theorem Xp(F:Fun K "_law_no_rules" "_law_no_rules" Cd f fd)(hm:mg "_law_no_rules"=some (.ref f))(T:Txt w K mg ca)  :Fn P w K mg base 1 "_law_no_rules" 1 Qc:=
 Mc (k:=0) F Lh hm (F.binds (ps:= ["_law_cell"]) λ_ _ _ _ _ _=>us1 λ_=>rfl) λcdv A outer s H E hr=>
  (Ja (Wh 1 Lh.nd (Te (Ba Ia (Ba Ia (Ba Ia (Ba Ia (Ba Ia (Ba Ia Ua))))))))
  (Ja (Ql 1 Ia)
  (Ja (Wh 1 Lh.nd (Sh (Ha 1) (Fa (Ac (Te (Ba Ia (Ba Ia (Ba Ia (Ba Ia (Ba Ia Ua))))))))))
  (Ja (Ql 1 Ia)
  (Ya (Vb (Qf (Fa (Ac (Sh (Ha 1) (Fa (Ac (Te (Ba Ia (Ba Ia (Ba Ia (Ba Ia (Ba Ia Ua))))))))))) (Fa (Xi (Ha 0) (Fa Wa))))))))))
theorem Gc:FnScope ["_law_name_here","_law_cell","_law_some"] ["_law_name_here","_law_cell"] (Da Bg):=⟨rfl,rfl,rfl,by decide +kernel,rfl,by decide +kernel,by decide +kernel⟩
theorem Rx(F:Fun K "_law_none" "_law_none" Bg f fd)(hm:mg "_law_none"=some (.ref f))(T:Txt w K mg ca)  :Fn P w K mg base 1 "_law_none" 2 Bf:=
 Mc (k:=0) F Gc hm (F.binds (ps:= ["_law_name_here","_law_cell"]) λ_ _ _ _ _ _=>FQ λ_ _=>rfl) λcdv A outer s H E hr=>
  (Ja (Wh 2 Gc.nd (Te (Ba Ia (Ba Ia (Ba Ia (Ba Ia (Ba (Fb 0) (Ba (Za (Fa Ia) (Ha 0)) (Ba (Za (Fa Ia) (Ha 0)) (Ba (Za (Fa (Za (Fa Ia) (Ha 0))) (Fa Ia)) (Ba (Za (Fa Ia) (Ha 0)) Ua)))))))))))
  (Ja (Wh 2 Gc.nd (Sh (Ha 2) (Fa (Ac (Te (Ba (Za (Fa Ia) (Ha 0)) (Ba (Za (Fa Ia) (Fa (PV (Fb 0)))) (Ba (Za (Fa (Za (Fa Ia) (Ha 0))) (Fa Ia)) (Ba Ia (Ba Ia (Ba Ia Ua)))))))))))
  (Ja (Wh 2 Gc.nd (Sh (Ha 2) (Fa (Ac (Te (Ba Ia (Ba (Za (Fa Ia) (Ha 0)) (Ba (Za (Fa Ia) (Ha 0)) (Ba (Za (Fa (Za (Fa Ia) (Ha 0))) (Fa Ia)) (Ba (Za (Fa (Za (Fa Ia) (Ha 0))) (Fa Ia)) Ua))))))))))
  (Ja (Wh 2 Gc.nd (Sh (Ha 2) (Fa (Ac (Te (Ba (Za (Fa (Za (Fa Ia) (Ha 0))) (Fa Ia)) (Ba (Za (Fa (Za (Fa Ia) (Ha 0))) (Fa Ia)) (Ba (Za (Fa (Za (Fa Ia) (Ha 0))) (Fa Ia)) Ua))))))))
  (Ja (Ql 2 (Za (Fa (Za (Fa Ia) (Ha 0))) (Fa Ia)))
  (Ja (Wh 2 Gc.nd (Sh (Ha 2) (Fa (Ac (Te (Ba (Za (Fa (Za (Fa Ia) (Ha 0))) (Fa Ia)) (Ba Ia (Ba Ia (Ba (Za (Fa (Za (Fa Ia) (Ha 0))) (Fa Ia)) (Ba Ia Ua))))))))))
  (Ja (Wh 2 Gc.nd (Sh (Ha 2) (Fa (Ac (Te (Ba (Za (Fa (Za (Fa Ia) (Ha 0))) (Fa Ia)) (Ba (Za (Fa (Za (Fa Ia) (Ha 0))) (Fa Ia)) (Ba (Za (Fa (Za (Fa Ia) (Ha 0))) (Fa Ia)) (Ba (Za (Fa (Za (Fa Ia) (Ha 0))) (Fa Ia)) Ua)))))))))
  (Ja (Wh 2 Gc.nd (Sh (Ha 2) (Fa (Ac (Te (Ba (Za (Fa Ia) (Ha 0)) (Ba (Za (Fa (Za (Fa Ia) (Ha 0))) (Fa Ia)) (Ba (Za (Fa (Za (Fa Ia) (Ha 0))) (Fa Ia)) (Ba (Za (Fa (Za (Fa Ia) (Ha 0))) (Fa Ia)) Ua)))))))))
  (Ja (Wh 2 Gc.nd (Sh (Ha 2) (Fa (Ac (Te (Ba (Za (Fa (Za (Fa Ia) (Ha 0))) (Fa Ia)) (Ba (Za (Fa (Za (Fa Ia) (Ha 0))) (Fa Ia)) (Ba (Za (Fa (Za (Fa Ia) (Ha 0))) (Fa Ia)) (Ba Ia Ua)))))))))
  (Ja (Wh 2 Gc.nd (Sh (Ha 2) (Fa (Ac (Te (Ba (Za (Fa (Za (Fa Ia) (Ha 0))) (Fa Ia)) (Ba Ia (Ba (Za (Fa (Za (Fa Ia) (Ha 0))) (Fa Ia)) (Ba (Za (Fa Ia) (Ha 0)) Ua)))))))))
  (Ja (Wh 2 Gc.nd (Sh (Ha 2) (Fa (Ac (Te (Ba Ia (Ba Ia (Ba (Za (Fa Ia) (Ha 0)) (Ba (Za (Fa (Za (Fa Ia) (Ha 0))) (Fa Ia)) (Ba (Za (Fa (Za (Fa Ia) (Ha 0))) (Fa Ia)) Ua))))))))))
  (Ya (Vb (Qf (Ha 2) (Fa (Xi (Ha 1) (Fa (Wg T.n_len (Ha 2)))))))))))))))))))
theorem AJ:FnScope ["things"] ["things"] (Da Yj):=⟨rfl,rfl,rfl,by decide +kernel,rfl,by decide +kernel,by decide +kernel⟩
theorem II(F:Fun K "copied" "copied" Yj f fd)(hm:mg "copied"=some (.ref f))(T:Txt w K mg ca)  :Fn P w K mg base 1 "copied" 1 Si:=
 Mc (k:=0) F AJ hm (F.binds (ps:= ["things"]) λ_ _ _ _ _ _=>us1 λ_=>rfl) λcdv A outer s H E hr=>
  (Ya (Vb (Ac (Ri ["name","names"] ["things"] (by walk_at "compok") rfl (Xm (Fb 0)) (λC fp pins s H=>⟨(AW rfl (Bx (Ye 0 (show Nodup (["name","names","things"]:List Str) by decide +kernel)) (Bx (Ye 1 (show Nodup (["name","names","things"]:List Str) by decide +kernel)) ZV))),Vl,(UP (Ba (Fb 0) (Ba (Ac (Hz T.n_list (Ha 1))) Ua)))⟩)))))
theorem MO:FnScope ["self","rules","doors","wings","grants"] ["self","rules","doors","wings","grants"] (Da Hm):=⟨rfl,rfl,rfl,by decide +kernel,rfl,by decide +kernel,by decide +kernel⟩
theorem FN(F:Fun K "__init__" "House.__init__" Hm f fd)(M:Mk K C f)(hm:mg "House"=some (.ref C))(hc:nsIn K mainGlobals "House"=some (some (.ref C)))(cl:Cls K C)(na_rules:NoAttr K C "rules")(na_doors:NoAttr K C "doors")(na_wings:NoAttr K C "wings")(na_grants:NoAttr K C "grants")(T:Txt w K mg ca)(F_copied:Fn P w K mg base 1 "copied" 1 Si):FnI P w K mg base 3 "House" 4 4 Th:=
 AS (k:=1) F MO M hm hc (F.binds (ps:= ["self","rules","doors","wings","grants"]) λ_ _ _ _ _ _=>us5 λ_ _ _ _ _=>rfl) λcdv A outer s H E hr=>
  (Pr cl na_rules (Fb 1)
  (Pr cl na_doors (Ac (Hz T.n_list (Ha 2)))
  (Pr cl na_wings (Ub (F_copied.mono (by decide)) hr (Ba (Fb 3) Ua))
  (Pr cl na_grants (Ub (F_copied.mono (by decide)) hr (Ba (Fb 4) Ua))
  UY))))
theorem NO:FnScope ["self","row"] ["self","row"] (Da Im):=⟨rfl,rfl,rfl,by decide +kernel,rfl,by decide +kernel,by decide +kernel⟩
theorem GN{S:Addr}(F:Fun K "__init__" "NoRow.__init__" Im f fd)(Z:XInit K C S f)(hm:mg "NoRow"=some (.ref C))(hc:nsIn K mainGlobals "NoRow"=some (some (.ref C)))(hS:mg "SmithError"=some (.ref S))(na_row:findIn K (.ref C) "row"=some none):FnG P w K mg base 2 "NoRow" [("row",true)]:=
 ZR (k:=0) F NO Z hm hc (F.binds (ps:= ["self","row"]) λ_ _ _ _ _ _=>FQ λ_ _=>rfl) λcdv A outer s H E hr=>TY Z hS na_row (OF (W0 1 (OF X0) rfl (by first|exact Or.inl rfl|exact Or.inr (Or.inl rfl)|exact Or.inr (Or.inr rfl)))) (λσ v1 h1 s1=>⟨QY h1 s1,trivial⟩)
theorem Iy:FnScope ["things","kind"] ["things","kind"] (Da Dg):=⟨rfl,rfl,rfl,by decide +kernel,rfl,by decide +kernel,by decide +kernel⟩
theorem Ux(F:Fun K "can_stand" "can_stand" Dg f fd)(hm:mg "can_stand"=some (.ref f))(T:Txt w K mg ca)  :Fn P w K mg base 1 "can_stand" 2 Ec:=
 Mc (k:=0) F Iy hm (F.binds (ps:= ["things","kind"]) λ_ _ _ _ _ _=>FQ λ_ _=>rfl) λcdv A outer s H E hr=>
  (Ja (Di (AQ (Cu (Uk Y7 (Fa (Wg T.n_len (Fa (Bo (Kt 0) (Ha 1))))) (Fa (Lm T.c_MOST_OF_A_KIND))) (Ln (Vg (N6 rfl T.n_any (Fa (Ac (Ri ["later"] ["things","kind"] (by walk_at "compok") rfl (Xm (LV T.c_LATER_KINDS (Ha 1))) (λC fp pins s H=>⟨(Ye 0 (show Nodup (["later","things","kind"]:List Str) by decide +kernel)),Vl,(Du D4 (Fa (Wg T.n_len (Fa (Bo (Kt 1) (Ha 0))))) (Fa Wa))⟩))))))))) (Ya (Vb AE)) Jc)
  (Ya (Vb (P6 (Du (Fu (Lo hr)) (Ha 1) (Fa Ia)) (Ar (Du D4 (Fa (Wg T.n_len (Fa (Bo (Kt 0) (Fa Ia))))) (Fa Wa)))))))
theorem Jy:FnScope ["rules"] ["rules"] (Da Eg):=⟨rfl,rfl,rfl,by decide +kernel,rfl,by decide +kernel,by decide +kernel⟩
theorem Vx(F:Fun K "depths_of" "depths_of" Eg f fd)(hm:mg "depths_of"=some (.ref f))(T:Txt w K mg ca)  :Fn P w K mg base 1 "depths_of" 1 Uh:=
 Mc (k:=0) F Jy hm (F.binds (ps:= ["rules"]) λ_ _ _ _ _ _=>us1 λ_=>rfl) λcdv A outer s H E hr=>
  (Ya (Vb (Qf (Ha 0) (Fa Wa))))
theorem Tu:FnScope ["rules"] ["rules"] (Da Hf):=⟨rfl,rfl,rfl,by decide +kernel,rfl,by decide +kernel,by decide +kernel⟩
theorem Nu(F:Fun K "heights_of" "heights_of" Hf f fd)(hm:mg "heights_of"=some (.ref f))(T:Txt w K mg ca)  :Fn P w K mg base 1 "heights_of" 1 Qg:=
 Mc (k:=0) F Tu hm (F.binds (ps:= ["rules"]) λ_ _ _ _ _ _=>us1 λ_=>rfl) λcdv A outer s H E hr=>
  (Ya (Vb (Qf (Ha 0) (Fa Wa))))
theorem Ky:FnScope ["rules"] ["rules"] (Da Fg):=⟨rfl,rfl,rfl,by decide +kernel,rfl,by decide +kernel,by decide +kernel⟩
theorem Wx(F:Fun K "places_of" "places_of" Fg f fd)(hm:mg "places_of"=some (.ref f))(T:Txt w K mg ca)  :Fn P w K mg base 1 "places_of" 1 Vh:=
 Mc (k:=0) F Ky hm (F.binds (ps:= ["rules"]) λ_ _ _ _ _ _=>us1 λ_=>rfl) λcdv A outer s H E hr=>
  (Ya (Vb (Qf (Ha 0) (Fa Wa))))
theorem ID:FnScope ["rules"] ["rules"] (Da Li):=⟨rfl,rfl,rfl,by decide +kernel,rfl,by decide +kernel,by decide +kernel⟩
theorem VC(F:Fun K "step_of" "step_of" Li f fd)(hm:mg "step_of"=some (.ref f))(T:Txt w K mg ca)  :Fn P w K mg base 1 "step_of" 1 Sj:=
 Mc (k:=0) F ID hm (F.binds (ps:= ["rules"]) λ_ _ _ _ _ _=>us1 λ_=>rfl) λcdv A outer s H E hr=>
  (Ya (Vb (Qf (Ha 0) (Fa Wa))))
theorem Rl:FnScope ["rules","depths"] ["rules"] (Da Me):=⟨rfl,rfl,rfl,by decide +kernel,rfl,by decide +kernel,by decide +kernel⟩
theorem At(F:Fun K "are_bounded" "are_bounded" Me f fd)(hm:mg "are_bounded"=some (.ref f))(T:Txt w K mg ca)(F_depths_of:Fn P w K mg base 1 "depths_of" 1 Uh)(F_heights_of:Fn P w K mg base 1 "heights_of" 1 Qg)(F_places_of:Fn P w K mg base 1 "places_of" 1 Vh)(F_step_of:Fn P w K mg base 1 "step_of" 1 Sj):Fn P w K mg base 2 "are_bounded" 1 Md:=
 Mc (k:=1) F Rl hm (F.binds (ps:= ["rules"]) λ_ _ _ _ _ _=>us1 λ_=>rfl) λcdv A outer s H E hr=>
  (Ja (Wc 1 Rl.nd (Ub (F_depths_of.mono (by decide)) hr (Ba (Fb 0) Ua)))
  (Ja (Di (AQ (Cu (Xh (Sy Cr Cr (Fa Wa) (Fa (Ub (F_places_of.mono (by decide)) hr (Ba (Fb 0) Ua))) (Fa (Lm T.c_MOST_PLACES)))) (Ln (Xh (Sy Cr Cr (Fa (Lm T.c_LEAST_DEPTHS)) (Ha 1) (Fa (Lm T.c_MOST_DEPTHS))))))) (Ya (Vb AE)) Jc)
  (Ya (Vb (Ew (Ry Cr Cr (Fa Wa) (Fa (Ub (F_heights_of.mono (by decide)) hr (Ba (Fb 0) Ua))) (Ha 1)) (Ar (Ry Cr Cr (Fa Wa) (Fa (Ub (F_step_of.mono (by decide)) hr (Ba (Fb 0) Ua))) (Fa (R6 (Ha 1) (Fa Wa))))))))))
theorem CB:FnScope ["thing"] ["thing"] (Da Ih):=⟨rfl,rfl,rfl,by decide +kernel,rfl,by decide +kernel,by decide +kernel⟩
theorem EA(F:Fun K "is_whole" "is_whole" Ih f fd)(hm:mg "is_whole"=some (.ref f))(T:Txt w K mg ca)  :Fn P w K mg base 1 "is_whole" 1 Bh:=
 Mc (k:=0) F CB hm (F.binds (ps:= ["thing"]) λ_ _ _ _ _ _=>us1 λ_=>rfl) λcdv A outer s H E hr=>
  (Ya (Vb (Ew (Ip AF (by decide +kernel) T.n_isinstance T.n_int (Ha 0)) (Ar (O6 (Ip Rz (by decide +kernel) T.n_isinstance T.n_bool (Ha 0)))))))
theorem BB:FnScope ["thing"] ["thing"] (Da Hh):=⟨rfl,rfl,rfl,by decide +kernel,rfl,by decide +kernel,by decide +kernel⟩
theorem CA(F:Fun K "is_rules" "is_rules" Hh f fd)(hm:mg "is_rules"=some (.ref f))(T:Txt w K mg ca)(F_are_bounded:Fn P w K mg base 2 "are_bounded" 1 Md)(F_is_whole:Fn P w K mg base 1 "is_whole" 1 Bh):Fn P w K mg base 3 "is_rules" 1 Nd:=
 Mc (k:=2) F BB hm (F.binds (ps:= ["thing"]) λ_ _ _ _ _ _=>us1 λ_=>rfl) λcdv A outer s H E hr=>
  (Ja (Di (AQ (Cu (Xh (Vg (Ip WH (by decide +kernel) T.n_isinstance T.n_tuple (Ha 0)))) (Ln (Uk (OQ (Lo hr)) (Fa (Wg T.n_len (Ha 0))) (Fa Wa))))) (Ya (Vb AE)) Jc)
  (Ya (Vb (Ew (CG rfl T.n_all (Fa (Ac (Ri ["number"] ["thing"] (by walk_at "compok") rfl (Xm (Fb 0)) (λC fp pins s H=>⟨(Ye 0 (show Nodup (["number","thing"]:List Str) by decide +kernel)),Vl,(Ub (F_is_whole.mono (by decide)) hr (Ba (Fb 0) Ua))⟩))))) (Ar (Ub (F_are_bounded.mono (by decide)) hr (Ba (Fb 0) Ua)))))))
theorem AB:FnScope ["text","signs"] ["text","signs"] (Da Gh):=⟨rfl,rfl,rfl,by decide +kernel,rfl,by decide +kernel,by decide +kernel⟩
theorem BA(F:Fun K "has_only" "has_only" Gh f fd)(hm:mg "has_only"=some (.ref f))(T:Txt w K mg ca)  :Fn P w K mg base 1 "has_only" 2 Rc:=
 Mc (k:=0) F AB hm (F.binds (ps:= ["text","signs"]) λ_ _ _ _ _ _=>FQ λ_ _=>rfl) λcdv A outer s H E hr=>
  (Ya (Vb (CG rfl T.n_all (Fa (Ac (Ri ["sign"] ["text","signs"] (by walk_at "compok") rfl (W4 (Fb 0)) (λC fp pins s H=>⟨(Ye 0 (show Nodup (["sign","text","signs"]:List Str) by decide +kernel)),Vl,(Fa0 (Ha 0) (Ha 2))⟩)))))))
theorem Uu:FnScope ["text","most"] ["text","most"] (Da Jf):=⟨rfl,rfl,rfl,by decide +kernel,rfl,by decide +kernel,by decide +kernel⟩
theorem Ou(F:Fun K "is_written" "is_written" Jf f fd)(hm:mg "is_written"=some (.ref f))(T:Txt w K mg ca)(F_has_only:Fn P w K mg base 1 "has_only" 2 Rc):Fn P w K mg base 2 "is_written" 2 Hd:=
 Mc (k:=1) F Uu hm (F.binds (ps:= ["text","most"]) λ_ _ _ _ _ _=>FQ λ_ _=>rfl) λcdv A outer s H E hr=>
  (Ja (Di (AQ (Cu (Xh (Sy Cr Cr (Fa Wa) (Fa (Wg T.n_len (Ha 0))) (Ha 1))) (Ln (Xh (Vg (Ub (F_has_only.mono (by decide)) hr (Ba (Fb 0) (Ba (IG T.c_FIGURES) Ua)))))))) (Ya (Vb AE)) Jc)
  (Ya (Vb (P6 (Du (Fu (Lo hr)) (Ha 0) (Fa Ia)) (Ar (Du (OQ (Lo hr)) (Fa (Qf (Ha 0) (Fa Wa))) (Fa Ia)))))))
theorem Gn:FnScope ["thing","mark","parts"] ["thing","mark"] (Da Kf):=⟨rfl,rfl,rfl,by decide +kernel,rfl,by decide +kernel,by decide +kernel⟩
theorem Pu(F:Fun K "numbers_in" "numbers_in" Kf f fd)(hm:mg "numbers_in"=some (.ref f))(T:Txt w K mg ca)(F_is_written:Fn P w K mg base 2 "is_written" 2 Hd):Fn P w K mg base 3 "numbers_in" 2 Kc:=
 Mc (k:=2) F Gn hm (F.binds (ps:= ["thing","mark"]) λ_ _ _ _ _ _=>FQ λ_ _=>rfl) λcdv A outer s H E hr=>
  (Ja (Di (Xh (Vg (Ip Qr (by decide +kernel) T.n_isinstance T.n_str (Ha 0)))) (Ya (Vb Zl)) Jc)
  (Ja (Wc 2 Gn.nd (Ac (SR (Fb 0) (Ba (Fb 1) Ua))))
  (Ja (Di (Xh (Vg (CG rfl T.n_all (Fa (Ac (Ri ["part"] ["thing","mark","parts"] (by walk_at "compok") rfl (Xm (Fb 2)) (λC fp pins s H=>⟨(Ye 0 (show Nodup (["part","thing","mark","parts"]:List Str) by decide +kernel)),Vl,(Ub (F_is_written.mono (by decide)) hr (Ba (Fb 0) (Ba (Lm T.c_MOST_FIGURES) Ua)))⟩))))))) (Ya (Vb Zl)) Jc)
  (Ya (Vb (OV T.n_tuple (Fa (Ac (Ri ["part"] ["thing","mark","parts"] (by walk_at "compok") rfl (Xm (Fb 2)) (λC fp pins s H=>⟨(Ye 0 (show Nodup (["part","thing","mark","parts"]:List Str) by decide +kernel)),Vl,(V2 T.n_int (Ha 0))⟩))))))))))
theorem Hn:FnScope ["text","rules"] ["text"] (Da Mf):=⟨rfl,rfl,rfl,by decide +kernel,rfl,by decide +kernel,by decide +kernel⟩
theorem Su(F:Fun K "read_rules" "read_rules" Mf f fd)(hm:mg "read_rules"=some (.ref f))(T:Txt w K mg ca)(F_is_rules:Fn P w K mg base 3 "is_rules" 1 Nd)(F_numbers_in:Fn P w K mg base 3 "numbers_in" 2 Kc):FnX P w K mg base 4 "read_rules" 1 Rb:=
 Zw (k:=3) F Hn hm (F.binds (ps:= ["text"]) λ_ _ _ _ _ _=>us1 λ_=>rfl) λcdv A outer s H E hr=>
  (Ja (Wq (Wc 1 Hn.nd (Ub (F_numbers_in.mono (by decide)) hr (Ba (Fb 0) (Ba Ia Ua)))))
  (Ja (Di (LB (Xh (Vg (Ub (F_is_rules.mono (by decide)) hr (Ba (Fb 1) Ua))))) (Ya (TU T.x_NoRules MI rfl (Xu (Ba Ia Ua)))) Jc)
  (Ya (Wq (Vb (Fb 1))))))
theorem DB:FnScope ["row"] ["row"] (Da Jh):=⟨rfl,rfl,rfl,by decide +kernel,rfl,by decide +kernel,by decide +kernel⟩
theorem FA(F:Fun K "rules_in" "rules_in" Jh f fd)(hm:mg "rules_in"=some (.ref f))(T:Txt w K mg ca)(F_NoRow:FnG P w K mg base 2 "NoRow" [("row",true)])(F_read_rules:FnX P w K mg base 4 "read_rules" 1 Rb):FnX P w K mg base 5 "rules_in" 1 Wb:=
 Zw (k:=4) F DB hm (F.binds (ps:= ["row"]) λ_ _ _ _ _ _=>us1 λ_=>rfl) λcdv A outer s H E hr=>
  (Ja (Di (LB (Xh (Vg (QP (Fb 0) (Ba Ia Ua))))) (Ya (Zo (F_NoRow.mono (by decide)) hr Gm rfl (Xu (Ba Wa Ua)))) Jc)
  (Ya (UU ["NoRules"] (F_read_rules.mono (by decide)) (forall_mem_cons.mpr ⟨T.m_NoRules_NoRules,forall_mem_nil _⟩) hr (Ba (OP (Ha 0) (Ti (Wg T.n_len (Fa Ia))) Kk) Ua) FZ Jc (F_NoRow.mono (by decide)) hr NI (λ_=>(Ba Wa Ua)))))
theorem HD:FnScope ["thing"] ["thing"] (Da Ki):=⟨rfl,rfl,rfl,by decide +kernel,rfl,by decide +kernel,by decide +kernel⟩
theorem UC(F:Fun K "is_name" "is_name" Ki f fd)(hm:mg "is_name"=some (.ref f))(T:Txt w K mg ca)(F_has_only:Fn P w K mg base 1 "has_only" 2 Rc):Fn P w K mg base 2 "is_name" 1 Hc:=
 Mc (k:=1) F HD hm (F.binds (ps:= ["thing"]) λ_ _ _ _ _ _=>us1 λ_=>rfl) λcdv A outer s H E hr=>
  (Ja (Di (AQ (Cu (Xh (Vg (Ip Qr (by decide +kernel) T.n_isinstance T.n_str (Ha 0)))) (Ln (U6 (Ha 0) (Fa (MV T.c_KEPT_WORDS)))))) (Ya (Vb AE)) Jc)
  (Ya (Vb (Ew (Ry Cr Cr (Fa Wa) (Fa (Wg T.n_len (Ha 0))) (Fa (Lm T.c_MOST_LETTERS))) (Ar (Ub (F_has_only.mono (by decide)) hr (Ba (Fb 0) (Ba (IG T.c_LETTERS) Ua))))))))
theorem Pm:FnScope ["words"] ["words"] (Da Ic):=⟨rfl,rfl,rfl,by decide +kernel,rfl,by decide +kernel,by decide +kernel⟩
theorem Nm(F:Fun K "are_unlike_names" "are_unlike_names" Ic f fd)(hm:mg "are_unlike_names"=some (.ref f))(T:Txt w K mg ca)(F_is_name:Fn P w K mg base 2 "is_name" 1 Hc):Fn P w K mg base 3 "are_unlike_names" 1 Tb:=
 Mc (k:=2) F Pm hm (F.binds (ps:= ["words"]) λ_ _ _ _ _ _=>us1 λ_=>rfl) λcdv A outer s H E hr=>
  (Ya (Vb (Ew (CG rfl T.n_all (Fa (Ac (Ri ["word"] ["words"] (by walk_at "compok") rfl (Xm (Fb 0)) (λC fp pins s H=>⟨(Ye 0 (show Nodup (["word","words"]:List Str) by decide +kernel)),Vl,(Ub (F_is_name.mono (by decide)) hr (Ba (Fb 0) Ua))⟩))))) (Ar (Du (Fu (Lo hr)) (Fa (TJ rfl T.n_len T.n_set (Ha 0))) (Fa (Wg T.n_len (Ha 0))))))))
theorem EB:FnScope ["words"] ["words"] (Da Kh):=⟨rfl,rfl,rfl,by decide +kernel,rfl,by decide +kernel,by decide +kernel⟩
theorem GA(F:Fun K "thing_in" "thing_in" Kh f fd)(hm:mg "thing_in"=some (.ref f))(T:Txt w K mg ca)(F_are_unlike_names:Fn P w K mg base 3 "are_unlike_names" 1 Tb)(F_is_name:Fn P w K mg base 2 "is_name" 1 Hc):Fn P w K mg base 4 "thing_in" 1 Fc:=
 Mc (k:=3) F EB hm (F.binds (ps:= ["words"]) λ_ _ _ _ _ _=>us1 λ_=>rfl) λcdv A outer s H E hr=>
  (Ja (Di (Uk (Fu (Lo hr)) (Fa (Qf (Ha 0) (Fa Wa))) (Fa Ia)) (Ya (Vb (Ea0 (AQ (M6 (Uk (Fu (Lo hr)) (Fa (Wg T.n_len (Ha 0))) (Fa Wa)) (T2 (Vg (Ub (F_is_name.mono (by decide)) hr (Ba (Qf (Ha 0) (Fa Wa)) Ua)))))) (Qf (Ha 0) (Fa Wa)) Zl))) Jc)
  (Ja (Di (AQ (Cu (C3 T.c_LINKS (Fa (Qf (Ha 0) (Fa Wa)))) (Cu (Uk E4 (Fa (Wg T.n_len (Ha 0))) (Fa Wa)) (Ln (Uk (OQ (Lo hr)) (Fa (Qf (Ha 0) (Fa Wa))) (Fa (HG T.c_LINKS (Fa (Qf (Ha 0) (Fa Wa)))))))))) (Ya (Vb Zl)) Jc)
  (Ja (Di (AQ (Cu (Xh (Vg (Ub (F_is_name.mono (by decide)) hr (Ba (Qf (Ha 0) (Fa Wa)) Ua)))) (Ln (Xh (Vg (Ub (F_are_unlike_names.mono (by decide)) hr (Ba (Ac (Fs (Ha 0) (Ti Wa) Kk)) Ua))))))) (Ya (Vb Zl)) Jc)
  (Ya (Vb (UP (Ba (Qf (Ha 0) (Fa Wa)) (Ba (Ac (Fs (Ha 0) (Ti Wa) Kk)) Ua))))))))
theorem Xc:FnScope ["text","rows","rules","things","place","row","words","thing"] ["text"] (Da Lf):=⟨rfl,rfl,rfl,by decide +kernel,rfl,by decide +kernel,by decide +kernel⟩
theorem Qu(F:Fun K "read_house" "read_house" Lf f fd)(hm:mg "read_house"=some (.ref f))(T:Txt w K mg ca)(F_House:FnI P w K mg base 3 "House" 4 4 Th)(F_NoRow:FnG P w K mg base 2 "NoRow" [("row",true)])(F_can_stand:Fn P w K mg base 1 "can_stand" 2 Ec)(F_rules_in:FnX P w K mg base 5 "rules_in" 1 Wb)(F_thing_in:Fn P w K mg base 4 "thing_in" 1 Fc):FnX P w K mg base 6 "read_house" 1 Ta:=
 Zw (k:=5) F Xc hm (F.binds (ps:= ["text"]) λ_ _ _ _ _ _=>us1 λ_=>rfl) λcdv A outer s H E hr=>
  (Ja (Di (LB (Xh (Vg (Ip Qr (by decide +kernel) T.n_isinstance T.n_str (Ha 0))))) (Ya (Zo (F_NoRow.mono (by decide)) hr Gm rfl (Xu (Ba Wa Ua)))) Jc)
  (Ja (Wq (Wc 1 Xc.nd (Ac (Iz (Fb 0) (Ba Ia Ua)))))
  (Ja (Wc 2 Xc.nd (JV (F_rules_in.mono (by decide)) JN hr (Xu (Ba (Qf (Ha 1) (Fa Wa)) Ua))))
  (Ja (Wq (T5 3 Ia Ia Ia Xc.nd))
  (Ja (UF PassesOwn.leaving rfl (V4 (GS T.n_enumerate (Ba (Ac (Fs (Ha 1) (Ti Wa) Kk)) Ua))) (AW rfl (Bx (Ye 4 Xc.nd) (Bx (Ye 5 Xc.nd) ZV))) (Ja (Wq (Wc 6 Xc.nd (Ac (Iz (Fb 5) (Ba Ia Ua)))))
  (Ja (Wq (Wc 7 Xc.nd (Ub (F_thing_in.mono (by decide)) hr (Ba (Fb 6) Ua))))
  (Ja (Di (LB (AQ (Cu (V6 (Ha 7)) (Ln (Xh (Vg (A3 3 (Ub (F_can_stand.mono (by decide)) hr (Ba (Fb 3) (Ba (Qf (Ha 6) (Fa Wa)) Ua)))))))))) (Ya (Zo (F_NoRow.mono (by decide)) hr Gm rfl (Xu (Ba (Fb 4) Ua)))) Jc)
  (Ya (Wq (U1 3 (Qf (Ha 6) (Fa Wa)) (Fb 7))))))))
  (Ja (V1 3 (Di (LB (Uk (Fu (Lo hr)) (Fa (Wg T.n_len (Fa (Bo (Kt 3) (Fa Ia))))) (Fa Wa))) (Ya (Zo (F_NoRow.mono (by decide)) hr Gm rfl (Xu (Ba (Wg T.n_len (Ha 1)) Ua)))) Jc))
  (Ya (Wq (Vb (Y2 (F_House.mono (by decide)) hr (Ba (Fb 2) (Ba (Bo (Kt 3) (Fa Ia)) (Ba (Bo (Kt 3) (Fa Ia)) (Ba (Bo (Kt 3) (Fa Ia)) Ua))))))))))))))
theorem Vf:FnScope ["_law_thing","_law_caught","e"] ["_law_thing"] (Da Wd):=⟨rfl,rfl,rfl,by decide +kernel,rfl,by decide +kernel,by decide +kernel⟩
theorem Hr(F:Fun K "_law_refused" "_law_refused" Wd f fd)(hm:mg "_law_refused"=some (.ref f))(T:Txt w K mg ca)(F_NoRow:FnG P w K mg base 2 "NoRow" [("row",true)])(F_read_house:FnX P w K mg base 6 "read_house" 1 Ta):Fn P w K mg base 7 "_law_refused" 1 Oc:=
 Mc (k:=6) F Vf hm (F.binds (ps:= ["_law_thing"]) λ_ _ _ _ _ _=>us1 λ_=>rfl) λcdv A outer s H E hr=>
  (Ja (Wc 1 Vf.nd Zl)
  (Ja (VU 2 ["NoRow"] (F_read_house.mono (by decide)) (forall_mem_cons.mpr ⟨T.m_SmithError_NoRow,forall_mem_nil _⟩) Vf.nd hr (Ba (Fb 0) Ua) QS Jc (λ_=>(Ya (Wc 1 Vf.nd (Fb 2)))))
  (Ja (Di (AQ (Cu (Xh (Vg (JG T.i_0 T.n_isinstance (Ha 1) (Kd T.v_NoRow)))) (Ln (Xh (Vg (JG T.i_1 T.n_isinstance (Ha 1) (Kd T.v_ValueError))))))) (Ya (Vb Zl)) Jc)
  (Ja (Di (Vg (NP T.i_2 T.n_isinstance (Ha 1) (Uc (Kd T.v_NoBarrel) (Uc (Kd T.v_NoCuts) (Uc (Kd T.v_NoDeed) (Uc (Kd T.v_NoPlan) (Uc (Kd T.v_NoRules) (Uc (Kd T.v_NoSay) (Uc (Kd T.v_NoSuch) (Uc (Kd T.v_NoThing) (Uc (Kd T.v_NoTower) JK))))))))))) (Ya (Vb Zl)) Jc)
  (Ja (Di (Vg (NP T.i_3 T.n_isinstance (Ha 1) (Uc (Kd T.v_Ring) (Uc (Kd T.v_Shallow) (Uc (Kd T.v_Shared) (Uc (Kd T.v_Steep) (Uc (Kd T.v_TooFlat) (Uc (Kd T.v_TooHigh) (Uc (Kd T.v_TooNarrow) (Uc (Kd T.v_Twice) (Uc (Kd T.v_Unknown) (Uc (Kd T.v_Wrong) JK)))))))))))) (Ya (Vb Zl)) Jc)
  (Ja (Di (AQ (Cu (Xh (Vg (Ip AF (by decide +kernel) T.n_isinstance T.n_int (Fa (MP T.f_row (Fb 1)))))) (Ln (Vg (Ip Rz (by decide +kernel) T.n_isinstance T.n_bool (Fa (MP T.f_row (Fb 1)))))))) (Ya (Vb Zl)) Jc)
  (Ya (Vb (MP T.f_row (Fb 1))))))))))
theorem Qt:FnScope ["rules"] ["rules"] (Da Pe):=⟨rfl,rfl,rfl,by decide +kernel,rfl,by decide +kernel,by decide +kernel⟩
theorem Ct(F:Fun K "shown_rules" "shown_rules" Pe f fd)(hm:mg "shown_rules"=some (.ref f))(T:Txt w K mg ca)  :Fn P w K mg base 1 "shown_rules" 1 Ke:=
 Mc (k:=0) F Qt hm (F.binds (ps:= ["rules"]) λ_ _ _ _ _ _=>us1 λ_=>rfl) λcdv A outer s H E hr=>
  (Ya (Vb (Iq Ia (Ba (Ac (Ri ["number"] ["rules"] (by walk_at "compok") rfl (Xm (Fb 0)) (λC fp pins s H=>⟨(Ye 0 (show Nodup (["number","rules"]:List Str) by decide +kernel)),Vl,(NV hr T.n_str (Ha 0))⟩))) Ua))))
theorem Rt:FnScope ["kind","thing"] ["kind","thing"] (Da Qe):=⟨rfl,rfl,rfl,by decide +kernel,rfl,by decide +kernel,by decide +kernel⟩
theorem Dt(F:Fun K "shown_thing" "shown_thing" Qe f fd)(hm:mg "shown_thing"=some (.ref f))(T:Txt w K mg ca)  :Fn P w K mg base 1 "shown_thing" 2 Lc:=
 Mc (k:=0) F Rt hm (F.binds (ps:= ["kind","thing"]) λ_ _ _ _ _ _=>FQ λ_ _=>rfl) λcdv A outer s H E hr=>
  (Ya (Vb (Iq Ia (Ba (Ac (Sh (Fa (Ac (Te (Ba (Fb 0) (Ba (Qf (Ha 1) (Fa Wa)) (Ba (HG T.c_LINKS (Ha 0)) Ua)))))) (Fa (Qf (Ha 1) (Fa Wa))))) Ua))))
theorem Sl:FnScope ["house","rows"] ["house"] (Da Oe):=⟨rfl,rfl,rfl,by decide +kernel,rfl,by decide +kernel,by decide +kernel⟩
theorem Bt(F:Fun K "shown_house" "shown_house" Oe f fd)(hm:mg "shown_house"=some (.ref f))(T:Txt w K mg ca)(F_shown_rules:Fn P w K mg base 1 "shown_rules" 1 Ke)(F_shown_thing:Fn P w K mg base 1 "shown_thing" 2 Lc):Fn P w K mg base 2 "shown_house" 1 Od:=
 Mc (k:=1) F Sl hm (F.binds (ps:= ["house"]) λ_ _ _ _ _ _=>us1 λ_=>rfl) λcdv A outer s H E hr=>
  (Ja (Wh 1 Sl.nd (Te (Ba (Za (Fa Ia) (Fa (Ub (F_shown_rules.mono (by decide)) hr (Ba (EG T.o_House_rules (Fb 0)) Ua)))) Ua)))
  (Ja (JO 1 (Ri ["door"] ["house","rows"] (by walk_at "compok") rfl (Xm (EG T.o_House_doors (Fb 0))) (λC fp pins s H=>⟨(Ye 0 (show Nodup (["door","house","rows"]:List Str) by decide +kernel)),Vl,(Za (Fa Ia) (Ha 0))⟩)))
  (Ja (JO 1 (Ri ["wing"] ["house","rows"] (by walk_at "compok") rfl (Xm (EG T.o_House_wings (Fb 0))) (λC fp pins s H=>⟨(Ye 0 (show Nodup (["wing","house","rows"]:List Str) by decide +kernel)),Vl,(Ub (F_shown_thing.mono (by decide)) hr (Ba Ia (Ba (Fb 0) Ua)))⟩)))
  (Ja (JO 1 (Ri ["grant"] ["house","rows"] (by walk_at "compok") rfl (Xm (EG T.o_House_grants (Fb 0))) (λC fp pins s H=>⟨(Ye 0 (show Nodup (["grant","house","rows"]:List Str) by decide +kernel)),Vl,(Ub (F_shown_thing.mono (by decide)) hr (Ba Ia (Ba (Fb 0) Ua)))⟩)))
  (Ya (GD 1 (Vb (Iq Ia (Ba (Fb 1) Ua)))))))))
theorem De:FnScope ["_law_script","_law_cell","_law_names_here","_law_rows","_law_k","_law_text","_law_place","_law_spoilt","_law_thing","_law_way","_law_told"] ["_law_script"] (Da Yo):=⟨rfl,rfl,rfl,by decide +kernel,rfl,by decide +kernel,by decide +kernel⟩
theorem TZ(F:Fun K "law" "law" Yo f fd)(T:Txt w K mg ca)(F__law_cell_at:Fn P w K mg base 1 "_law_cell_at" 2 Hb)(F__law_mixed:Fn P w K mg base 1 "_law_mixed" 2 Be)(F__law_names:Fn P w K mg base 2 "_law_names" 2 Fd)(F__law_no_rules:Fn P w K mg base 1 "_law_no_rules" 1 Qc)(F__law_none:Fn P w K mg base 1 "_law_none" 2 Bf)(F__law_refused:Fn P w K mg base 7 "_law_refused" 1 Oc)(F_read_house:FnX P w K mg base 6 "read_house" 1 Ta)(F_shown_house:Fn P w K mg base 2 "shown_house" 1 Od):FnOk P w K mg base Co 8 f fd ["_law_script"] (K2 K 1 RM):=
 KY (k:=7) F De λcdv A outer s H E hr=>
  (Ja (Wc 1 De.nd (Ub (F__law_cell_at.mono (by decide)) hr (Ba (Fb 0) (Ba Wa Ua))))
  (Ja (Wc 2 De.nd (Ub (F__law_names.mono (by decide)) hr (Ba (Ub (F__law_mixed.mono (by decide)) hr (Ba (Fb 1) (Ba Wa Ua))) (Ba Wa Ua))))
  (Ja (Wh 3 De.nd (Te (Ba Ia Ua)))
  (Ja (UF PassesOwn.never rfl (Js T.n_range (Ba (Za (Fa (Wg T.n_len (Fa (Ac (Fs (Ha 0) (Ti Wa) (Ti Wa)))))) (Fa Wa)) Ua)) (Ye 4 De.nd) (Ya (Ql 3 (Za (Fa Ia) (Fa (Qf (Ha 2) (Ha 4)))))))
  (Ja (Wh 3 De.nd (Sh (Ha 3) (Fa (Ac (Te (Ba Ia (Ba (Za (Fa (Za (Fa (Za (Fa Ia) (Fa (Qf (Ha 2) (Fa Wa))))) (Fa Ia))) (Fa (Qf (Ha 2) (Fa Wa)))) (Ba (Za (Fa Ia) (Fa (Qf (Ha 2) (Fa Wa)))) Ua))))))))
  (Ja (Wh 3 De.nd (Sh (Ha 3) (Fa (Ac (Te (Ba (Za (Fa (Za (Fa (Za (Fa Ia) (Fa (Qf (Ha 2) (Fa Wa))))) (Fa Ia))) (Fa (Qf (Ha 2) (Fa Wa)))) (Ba Ia Ua)))))))
  (Ja (GD 3 (Wc 5 De.nd (Iq Ia (Ba (Fb 3) Ua))))
  (Ja (Wc 6 De.nd (Za (Fa Wa) (Fa (Xi (Fa (Ub (F__law_cell_at.mono (by decide)) hr (Ba (Fb 0) (Ba Wa Ua)))) (Fa (Wg T.n_len (Ha 3)))))))
  (Ja (Wc 7 De.nd (Ac (Sh (Fa (Ac (Sh (Fa (Ac (Fs (Ha 3) Kk (Ti (Fb 6))))) (Fa (Ac (Te (Ba (Ub (F__law_none.mono (by decide)) hr (Ba (Qf (Ha 2) (Fa Wa)) (Ba (Ub (F__law_cell_at.mono (by decide)) hr (Ba (Fb 0) (Ba Wa Ua))) Ua))) Ua))))))) (Fa (Ac (Fs (Ha 3) (Ti (Fb 6)) Kk))))))
  (Ja (Wc 8 De.nd (Iq Ia (Ba (Fb 7) Ua)))
  (Ja (Wc 9 De.nd (Xi (Ha 1) (Fa Wa)))
  (Ja (Di (Uk (Fu (Lo hr)) (Ha 9) (Fa Wa)) (Ja (Wc 6 De.nd Wa)
  (Ya (Wc 8 De.nd (Iq Ia (Ba (Ac (Sh (Fa (Ac (Te (Ba (Ub (F__law_no_rules.mono (by decide)) hr (Ba (Ub (F__law_cell_at.mono (by decide)) hr (Ba (Fb 0) (Ba Wa Ua))) Ua)) Ua)))) (Fa (Ac (Fs (Ha 3) (Ti Wa) Kk))))) Ua))))) Jc)
  (Ja (Di (Uk (Fu (Lo hr)) (Ha 9) (Fa Wa)) (Ja (Wc 6 De.nd (Wg T.n_len (Ha 3)))
  (Ya (Wc 8 De.nd (Za (Ha 5) (Fa Ia))))) Jc)
  (Ja (Di (Uk (Fu (Lo hr)) (Ha 9) (Fa Wa)) (Ja (Wc 6 De.nd Wa)
  (Ya (GD 3 (Wc 8 De.nd (Qf (Fa (Ac (Te (Ba Wa (Ba Zl (Ba AE (Ba (Fb 3) (Ba (UP (Ba Ia (Ba Ia Ua))) Ua)))))))) (Fa (Xi (Fa (Ub (F__law_cell_at.mono (by decide)) hr (Ba (Fb 0) (Ba Wa Ua)))) (Fa Wa)))))))) Jc)
  (Ja (Di (Uk (OQ (Lo hr)) (Fa (Ub (F__law_refused.mono (by decide)) hr (Ba (Fb 8) Ua))) (Ha 6)) (Ya (Vb AE)) Jc)
  (Ja (Wc 10 De.nd (Ub (F_shown_house.mono (by decide)) hr (Ba (IV (F_read_house.mono (by decide)) hr (Ba (Fb 5) Ua)) Ua)))
  (Ya (Vb (Ew (Ip Qr (by decide +kernel) T.n_isinstance T.n_str (Ha 10)) (Ar (Du (Fu (Lo hr)) (Ha 10) (Ha 5))))))))))))))))))))))
end
variable{l:PySem.W.OpenLaw}
theorem all_mk{h:Heap}{fa:Addr}(X:K.In h)(G:h.Ns mainGlobals mg)(hfa:mg "law"=some (.ref fa)){f0:Addr}{od0 an0:Option Addr}{sl0:Array (Option Value)}{oc0 kV0 dc0 pm0 cd0 ct0:Value}{f1:Addr}{od1 an1:Option Addr}{sl1:Array (Option Value)}{oc1 kV1 dc1 pm1 cd1 ct1:Value}{f2:Addr}{od2 an2:Option Addr}{sl2:Array (Option Value)}{oc2 kV2 dc2 pm2 cd2 ct2:Value}{f3:Addr}{od3 an3:Option Addr}{sl3:Array (Option Value)}{oc3 kV3 dc3 pm3 cd3 ct3:Value}{f4:Addr}{od4 an4:Option Addr}{sl4:Array (Option Value)}{oc4 kV4 dc4 pm4 cd4 ct4:Value}{f5:Addr}{od5 an5:Option Addr}{sl5:Array (Option Value)}{oc5 kV5 dc5 pm5 cd5 ct5:Value}{f6:Addr}{od6 an6:Option Addr}{sl6:Array (Option Value)}{oc6 kV6 dc6 pm6 cd6 ct6:Value}{f7:Addr}{od7 an7:Option Addr}{sl7:Array (Option Value)}{oc7 kV7 dc7 pm7 cd7 ct7:Value}{f8:Addr}{od8 an8:Option Addr}{sl8:Array (Option Value)}{oc8 kV8 dc8 pm8 cd8 ct8:Value}{C8:Addr}{f9:Addr}{od9 an9:Option Addr}{sl9:Array (Option Value)}{oc9 kV9 dc9 pm9 cd9 ct9:Value}{C9 S9 xN9:Addr}{xm9 xq9:Str}{xb9 xe9 xs9:List Value}{xh9 xa9:Bool}{xn9:List Str}{xo9:Option Bool}{xd9:Option Addr}{x0_9 x1_9 x2_9 x3_9 x5_9:Option Value}{xc9:ClassData}{f10:Addr}{od10 an10:Option Addr}{sl10:Array (Option Value)}{oc10 kV10 dc10 pm10 cd10 ct10:Value}{f11:Addr}{od11 an11:Option Addr}{sl11:Array (Option Value)}{oc11 kV11 dc11 pm11 cd11 ct11:Value}{f12:Addr}{od12 an12:Option Addr}{sl12:Array (Option Value)}{oc12 kV12 dc12 pm12 cd12 ct12:Value}{f13:Addr}{od13 an13:Option Addr}{sl13:Array (Option Value)}{oc13 kV13 dc13 pm13 cd13 ct13:Value}{f14:Addr}{od14 an14:Option Addr}{sl14:Array (Option Value)}{oc14 kV14 dc14 pm14 cd14 ct14:Value}{f15:Addr}{od15 an15:Option Addr}{sl15:Array (Option Value)}{oc15 kV15 dc15 pm15 cd15 ct15:Value}{f16:Addr}{od16 an16:Option Addr}{sl16:Array (Option Value)}{oc16 kV16 dc16 pm16 cd16 ct16:Value}{f17:Addr}{od17 an17:Option Addr}{sl17:Array (Option Value)}{oc17 kV17 dc17 pm17 cd17 ct17:Value}{f18:Addr}{od18 an18:Option Addr}{sl18:Array (Option Value)}{oc18 kV18 dc18 pm18 cd18 ct18:Value}{f19:Addr}{od19 an19:Option Addr}{sl19:Array (Option Value)}{oc19 kV19 dc19 pm19 cd19 ct19:Value}{f20:Addr}{od20 an20:Option Addr}{sl20:Array (Option Value)}{oc20 kV20 dc20 pm20 cd20 ct20:Value}{f21:Addr}{od21 an21:Option Addr}{sl21:Array (Option Value)}{oc21 kV21 dc21 pm21 cd21 ct21:Value}{f22:Addr}{od22 an22:Option Addr}{sl22:Array (Option Value)}{oc22 kV22 dc22 pm22 cd22 ct22:Value}{f23:Addr}{od23 an23:Option Addr}{sl23:Array (Option Value)}{oc23 kV23 dc23 pm23 cd23 ct23:Value}{f24:Addr}{od24 an24:Option Addr}{sl24:Array (Option Value)}{oc24 kV24 dc24 pm24 cd24 ct24:Value}{f25:Addr}{od25 an25:Option Addr}{sl25:Array (Option Value)}{oc25 kV25 dc25 pm25 cd25 ct25:Value}{f26:Addr}{od26 an26:Option Addr}{sl26:Array (Option Value)}{oc26 kV26 dc26 pm26 cd26 ct26:Value}{f27:Addr}{od27 an27:Option Addr}{sl27:Array (Option Value)}{oc27 kV27 dc27 pm27 cd27 ct27:Value}{f28:Addr}{od28 an28:Option Addr}{sl28:Array (Option Value)}{oc28 kV28 dc28 pm28 cd28 ct28:Value}{f29:Addr}{od29 an29:Option Addr}{sl29:Array (Option Value)}{oc29 kV29 dc29 pm29 cd29 ct29:Value}{f30:Addr}{od30 an30:Option Addr}{sl30:Array (Option Value)}{oc30 kV30 dc30 pm30 cd30 ct30:Value}{f31:Addr}{od31 an31:Option Addr}{sl31:Array (Option Value)}{oc31 kV31 dc31 pm31 cd31 ct31:Value}{t0:Tok}{u1:Addr}{ud1:Option Addr}{ui1:Array Value}{un1:Nat}{us1:Array (Option Value)}{u2:Addr}{un2:Nat}{uh2_0:Int}{ut2_0:Tok}{uc2_0:Addr}{ud2_0:Option Addr}{ui2_0:Array Value}{um2_0:Nat}{us2_0:Array (Option Value)}{uh2_1:Int}{ut2_1:Tok}{uc2_1:Addr}{ud2_1:Option Addr}{ui2_1:Array Value}{um2_1:Nat}{us2_1:Array (Option Value)}{uh2_2:Int}{ut2_2:Tok}{uc2_2:Addr}{ud2_2:Option Addr}{ui2_2:Array Value}{um2_2:Nat}{us2_2:Array (Option Value)}{t3:Tok}{t4:Tok}{u5:Addr}{un5:Nat}{uh5_0:Int}{ut5_0 uv5_0:Tok}{uh5_1:Int}{ut5_1 uv5_1:Tok}{t6:Tok}{t7:Tok}{t8:Tok}{t9:Tok}{t10:Tok}{ck0:Addr}{ck1:Addr}{ck2:Addr}{ck4:Addr}{ck5:Addr}{ck6:Addr}{ck7:Addr}{ck8:Addr}{ck9:Addr}{ck10:Addr}{ck11:Addr}{ck12:Addr}{ck13:Addr}{ck14:Addr}{ck15:Addr}{ck16:Addr}{ck17:Addr}{ck18:Addr}{ck19:Addr}{ck20:Addr}{ck21:Addr}(a0:nsIn K mainGlobals "_law_cell_at"=some (some (.ref f0)))(l0:K.lookup f0=some ⟨oc0,od0,.func (fnOf "_law_cell_at" "_law_cell_at" (Jb Vd) (Xa Vd) (Da Vd) .none kV0 dc0 pm0 an0 cd0 ct0),sl0⟩)(c0:codeIn K cd0 "_law_cell_at"=true)(k0:keepIn K (.ref f0)=true)(a1:nsIn K mainGlobals "_law_mixed"=some (some (.ref f1)))(l1:K.lookup f1=some ⟨oc1,od1,.func (fnOf "_law_mixed" "_law_mixed" (Jb Ff) (Xa Ff) (Da Ff) .none kV1 dc1 pm1 an1 cd1 ct1),sl1⟩)(c1:codeIn K cd1 "_law_mixed"=true)(k1:keepIn K (.ref f1)=true)(a2:nsIn K mainGlobals "_law_name"=some (some (.ref f2)))(l2:K.lookup f2=some ⟨oc2,od2,.func (fnOf "_law_name" "_law_name" (Jb Ag) (Xa Ag) (Da Ag) .none kV2 dc2 pm2 an2 cd2 ct2),sl2⟩)(c2:codeIn K cd2 "_law_name"=true)(k2:keepIn K (.ref f2)=true)(a3:nsIn K mainGlobals "_law_open"=some (some (.ref f3)))(l3:K.lookup f3=some ⟨oc3,od3,.func (fnOf "_law_open" "_law_open" (Jb Cg) (Xa Cg) (Da Cg) .none kV3 dc3 pm3 an3 cd3 ct3),sl3⟩)(c3:codeIn K cd3 "_law_open"=true)(k3:keepIn K (.ref f3)=true)(a4:nsIn K mainGlobals "_law_names"=some (some (.ref f4)))(l4:K.lookup f4=some ⟨oc4,od4,.func (fnOf "_law_names" "_law_names" (Jb Gf) (Xa Gf) (Da Gf) .none kV4 dc4 pm4 an4 cd4 ct4),sl4⟩)(c4:codeIn K cd4 "_law_names"=true)(k4:keepIn K (.ref f4)=true)(a5:nsIn K mainGlobals "_law_no_rules"=some (some (.ref f5)))(l5:K.lookup f5=some ⟨oc5,od5,.func (fnOf "_law_no_rules" "_law_no_rules" (Jb Cd) (Xa Cd) (Da Cd) .none kV5 dc5 pm5 an5 cd5 ct5),sl5⟩)(c5:codeIn K cd5 "_law_no_rules"=true)(k5:keepIn K (.ref f5)=true)(a6:nsIn K mainGlobals "_law_none"=some (some (.ref f6)))(l6:K.lookup f6=some ⟨oc6,od6,.func (fnOf "_law_none" "_law_none" (Jb Bg) (Xa Bg) (Da Bg) .none kV6 dc6 pm6 an6 cd6 ct6),sl6⟩)(c6:codeIn K cd6 "_law_none"=true)(k6:keepIn K (.ref f6)=true)(a7:nsIn K mainGlobals "copied"=some (some (.ref f7)))(l7:K.lookup f7=some ⟨oc7,od7,.func (fnOf "copied" "copied" (Jb Yj) (Xa Yj) (Da Yj) .none kV7 dc7 pm7 an7 cd7 ct7),sl7⟩)(c7:codeIn K cd7 "copied"=true)(k7:keepIn K (.ref f7)=true)(aC8:nsIn K mainGlobals "House"=some (some (.ref C8)))(a8:findIn K (.ref C8) "__init__"=some (some (.ref f8)))(i8:isFn K (.ref f8)=true)(l8:K.lookup f8=some ⟨oc8,od8,.func (fnOf "__init__" "House.__init__" (Jb Hm) (Xa Hm) (Da Hm) .none kV8 dc8 pm8 an8 cd8 ct8),sl8⟩)(c8:codeIn K cd8 "House.__init__"=true)(k8:keepIn K (.ref f8)=true)(pg8:plainGet K C8 Str.empty=true)(hd8:hasDictIn K C8=true)(po8:plainOver K C8=true)(sa8:findIn K (.ref C8) "__setattr__"=some (some (.builtin "object.__setattr__")))(mk8:makesIn K C8=true)(kc8:keepIn K (.ref C8)=true)(n8_rules:findIn K (.ref C8) "rules"=some none)(n8_doors:findIn K (.ref C8) "doors"=some none)(n8_wings:findIn K (.ref C8) "wings"=some none)(n8_grants:findIn K (.ref C8) "grants"=some none)(aC9:nsIn K mainGlobals "NoRow"=some (some (.ref C9)))(aS9:nsIn K mainGlobals "SmithError"=some (some (.ref S9)))(ex9:K.lookup C9=some (excClassObj xm9 xq9 C9 xN9 xb9 xe9 xh9 xn9 xs9 xa9 xo9 xd9 x0_9 x1_9 x2_9 x3_9 x5_9 "ValueError.__new__"))(eo9:PySem.W.nsOkIn K xN9=true)(ei9:nsIn K xN9 "__init__"=some (some (.ref f9)))(et9:PySem.W.tailIn K IP xe9=true)(ef9:typeIn K (.ref f9)=some (.type "function"))(kc9:keepIn K (.ref C9)=true)(sa9:findIn K (.ref C9) "__setattr__"=some (some (.builtin "object.__setattr__")))(em9:mroIn K C9 (.type "object")=some true)(el9:PySem.W.clsIn K C9=some xc9)(ev9:Wv 2 xc9.mro=true)(eh9:xc9.hasDict=true)(eg9:specialIn K (.ref S9) "__getattribute__"=some (some (.builtin "type.__getattribute__")))(er9:PySem.W.readsIn K S9 (.type "type")=true)(eb9:PySem.W.findCls K (.ref S9) (.type "type") "__init__"=some (.val (.builtin "ValueError.__init__")))(en9_row:findIn K (.ref C9) "row"=some none)(l9:K.lookup f9=some ⟨oc9,od9,.func (fnOf "__init__" "NoRow.__init__" (Jb Im) (Xa Im) (Da Im) .none kV9 dc9 pm9 an9 cd9 ct9),sl9⟩)(c9:codeIn K cd9 "NoRow.__init__"=true)(k9:keepIn K (.ref f9)=true)(xa9:findIn K (.ref C9) "__getattribute__"=some (some (.builtin "BaseException.__getattribute__")))(xb9:findIn K (.ref C9) "__getattr__"=some none)(xc9:findIn K (.ref C9) "__class__"=some (some (.builtin "object.__class__")))(xd9:mroIn K C9 (.type "BaseException")=some true)(xf9:hasDictIn K C9=true)(a10:nsIn K mainGlobals "can_stand"=some (some (.ref f10)))(l10:K.lookup f10=some ⟨oc10,od10,.func (fnOf "can_stand" "can_stand" (Jb Dg) (Xa Dg) (Da Dg) .none kV10 dc10 pm10 an10 cd10 ct10),sl10⟩)(c10:codeIn K cd10 "can_stand"=true)(k10:keepIn K (.ref f10)=true)(a11:nsIn K mainGlobals "depths_of"=some (some (.ref f11)))(l11:K.lookup f11=some ⟨oc11,od11,.func (fnOf "depths_of" "depths_of" (Jb Eg) (Xa Eg) (Da Eg) .none kV11 dc11 pm11 an11 cd11 ct11),sl11⟩)(c11:codeIn K cd11 "depths_of"=true)(k11:keepIn K (.ref f11)=true)(a12:nsIn K mainGlobals "heights_of"=some (some (.ref f12)))(l12:K.lookup f12=some ⟨oc12,od12,.func (fnOf "heights_of" "heights_of" (Jb Hf) (Xa Hf) (Da Hf) .none kV12 dc12 pm12 an12 cd12 ct12),sl12⟩)(c12:codeIn K cd12 "heights_of"=true)(k12:keepIn K (.ref f12)=true)(a13:nsIn K mainGlobals "places_of"=some (some (.ref f13)))(l13:K.lookup f13=some ⟨oc13,od13,.func (fnOf "places_of" "places_of" (Jb Fg) (Xa Fg) (Da Fg) .none kV13 dc13 pm13 an13 cd13 ct13),sl13⟩)(c13:codeIn K cd13 "places_of"=true)(k13:keepIn K (.ref f13)=true)(a14:nsIn K mainGlobals "step_of"=some (some (.ref f14)))(l14:K.lookup f14=some ⟨oc14,od14,.func (fnOf "step_of" "step_of" (Jb Li) (Xa Li) (Da Li) .none kV14 dc14 pm14 an14 cd14 ct14),sl14⟩)(c14:codeIn K cd14 "step_of"=true)(k14:keepIn K (.ref f14)=true)(a15:nsIn K mainGlobals "are_bounded"=some (some (.ref f15)))(l15:K.lookup f15=some ⟨oc15,od15,.func (fnOf "are_bounded" "are_bounded" (Jb Me) (Xa Me) (Da Me) .none kV15 dc15 pm15 an15 cd15 ct15),sl15⟩)(c15:codeIn K cd15 "are_bounded"=true)(k15:keepIn K (.ref f15)=true)(a16:nsIn K mainGlobals "is_whole"=some (some (.ref f16)))(l16:K.lookup f16=some ⟨oc16,od16,.func (fnOf "is_whole" "is_whole" (Jb Ih) (Xa Ih) (Da Ih) .none kV16 dc16 pm16 an16 cd16 ct16),sl16⟩)(c16:codeIn K cd16 "is_whole"=true)(k16:keepIn K (.ref f16)=true)(a17:nsIn K mainGlobals "is_rules"=some (some (.ref f17)))(l17:K.lookup f17=some ⟨oc17,od17,.func (fnOf "is_rules" "is_rules" (Jb Hh) (Xa Hh) (Da Hh) .none kV17 dc17 pm17 an17 cd17 ct17),sl17⟩)(c17:codeIn K cd17 "is_rules"=true)(k17:keepIn K (.ref f17)=true)(a18:nsIn K mainGlobals "has_only"=some (some (.ref f18)))(l18:K.lookup f18=some ⟨oc18,od18,.func (fnOf "has_only" "has_only" (Jb Gh) (Xa Gh) (Da Gh) .none kV18 dc18 pm18 an18 cd18 ct18),sl18⟩)(c18:codeIn K cd18 "has_only"=true)(k18:keepIn K (.ref f18)=true)(a19:nsIn K mainGlobals "is_written"=some (some (.ref f19)))(l19:K.lookup f19=some ⟨oc19,od19,.func (fnOf "is_written" "is_written" (Jb Jf) (Xa Jf) (Da Jf) .none kV19 dc19 pm19 an19 cd19 ct19),sl19⟩)(c19:codeIn K cd19 "is_written"=true)(k19:keepIn K (.ref f19)=true)(a20:nsIn K mainGlobals "numbers_in"=some (some (.ref f20)))(l20:K.lookup f20=some ⟨oc20,od20,.func (fnOf "numbers_in" "numbers_in" (Jb Kf) (Xa Kf) (Da Kf) .none kV20 dc20 pm20 an20 cd20 ct20),sl20⟩)(c20:codeIn K cd20 "numbers_in"=true)(k20:keepIn K (.ref f20)=true)(a21:nsIn K mainGlobals "read_rules"=some (some (.ref f21)))(l21:K.lookup f21=some ⟨oc21,od21,.func (fnOf "read_rules" "read_rules" (Jb Mf) (Xa Mf) (Da Mf) .none kV21 dc21 pm21 an21 cd21 ct21),sl21⟩)(c21:codeIn K cd21 "read_rules"=true)(k21:keepIn K (.ref f21)=true)(a22:nsIn K mainGlobals "rules_in"=some (some (.ref f22)))(l22:K.lookup f22=some ⟨oc22,od22,.func (fnOf "rules_in" "rules_in" (Jb Jh) (Xa Jh) (Da Jh) .none kV22 dc22 pm22 an22 cd22 ct22),sl22⟩)(c22:codeIn K cd22 "rules_in"=true)(k22:keepIn K (.ref f22)=true)(a23:nsIn K mainGlobals "is_name"=some (some (.ref f23)))(l23:K.lookup f23=some ⟨oc23,od23,.func (fnOf "is_name" "is_name" (Jb Ki) (Xa Ki) (Da Ki) .none kV23 dc23 pm23 an23 cd23 ct23),sl23⟩)(c23:codeIn K cd23 "is_name"=true)(k23:keepIn K (.ref f23)=true)(a24:nsIn K mainGlobals "are_unlike_names"=some (some (.ref f24)))(l24:K.lookup f24=some ⟨oc24,od24,.func (fnOf "are_unlike_names" "are_unlike_names" (Jb Ic) (Xa Ic) (Da Ic) .none kV24 dc24 pm24 an24 cd24 ct24),sl24⟩)(c24:codeIn K cd24 "are_unlike_names"=true)(k24:keepIn K (.ref f24)=true)(a25:nsIn K mainGlobals "thing_in"=some (some (.ref f25)))(l25:K.lookup f25=some ⟨oc25,od25,.func (fnOf "thing_in" "thing_in" (Jb Kh) (Xa Kh) (Da Kh) .none kV25 dc25 pm25 an25 cd25 ct25),sl25⟩)(c25:codeIn K cd25 "thing_in"=true)(k25:keepIn K (.ref f25)=true)(a26:nsIn K mainGlobals "read_house"=some (some (.ref f26)))(l26:K.lookup f26=some ⟨oc26,od26,.func (fnOf "read_house" "read_house" (Jb Lf) (Xa Lf) (Da Lf) .none kV26 dc26 pm26 an26 cd26 ct26),sl26⟩)(c26:codeIn K cd26 "read_house"=true)(k26:keepIn K (.ref f26)=true)(a27:nsIn K mainGlobals "_law_refused"=some (some (.ref f27)))(l27:K.lookup f27=some ⟨oc27,od27,.func (fnOf "_law_refused" "_law_refused" (Jb Wd) (Xa Wd) (Da Wd) .none kV27 dc27 pm27 an27 cd27 ct27),sl27⟩)(c27:codeIn K cd27 "_law_refused"=true)(k27:keepIn K (.ref f27)=true)(a28:nsIn K mainGlobals "shown_rules"=some (some (.ref f28)))(l28:K.lookup f28=some ⟨oc28,od28,.func (fnOf "shown_rules" "shown_rules" (Jb Pe) (Xa Pe) (Da Pe) .none kV28 dc28 pm28 an28 cd28 ct28),sl28⟩)(c28:codeIn K cd28 "shown_rules"=true)(k28:keepIn K (.ref f28)=true)(a29:nsIn K mainGlobals "shown_thing"=some (some (.ref f29)))(l29:K.lookup f29=some ⟨oc29,od29,.func (fnOf "shown_thing" "shown_thing" (Jb Qe) (Xa Qe) (Da Qe) .none kV29 dc29 pm29 an29 cd29 ct29),sl29⟩)(c29:codeIn K cd29 "shown_thing"=true)(k29:keepIn K (.ref f29)=true)(a30:nsIn K mainGlobals "shown_house"=some (some (.ref f30)))(l30:K.lookup f30=some ⟨oc30,od30,.func (fnOf "shown_house" "shown_house" (Jb Oe) (Xa Oe) (Da Oe) .none kV30 dc30 pm30 an30 cd30 ct30),sl30⟩)(c30:codeIn K cd30 "shown_house"=true)(k30:keepIn K (.ref f30)=true)(a31:nsIn K mainGlobals "law"=some (some (.ref f31)))(l31:K.lookup f31=some ⟨oc31,od31,.func (fnOf "law" "law" (Jb Yo) (Xa Yo) (Da Yo) .none kV31 dc31 pm31 an31 cd31 ct31),sl31⟩)(c31:codeIn K cd31 "law"=true)(k31:keepIn K (.ref f31)=true)(z0:nsIn K mainGlobals "ValueError"=some none)(z1:nsIn K mainGlobals "all"=some none)(z2:nsIn K mainGlobals "any"=some none)(z3:nsIn K mainGlobals "bool"=some none)(z4:nsIn K mainGlobals "enumerate"=some none)(z5:nsIn K mainGlobals "int"=some none)(z6:nsIn K mainGlobals "isinstance"=some none)(z7:nsIn K mainGlobals "len"=some none)(z8:nsIn K mainGlobals "list"=some none)(z9:nsIn K mainGlobals "range"=some none)(z10:nsIn K mainGlobals "set"=some none)(z11:nsIn K mainGlobals "str"=some none)(z12:nsIn K mainGlobals "tuple"=some none)(y0:nsIn K mainGlobals "FIGURES"=some (some (.str "0123456789" t0)))(y1:nsIn K mainGlobals "KEPT_WORDS"=some (some (.ref u1)))(w1:K.lookup u1=some ⟨.type "tuple",ud1,.seq ui1 un1,us1⟩)(v1:Vals ((["door","key","opens","rules","wing"]:List Str).map V.str) ui1.toList)(y2:nsIn K mainGlobals "LATER_KINDS"=some (some (.ref u2)))(w2:K.lookup u2=some ⟨.type "dict",none,.dict #[⟨uh2_0,.str "door" ut2_0,.ref uc2_0⟩,⟨uh2_1,.str "wing" ut2_1,.ref uc2_1⟩,⟨uh2_2,.str "key" ut2_2,.ref uc2_2⟩] un2,#[]⟩)(s2:(u2==sysModules)=false)(h2_0:uh2_0=hashStr w "door")(w2_0:K.lookup uc2_0=some ⟨.type "tuple",ud2_0,.seq ui2_0 um2_0,us2_0⟩)(v2_0:Vals ((["wing","key"]:List Str).map V.str) ui2_0.toList)(h2_1:uh2_1=hashStr w "wing")(w2_1:K.lookup uc2_1=some ⟨.type "tuple",ud2_1,.seq ui2_1 um2_1,us2_1⟩)(v2_1:Vals ((["key"]:List Str).map V.str) ui2_1.toList)(h2_2:uh2_2=hashStr w "key")(w2_2:K.lookup uc2_2=some ⟨.type "tuple",ud2_2,.seq ui2_2 um2_2,us2_2⟩)(v2_2:Vals (([]:List Str).map V.str) ui2_2.toList)(y3:nsIn K mainGlobals "LEAST_DEPTHS"=some (some (.int 2 t3)))(y4:nsIn K mainGlobals "LETTERS"=some (some (.str "abcdefghijklmnopqrstuvwxyz" t4)))(y5:nsIn K mainGlobals "LINKS"=some (some (.ref u5)))(w5:K.lookup u5=some ⟨.type "dict",none,.dict #[⟨uh5_0,.str "wing" ut5_0,.str "=" uv5_0⟩,⟨uh5_1,.str "key" ut5_1,.str "opens" uv5_1⟩] un5,#[]⟩)(h5_0:uh5_0=hashStr w "wing")(h5_1:uh5_1=hashStr w "key")(s5:(u5==sysModules)=false)(y6:nsIn K mainGlobals "MOST_DEPTHS"=some (some (.int 20 t6)))(y7:nsIn K mainGlobals "MOST_FIGURES"=some (some (.int 3 t7)))(y8:nsIn K mainGlobals "MOST_LETTERS"=some (some (.int 12 t8)))(y9:nsIn K mainGlobals "MOST_OF_A_KIND"=some (some (.int 60 t9)))(y10:nsIn K mainGlobals "MOST_PLACES"=some (some (.int 24 t10)))(cn0:nsIn K mainGlobals "NoRules"=some (some (.ref ck0)))(cn1:nsIn K mainGlobals "NoRow"=some (some (.ref ck1)))(cn2:nsIn K mainGlobals "SmithError"=some (some (.ref ck2)))(cn4:nsIn K mainGlobals "NoBarrel"=some (some (.ref ck4)))(cn5:nsIn K mainGlobals "NoCuts"=some (some (.ref ck5)))(cn6:nsIn K mainGlobals "NoDeed"=some (some (.ref ck6)))(cn7:nsIn K mainGlobals "NoPlan"=some (some (.ref ck7)))(cn8:nsIn K mainGlobals "NoSay"=some (some (.ref ck8)))(cn9:nsIn K mainGlobals "NoSuch"=some (some (.ref ck9)))(cn10:nsIn K mainGlobals "NoThing"=some (some (.ref ck10)))(cn11:nsIn K mainGlobals "NoTower"=some (some (.ref ck11)))(cn12:nsIn K mainGlobals "Ring"=some (some (.ref ck12)))(cn13:nsIn K mainGlobals "Shallow"=some (some (.ref ck13)))(cn14:nsIn K mainGlobals "Shared"=some (some (.ref ck14)))(cn15:nsIn K mainGlobals "Steep"=some (some (.ref ck15)))(cn16:nsIn K mainGlobals "TooFlat"=some (some (.ref ck16)))(cn17:nsIn K mainGlobals "TooHigh"=some (some (.ref ck17)))(cn18:nsIn K mainGlobals "TooNarrow"=some (some (.ref ck18)))(cn19:nsIn K mainGlobals "Twice"=some (some (.ref ck19)))(cn20:nsIn K mainGlobals "Unknown"=some (some (.ref ck20)))(cn21:nsIn K mainGlobals "Wrong"=some (some (.ref ck21)))(cx0:excIn K ck0 bmV "ValueError.__new__"=true)(cm0_0:exmOne K (.ref ck0) (.ref ck0)=some true)(cm2_1:exmOne K (.ref ck1) (.ref ck2)=some true)(ea_1:findIn K (.ref ck1) "__getattribute__"=some (some (.builtin "BaseException.__getattribute__")))(eb_1:findIn K (.ref ck1) "__getattr__"=some none)(ec_1:findIn K (.ref ck1) "__class__"=some (some (.builtin "object.__class__")))(ed_1:mroIn K ck1 (.type "object")=some true)(ee_1:mroIn K ck1 (.type "BaseException")=some true)(ea_0:findIn K (.ref ck0) "__getattribute__"=some (some (.builtin "BaseException.__getattribute__")))(eb_0:findIn K (.ref ck0) "__getattr__"=some none)(ec_0:findIn K (.ref ck0) "__class__"=some (some (.builtin "object.__class__")))(ed_0:mroIn K ck0 (.type "object")=some true)(ee_0:mroIn K ck0 (.type "BaseException")=some true)(ek0_0:kitAny K (.ref ck0) [.ref ck1]=some false)(ek0_1:kitAny K (.ref ck1) [.ref ck1]=some true)(ek1_0:kitAny K (.ref ck0) [.type "ValueError"]=some true)(ek1_1:kitAny K (.ref ck1) [.type "ValueError"]=some true)(ek2_0:kitAny K (.ref ck0) [.ref ck4,.ref ck5,.ref ck6,.ref ck7,.ref ck0,.ref ck8,.ref ck9,.ref ck10,.ref ck11]=some true)(ek2_1:kitAny K (.ref ck1) [.ref ck4,.ref ck5,.ref ck6,.ref ck7,.ref ck0,.ref ck8,.ref ck9,.ref ck10,.ref ck11]=some false)(ek3_0:kitAny K (.ref ck0) [.ref ck12,.ref ck13,.ref ck14,.ref ck15,.ref ck16,.ref ck17,.ref ck18,.ref ck19,.ref ck20,.ref ck21]=some false)(ek3_1:kitAny K (.ref ck1) [.ref ck12,.ref ck13,.ref ck14,.ref ck15,.ref ck16,.ref ck17,.ref ck18,.ref ck19,.ref ck20,.ref ck21]=some false)
  :∃ fd:FuncData,(∀ (s:Shared) (v:Value),BindsTo s fd ⟨[v],[]⟩ [("_law_script",v)])/\∀ base:Heap,K.In base->base.Ns mainGlobals mg->FnOk l.prog w K mg base Co 8 fa fd ["_law_script"] (ZF K):=by
 have e:=hfa.symm.trans (mg_of X G a31)
 cases e
 have T:Txt w K mg (λi=>([.ref ck0,.ref ck1,.ref ck2,.ty "ValueError",.ref ck4,.ref ck5,.ref ck6,.ref ck7,.ref ck8,.ref ck9,.ref ck10,.ref ck11,.ref ck12,.ref ck13,.ref ck14,.ref ck15,.ref ck16,.ref ck17,.ref ck18,.ref ck19,.ref ck20,.ref ck21]:List V).getD i .non):=⟨mg_none_of X G z0,mg_none_of X G z1,mg_none_of X G z2,mg_none_of X G z3,mg_none_of X G z4,mg_none_of X G z5,mg_none_of X G z6,mg_none_of X G z7,mg_none_of X G z8,mg_none_of X G z9,mg_none_of X G z10,mg_none_of X G z11,mg_none_of X G z12,⟨t0,mg_of X G y0⟩,⟨⟨u1,_,ui1,un1,mg_of X G y1,w1,rfl,rfl,by have:=v1.length;rw[sizeLine_eq];simp at this;omega,v1⟩⟩,⟨⟨u2,_,_,un2,mg_of X G y2,w2,⟨rfl,rfl,rfl⟩,rfl,(.cons ⟨h2_0,⟨_,rfl⟩,uc2_0,_,ui2_0,um2_0,rfl,w2_0,rfl,rfl,by have:=v2_0.length;rw[sizeLine_eq];simp at this;omega,v2_0⟩ (.cons ⟨h2_1,⟨_,rfl⟩,uc2_1,_,ui2_1,um2_1,rfl,w2_1,rfl,rfl,by have:=v2_1.length;rw[sizeLine_eq];simp at this;omega,v2_1⟩ (.cons ⟨h2_2,⟨_,rfl⟩,uc2_2,_,ui2_2,um2_2,rfl,w2_2,rfl,rfl,by have:=v2_2.length;rw[sizeLine_eq];simp at this;omega,v2_2⟩ .nil))),by decide +kernel,s2⟩⟩,⟨t3,mg_of X G y3⟩,⟨t4,mg_of X G y4⟩,⟨⟨u5,_,_,un5,mg_of X G y5,w5,⟨rfl,rfl,rfl⟩,rfl,(.cons ⟨h5_0,⟨_,rfl⟩,_,rfl⟩ (.cons ⟨h5_1,⟨_,rfl⟩,_,rfl⟩ .nil)),by decide +kernel,s5⟩⟩,⟨t6,mg_of X G y6⟩,⟨t7,mg_of X G y7⟩,⟨t8,mg_of X G y8⟩,⟨t9,mg_of X G y9⟩,⟨t10,mg_of X G y10⟩,⟨⟨C8,aC8,⟨pg8,hd8,po8,sa8⟩,n8_doors⟩⟩,⟨⟨C8,aC8,⟨pg8,hd8,po8,sa8⟩,n8_grants⟩⟩,⟨⟨C8,aC8,⟨pg8,hd8,po8,sa8⟩,n8_rules⟩⟩,⟨⟨C8,aC8,⟨pg8,hd8,po8,sa8⟩,n8_wings⟩⟩,forall_mem_cons.mpr ⟨⟨C9,aC9,⟨xa9,xb9,xc9,em9,xd9⟩,xf9,en9_row⟩,forall_mem_nil _⟩,⟨ck0,cn0,cx0⟩,⟨_,_,cn0,cn0,cm0_0⟩,⟨_,_,cn1,cn2,cm2_1⟩,.own (mg_of X G cn4),.own (mg_of X G cn5),.own (mg_of X G cn6),.own (mg_of X G cn7),.own (mg_of X G cn1),.own (mg_of X G cn0),.own (mg_of X G cn8),.own (mg_of X G cn9),.own (mg_of X G cn10),.own (mg_of X G cn11),.own (mg_of X G cn12),.own (mg_of X G cn13),.own (mg_of X G cn14),.own (mg_of X G cn15),.own (mg_of X G cn16),.own (mg_of X G cn17),.own (mg_of X G cn18),.own (mg_of X G cn19),.own (mg_of X G cn20),.blt (mg_none_of X G z0) PyProof.Rows.Boot.«ValueError» (by decide),.own (mg_of X G cn21),(Yf cn1 ⟨ea_1,eb_1,ec_1,ed_1,ee_1⟩ ek0_1 (Yf cn0 ⟨ea_0,eb_0,ec_0,ed_0,ee_0⟩ ek0_0 (Mo (Dc Io)))),(Yf cn1 ⟨ea_1,eb_1,ec_1,ed_1,ee_1⟩ ek1_1 (Yf cn0 ⟨ea_0,eb_0,ec_0,ed_0,ee_0⟩ ek1_0 (Mo (TQ Io)))),(Yf cn1 ⟨ea_1,eb_1,ec_1,ed_1,ee_1⟩ ek2_1 (Yf cn0 ⟨ea_0,eb_0,ec_0,ed_0,ee_0⟩ ek2_0 (Mo (Dc (Dc (Dc (Dc (Dc (Dc (Dc (Dc (Dc Io)))))))))))),(Yf cn1 ⟨ea_1,eb_1,ec_1,ed_1,ee_1⟩ ek3_1 (Yf cn0 ⟨ea_0,eb_0,ec_0,ed_0,ee_0⟩ ek3_0 (Mo (Dc (Dc (Dc (Dc (Dc (Dc (Dc (Dc (Dc (Dc Io)))))))))))))⟩
 refine⟨fnOf "law" "law" (Jb Yo) (Xa Yo) (Da Yo) .none kV31 dc31 pm31 an31 cd31 ct31,λs v=>.of_eq rfl,λbase _ _=>?_⟩
 have F__law_cell_at:Fn l.prog w K mg base 1 "_law_cell_at" 2 Hb:=Gr (Bc (st:=Vd) l0 c0 k0) (mg_of X G a0) T
 have F__law_mixed:Fn l.prog w K mg base 1 "_law_mixed" 2 Be:=Lu (Bc (st:=Ff) l1 c1 k1) (mg_of X G a1) T
 have F__law_name:Fn l.prog w K mg base 1 "_law_name" 1 Zf:=Qx (Bc (st:=Ag) l2 c2 k2) (mg_of X G a2) T
 have F__law_open:Fn l.prog w K mg base 1 "_law_open" 1 Cf:=Sx (Bc (st:=Cg) l3 c3 k3) (mg_of X G a3) T
 have F__law_names:Fn l.prog w K mg base 2 "_law_names" 2 Fd:=Mu (Bc (st:=Gf) l4 c4 k4) (mg_of X G a4) T F__law_name F__law_open
 have F__law_no_rules:Fn l.prog w K mg base 1 "_law_no_rules" 1 Qc:=Xp (Bc (st:=Cd) l5 c5 k5) (mg_of X G a5) T
 have F__law_none:Fn l.prog w K mg base 1 "_law_none" 2 Bf:=Rx (Bc (st:=Bg) l6 c6 k6) (mg_of X G a6) T
 have F_copied:Fn l.prog w K mg base 1 "copied" 1 Si:=II (Bc (st:=Yj) l7 c7 k7) (mg_of X G a7) T
 have F_House:FnI l.prog w K mg base 3 "House" 4 4 Th:=FN (Bc (st:=Hm) l8 c8 k8) ⟨mk8,a8,i8,kc8⟩ (mg_of X G aC8) aC8 ⟨pg8,hd8,po8,sa8⟩ n8_rules n8_doors n8_wings n8_grants T F_copied
 have F_NoRow:FnG l.prog w K mg base 2 "NoRow" [("row",true)]:=GN (Bc (st:=Im) l9 c9 k9) ⟨⟨_,_,_,_,_,_,_,_,_,_,_,_,_,_,_,_,ex9,eo9,ei9,et9⟩,ef9,kc9,sa9,em9,⟨_,2,el9,ev9,eh9⟩,eg9,er9,eb9⟩ (mg_of X G aC9) aC9 (mg_of X G aS9) en9_row
 have F_can_stand:Fn l.prog w K mg base 1 "can_stand" 2 Ec:=Ux (Bc (st:=Dg) l10 c10 k10) (mg_of X G a10) T
 have F_depths_of:Fn l.prog w K mg base 1 "depths_of" 1 Uh:=Vx (Bc (st:=Eg) l11 c11 k11) (mg_of X G a11) T
 have F_heights_of:Fn l.prog w K mg base 1 "heights_of" 1 Qg:=Nu (Bc (st:=Hf) l12 c12 k12) (mg_of X G a12) T
 have F_places_of:Fn l.prog w K mg base 1 "places_of" 1 Vh:=Wx (Bc (st:=Fg) l13 c13 k13) (mg_of X G a13) T
 have F_step_of:Fn l.prog w K mg base 1 "step_of" 1 Sj:=VC (Bc (st:=Li) l14 c14 k14) (mg_of X G a14) T
 have F_are_bounded:Fn l.prog w K mg base 2 "are_bounded" 1 Md:=At (Bc (st:=Me) l15 c15 k15) (mg_of X G a15) T F_depths_of F_heights_of F_places_of F_step_of
 have F_is_whole:Fn l.prog w K mg base 1 "is_whole" 1 Bh:=EA (Bc (st:=Ih) l16 c16 k16) (mg_of X G a16) T
 have F_is_rules:Fn l.prog w K mg base 3 "is_rules" 1 Nd:=CA (Bc (st:=Hh) l17 c17 k17) (mg_of X G a17) T F_are_bounded F_is_whole
 have F_has_only:Fn l.prog w K mg base 1 "has_only" 2 Rc:=BA (Bc (st:=Gh) l18 c18 k18) (mg_of X G a18) T
 have F_is_written:Fn l.prog w K mg base 2 "is_written" 2 Hd:=Ou (Bc (st:=Jf) l19 c19 k19) (mg_of X G a19) T F_has_only
 have F_numbers_in:Fn l.prog w K mg base 3 "numbers_in" 2 Kc:=Pu (Bc (st:=Kf) l20 c20 k20) (mg_of X G a20) T F_is_written
 have F_read_rules:FnX l.prog w K mg base 4 "read_rules" 1 Rb:=Su (Bc (st:=Mf) l21 c21 k21) (mg_of X G a21) T F_is_rules F_numbers_in
 have F_rules_in:FnX l.prog w K mg base 5 "rules_in" 1 Wb:=FA (Bc (st:=Jh) l22 c22 k22) (mg_of X G a22) T F_NoRow F_read_rules
 have F_is_name:Fn l.prog w K mg base 2 "is_name" 1 Hc:=UC (Bc (st:=Ki) l23 c23 k23) (mg_of X G a23) T F_has_only
 have F_are_unlike_names:Fn l.prog w K mg base 3 "are_unlike_names" 1 Tb:=Nm (Bc (st:=Ic) l24 c24 k24) (mg_of X G a24) T F_is_name
 have F_thing_in:Fn l.prog w K mg base 4 "thing_in" 1 Fc:=GA (Bc (st:=Kh) l25 c25 k25) (mg_of X G a25) T F_are_unlike_names F_is_name
 have F_read_house:FnX l.prog w K mg base 6 "read_house" 1 Ta:=Qu (Bc (st:=Lf) l26 c26 k26) (mg_of X G a26) T F_House F_NoRow F_can_stand F_rules_in F_thing_in
 have F__law_refused:Fn l.prog w K mg base 7 "_law_refused" 1 Oc:=Hr (Bc (st:=Wd) l27 c27 k27) (mg_of X G a27) T F_NoRow F_read_house
 have F_shown_rules:Fn l.prog w K mg base 1 "shown_rules" 1 Ke:=Ct (Bc (st:=Pe) l28 c28 k28) (mg_of X G a28) T
 have F_shown_thing:Fn l.prog w K mg base 1 "shown_thing" 2 Lc:=Dt (Bc (st:=Qe) l29 c29 k29) (mg_of X G a29) T
 have F_shown_house:Fn l.prog w K mg base 2 "shown_house" 1 Od:=Bt (Bc (st:=Oe) l30 c30 k30) (mg_of X G a30) T F_shown_rules F_shown_thing
 exact MZ (TZ (Bc (st:=Yo) l31 c31 k31) T F__law_cell_at F__law_mixed F__law_names F__law_no_rules F__law_none F__law_refused F_read_house F_shown_house) law_true
theorem walk{q:Program}{loose:List Str}{XP:(Str->Option Value)->Heap->Prop}{YP:World->Heap->Prop}{d:DefRec}{K:Params->Frag}(hn:l.most=some 63)(hdf:d.params.defaults= [])(hY:∀ (w:World) (h:Heap),YP w h->(K w.params).In h)(F:∀ (w:World) (mg:Str->Option Value) (fa:Addr) (h:Heap),(K w.params).In h->h.Ns mainGlobals mg->mg d.name=some (.ref fa)->
   ∃ fd:FuncData,(∀ (s:Shared) (u:Value),BindsTo s fd ⟨[u],[]⟩ [("_law_script",u)])/\∀ base:Heap,(K w.params).In base->base.Ns mainGlobals mg->FnOk l.prog w (K w.params) mg base Co 8 fa fd ["_law_script"] (ZF (K w.params))):
  PySem.W.WalkO q loose XP YP l.row.toRowW d [] (λf vs=>PySem.call f vs):=
 L2.walk_of (n:=63) (k:=8) (x:="_law_script") (CX:=λ_=>Co) (sp:=λw=>ZF (K w.params)) hn (by decide) hdf ⟨rfl,by decide,by decide,rfl⟩ hY F (λ_ _ a ns hl _ hS=>⟨a,ns,rfl,hS,hl,λ_=>rfl⟩) λ_ _ _ _ _ z=>z
end G
open PySem PySem.W PyProof.Rows
theorem PySem.W.Fast.tw3131252804798817067 : True := trivial
theorem PySem.W.Fast.tw4103409200148375405 : True := trivial
theorem PySem.W.Fast.tw6934907532909019237 : True := trivial
theorem PySem.W.Fast.tw15263816845777475681 : True := trivial
theorem PySem.W.Fast.tw2461743664273233804 : True := trivial
theorem PySem.W.Fast.tw12730825776079293735 : True := trivial
theorem PySem.W.Fast.tw9192443329109900060 : True := trivial
theorem PySem.W.Fast.tw5977455603301477580 : True := trivial
theorem PySem.W.Fast.tw6514751013626203325 : True := trivial
theorem PySem.W.Fast.tw13233271284584211533 : True := trivial
theorem PySem.W.Fast.tw16125153866215256528 : True := trivial
theorem PySem.W.Fast.tw15823272004175310749 : True := trivial
theorem PySem.W.Fast.tw2953645375314037673 : True := trivial
theorem PySem.W.Fast.tw16124103548733752004 : True := trivial
theorem PySem.W.Fast.tw16552474573490938917 : True := trivial
theorem PySem.W.Fast.tw247081144148905604 : True := trivial
theorem PySem.W.Fast.tw10915282346659173051 : True := trivial
theorem PySem.W.Fast.tw2719686645319636766 : True := trivial
theorem PySem.W.Fast.tw16624583486200398887 : True := trivial
theorem PySem.W.Fast.tw11932593758928925357 : True := trivial
theorem PySem.W.Fast.tw11063622288273954832 : True := trivial
theorem PySem.W.Fast.tw10536490682850904318 : True := trivial
theorem PySem.W.Fast.tw1285472032560584698 : True := trivial
theorem PySem.W.Fast.tw6014189927074365734 : True := trivial
theorem PySem.W.Fast.tw12954037216799339737 : True := trivial
theorem PySem.W.Fast.tw15655758777325357187 : True := trivial
theorem PySem.W.Fast.tw2714481937664066137 : True := trivial
theorem PySem.W.Fast.tw6779817440218711745 : True := trivial
theorem PySem.W.Fast.tw4824938939054717763 : True := trivial
theorem PySem.W.Fast.tw17923410269113150575 : True := trivial
theorem PySem.W.Fast.tw7024529670314141335 : True := trivial
theorem PySem.W.Fast.tw8441229449182111244 : True := trivial
theorem PySem.W.Fast.tw7529021450116461953 : True := trivial
theorem PySem.W.Fast.tw9502725100391814799 : True := trivial
theorem PySem.W.Fast.tw14465020511071997608 : True := trivial
theorem PySem.W.Fast.tw13459456324398336145 : True := trivial
theorem PySem.W.Fast.tw8861567543940875089 : True := trivial
theorem PySem.W.Fast.tw844741088857271622 : True := trivial
theorem PySem.W.Fast.tw13993411417558560506 : True := trivial
theorem PySem.W.Fast.tw9832404828788293889 : True := trivial
theorem PySem.W.Fast.tw1196188132751620134 : True := trivial
theorem PySem.W.Fast.tw12551303086914893921 : True := trivial
theorem PySem.W.Fast.tw7688976238400408729 : True := trivial
theorem PySem.Challenge.cw_wardsmith_k34_rows_that_are_none_holds : PySem.Challenge.rw_wardsmith_k34_rows_that_are_none.Holds := by
 w_on;o_law;k_head;(case hw=>w_witness2)
 k_fill
 refine G.walk (l:=PySem.Challenge.rw_wardsmith_k34_rows_that_are_none) rfl rfl (λw h Y=>PySem.W.kIn_of Y) ?F
 case F=>
  intro w mg fa h KX GG hmg
  refine' G.all_mk KX GG hmg ?a0 ?l0 ?c0 ?k0 ?a1 ?l1 ?c1 ?k1 ?a2 ?l2 ?c2 ?k2 ?a3 ?l3 ?c3 ?k3 ?a4 ?l4 ?c4 ?k4 ?a5 ?l5 ?c5 ?k5 ?a6 ?l6 ?c6 ?k6 ?a7 ?l7 ?c7 ?k7 ?aC8 ?a8 ?i8 ?l8 ?c8 ?k8 ?pg8 ?hd8 ?po8 ?sa8 ?mk8 ?kc8 ?n8_rules ?n8_doors ?n8_wings ?n8_grants ?aC9 ?aS9 ?ex9 ?eo9 ?ei9 ?et9 ?ef9 ?kc9 ?sa9 ?em9 ?el9 ?ev9 ?eh9 ?eg9 ?er9 ?eb9 ?l9 ?c9 ?k9 ?en9_row ?xa9 ?xb9 ?xc9 ?xd9 ?xf9 ?a10 ?l10 ?c10 ?k10 ?a11 ?l11 ?c11 ?k11 ?a12 ?l12 ?c12 ?k12 ?a13 ?l13 ?c13 ?k13 ?a14 ?l14 ?c14 ?k14 ?a15 ?l15 ?c15 ?k15 ?a16 ?l16 ?c16 ?k16 ?a17 ?l17 ?c17 ?k17 ?a18 ?l18 ?c18 ?k18 ?a19 ?l19 ?c19 ?k19 ?a20 ?l20 ?c20 ?k20 ?a21 ?l21 ?c21 ?k21 ?a22 ?l22 ?c22 ?k22 ?a23 ?l23 ?c23 ?k23 ?a24 ?l24 ?c24 ?k24 ?a25 ?l25 ?c25 ?k25 ?a26 ?l26 ?c26 ?k26 ?a27 ?l27 ?c27 ?k27 ?a28 ?l28 ?c28 ?k28 ?a29 ?l29 ?c29 ?k29 ?a30 ?l30 ?c30 ?k30 ?a31 ?l31 ?c31 ?k31 ?z0 ?z1 ?z2 ?z3 ?z4 ?z5 ?z6 ?z7 ?z8 ?z9 ?z10 ?z11 ?z12 ?y0 ?y1 ?w1 ?v1 ?y2 ?w2 ?s2 ?h2_0 ?w2_0 ?v2_0 ?h2_1 ?w2_1 ?v2_1 ?h2_2 ?w2_2 ?v2_2 ?y3 ?y4 ?y5 ?w5 ?h5_0 ?h5_1 ?s5 ?y6 ?y7 ?y8 ?y9 ?y10 ?cn0 ?cn1 ?cn2 ?cn4 ?cn5 ?cn6 ?cn7 ?cn8 ?cn9 ?cn10 ?cn11 ?cn12 ?cn13 ?cn14 ?cn15 ?cn16 ?cn17 ?cn18 ?cn19 ?cn20 ?cn21 ?cx0 ?cm0_0 ?cm2_1 ?ea_1 ?eb_1 ?ec_1 ?ed_1 ?ee_1 ?ea_0 ?eb_0 ?ec_0 ?ed_0 ?ee_0 ?ek0_0 ?ek0_1 ?ek1_0 ?ek1_1 ?ek2_0 ?ek2_1 ?ek3_0 ?ek3_1
  (case a0=>k_is);(case l0=>k_is);(case c0=>k_is);(case k0=>k_is);(case a1=>k_is);(case l1=>k_is)
  (case c1=>k_is);(case k1=>k_is);(case a2=>k_is);(case l2=>k_is);(case c2=>k_is);(case k2=>k_is)
  (case a3=>k_is);(case l3=>k_is);(case c3=>k_is);(case k3=>k_is);(case a4=>k_is);(case l4=>k_is)
  (case c4=>k_is);(case k4=>k_is);(case a5=>k_is);(case l5=>k_is);(case c5=>k_is);(case k5=>k_is)
  (case a6=>k_is);(case l6=>k_is);(case c6=>k_is);(case k6=>k_is);(case a7=>k_is);(case l7=>k_is)
  (case c7=>k_is);(case k7=>k_is);(case aC8=>k_is);(case a8=>k_is);(case i8=>k_is);(case l8=>k_is)
  (case c8=>k_is);(case k8=>k_is);(case pg8=>k_is);(case hd8=>k_is);(case po8=>k_is);(case sa8=>k_is)
  (case mk8=>k_is);(case kc8=>k_is);(case n8_rules=>k_is);(case n8_doors=>k_is);(case n8_wings=>k_is);(case n8_grants=>k_is)
  (case aC9=>k_is);(case aS9=>k_is);(case ex9=>k_is);(case eo9=>kernel_rfl);(case ei9=>k_is);(case et9=>kernel_rfl)
  (case ef9=>k_is);(case kc9=>k_is);(case sa9=>k_is);(case em9=>k_is);(case el9=>k_is);(case ev9=>kernel_rfl)
  (case eh9=>kernel_rfl);(case eg9=>k_is);(case er9=>k_is);(case eb9=>k_is);(case l9=>k_is);(case c9=>k_is)
  (case k9=>k_is);(case en9_row=>k_is);(case xa9=>k_is);(case xb9=>k_is);(case xc9=>k_is);(case xd9=>k_is)
  (case xf9=>k_is);(case a10=>k_is);(case l10=>k_is);(case c10=>k_is);(case k10=>k_is);(case a11=>k_is)
  (case l11=>k_is);(case c11=>k_is);(case k11=>k_is);(case a12=>k_is);(case l12=>k_is);(case c12=>k_is)
  (case k12=>k_is);(case a13=>k_is);(case l13=>k_is);(case c13=>k_is);(case k13=>k_is);(case a14=>k_is)
  (case l14=>k_is);(case c14=>k_is);(case k14=>k_is);(case a15=>k_is);(case l15=>k_is);(case c15=>k_is)
  (case k15=>k_is);(case a16=>k_is);(case l16=>k_is);(case c16=>k_is);(case k16=>k_is);(case a17=>k_is)
  (case l17=>k_is);(case c17=>k_is);(case k17=>k_is);(case a18=>k_is);(case l18=>k_is);(case c18=>k_is)
  (case k18=>k_is);(case a19=>k_is);(case l19=>k_is);(case c19=>k_is);(case k19=>k_is);(case a20=>k_is)
  (case l20=>k_is);(case c20=>k_is);(case k20=>k_is);(case a21=>k_is);(case l21=>k_is);(case c21=>k_is)
  (case k21=>k_is);(case a22=>k_is);(case l22=>k_is);(case c22=>k_is);(case k22=>k_is);(case a23=>k_is)
  (case l23=>k_is);(case c23=>k_is);(case k23=>k_is);(case a24=>k_is);(case l24=>k_is);(case c24=>k_is)
  (case k24=>k_is);(case a25=>k_is);(case l25=>k_is);(case c25=>k_is);(case k25=>k_is);(case a26=>k_is)
  (case l26=>k_is);(case c26=>k_is);(case k26=>k_is);(case a27=>k_is);(case l27=>k_is);(case c27=>k_is)
  (case k27=>k_is);(case a28=>k_is);(case l28=>k_is);(case c28=>k_is);(case k28=>k_is);(case a29=>k_is)
  (case l29=>k_is);(case c29=>k_is);(case k29=>k_is);(case a30=>k_is);(case l30=>k_is);(case c30=>k_is)
  (case k30=>k_is);(case a31=>k_is);(case l31=>k_is);(case c31=>k_is);(case k31=>k_is);(case z0=>k_is)
  (case z1=>k_is);(case z2=>k_is);(case z3=>k_is);(case z4=>k_is);(case z5=>k_is);(case z6=>k_is)
  (case z7=>k_is);(case z8=>k_is);(case z9=>k_is);(case z10=>k_is);(case z11=>k_is);(case z12=>k_is)
  (case y0=>k_is);(case y1=>k_is);(case w1=>k_is);(case v1=>exact(.cons ⟨_,rfl⟩ (.cons ⟨_,rfl⟩ (.cons ⟨_,rfl⟩ (.cons ⟨_,rfl⟩ (.cons ⟨_,rfl⟩ .nil))))));(case y2=>k_is);(case w2=>k_is)
  (case s2=>rfl);(case h2_0=>rfl);(case w2_0=>k_is);(case v2_0=>exact(.cons ⟨_,rfl⟩ (.cons ⟨_,rfl⟩ .nil)));(case h2_1=>rfl);(case w2_1=>k_is)
  (case v2_1=>exact(.cons ⟨_,rfl⟩ .nil));(case h2_2=>rfl);(case w2_2=>k_is);(case v2_2=>exact  .nil);(case y3=>k_is);(case y4=>k_is)
  (case y5=>k_is);(case w5=>k_is);(case h5_0=>rfl);(case h5_1=>rfl);(case s5=>rfl);(case y6=>k_is)
  (case y7=>k_is);(case y8=>k_is);(case y9=>k_is);(case y10=>k_is);(case cn0=>k_is);(case cn1=>k_is)
  (case cn2=>k_is);(case cn4=>k_is);(case cn5=>k_is);(case cn6=>k_is);(case cn7=>k_is);(case cn8=>k_is)
  (case cn9=>k_is);(case cn10=>k_is);(case cn11=>k_is);(case cn12=>k_is);(case cn13=>k_is);(case cn14=>k_is)
  (case cn15=>k_is);(case cn16=>k_is);(case cn17=>k_is);(case cn18=>k_is);(case cn19=>k_is);(case cn20=>k_is)
  (case cn21=>k_is);(case cx0=>k_exc);(case cm0_0=>kts_exm);(case cm2_1=>kts_exm);(case ea_1=>k_is);(case eb_1=>k_is)
  (case ec_1=>k_is);(case ed_1=>k_is);(case ee_1=>k_is);(case ea_0=>k_is);(case eb_0=>k_is);(case ec_0=>k_is)
  (case ed_0=>k_is);(case ee_0=>k_is);(case ek0_0=>kit_is);(case ek0_1=>kit_is);(case ek1_0=>kit_is);(case ek1_1=>kit_is)
  (case ek2_0=>kit_is);(case ek2_1=>kit_is);(case ek3_0=>kit_is);(case ek3_1=>kit_is)
