import PyProof.Rows.All
import Wide.All
import OpenK.AllK
import Wide.FinOn
import Lean
import PyProof.EqAt
import PyProof.EqKinds
import PyProof.TupleCall
import PyProof.ZipIter
import PyProof.Draws
import PyProof.TupleIter
import PyProof.ListMulRoad
import PyProof.FactsAll.tuple
import PyProof.ReprRoads
import PyProof.Rows.RegFStrParts
import PyProof.Rows.Range3
import KE.KIntText
import PyProof.AutoListH
import PyProof.Rows.MinMaxN
import PyProof.SetScanFacts
import PyProof.SetKind
import PyProof.DictKinds
import PyProof.WalkLemmas
import PyProof.CollectWalk
import PyProof.FactsAll.set
import PyProof.Walks
import PyProof.WalksS
import PyProof.SetRoads
import PyProof.Rows.SetFrom
import PyProof.Rows.SortWalk
import PyProof.EnumMake
import PyProof.EnumFor
import PyProof.DictItemsLoops
import PyProof.DictWalks
import KE.KDictList
import PyProof.Rows.SumAny
import KE.KRevIter
import KE.KDictOf
import PyProof.AttrMissHeap
import PyProof.NsDelKeeps
import PyProof.RulesAs
import KE.KTryMore
import PyProof.ExcArgsOwn
import KE.KUnpack
import PyProof.ExcClass2
import OpenK.KMake
import OpenK.KGet
import PyProof.InstStore
import PyProof.InstStoreFacts
import OpenK.KCls
import OpenK.KMore
import PyProof.FString4
import PyProof.StrLawsRepr
import KE.KEqDict
import KE.KItemsList
import PyProof.FactsAll.NoneType_1
import PyProof.Rows.SortStr
import PySem.Challenge.RW_wardsmith_k62_no_tower
noncomputable section
open PySem.W (Frag nsIn keepIn findIn fnOf mg_of codeIn mg_none_of hasDictIn emptyDict instObj mroIn hideAll plainGet specialIn kitAny callWith_K cellsFrom_some exmOne methodObj lookIn plainOver takerIn makesIn typeIn isFn kitOne tail_of_in)
open List (range length_map map_cons replicate length_nil mem_cons mem_cons_of_mem mem_cons_self map_nil nil_append size_toArray cons_append set_cons_zero set_cons_succ lookup_cons mem_append map_map length_append mem_range getElem?_set_ne mem_append_right getElem?_map mem_map getElem?_eq_getElem append_nil not_mem_nil length_range mem_singleton Nodup foldl_cons Perm all_eq_true mem_of_getElem? getElem?_set_self length_singleton replicate_succ append_assoc forall_mem_cons filter_cons_of_pos mem_map_of_mem range' mem_filter length_replicate Pairwise getElem?_set_self' map_append filter_cons_of_neg forall_mem_nil mem_append_left flatten_cons find?_cons pairwise_cons nodup_cons all_cons length)
open PySem.Heap (lt_size get?_push_of_some SameBut get?_push_size FlyingW size_push)
open Nat (le_refl ne_of_lt reduceAdd reduceSub le_trans zero_le lt_of_lt_of_le lt_irrefl ne_of_gt reduceLeDiff lt_trans le_succ zero_add le_of_lt)
open Classical (propDecidable not_not)
open Array (length_toList getElem?_toList size_append size_map)
open Bool (false_eq_true and_eq_true )
open Int (emod_nonneg emod_lt_of_pos)
open Option (isSome_iff_exists map_eq_some_iff map_some)
set_option Elab.async false
set_option linter.all false
set_option maxRecDepth 100000
namespace L2
open PySem PySem.Spec PyProof.Rows
abbrev Bb:=Sum Int Str
def Qs:Bb->Value->Bool
 | .inl k,v=>Value.isInt k v
 | .inr x,v=>Value.isStrOf x v
def UV(w:World):Bb->Int
 | .inl k=>hashInt k
 | .inr x=>hashStr w x
theorem Dc:∀ {k:Bb} {v:Value},Qs k v=true->(∃ i t,k=Sum.inl i/\v=Value.int i t)\/(∃ x t,k=Sum.inr x/\v=Value.str x t)
 | .inl i,v,h=>by
  obtain⟨t,e⟩:=Value.isInt_shape (k:=i) (v:=v) h
  exact .inl ⟨i,t,rfl,e⟩
 | .inr x,v,h=>by
  obtain⟨t,e⟩:=Value.isStrOf_shape (x:=x) (v:=v) h
  exact .inr ⟨x,t,rfl,e⟩
theorem BF(i:Int)(t:Tok):Qs (.inl i) (.int i t)=true:=by simp[Qs,Value.isInt]
theorem CF(x:Str)(t:Tok):Qs (.inr x) (.str x t)=true:=by simp[Qs,Value.isStrOf]
theorem VV(a b:Int):decide ((Sum.inl a:Bb)=Sum.inl b)=(a==b):=by
 by_cases e:a=b
 .subst e;simp
 .have h:¬ (Sum.inl a:Bb)=Sum.inl b:=λq=>e (Sum.inl.inj q)
  rw[decide_eq_false h]
  exact(beq_eq_false_iff_ne.mpr e).symm
theorem YV(a b:Str):decide ((Sum.inr a:Bb)=Sum.inr b)=decide (a=b):=by
 by_cases e:a=b
 .subst e;simp
 .have h:¬ (Sum.inr a:Bb)=Sum.inr b:=λq=>e (Sum.inr.inj q)
  rw[decide_eq_false h,decide_eq_false e]
theorem WV(a:Int)(b:Str):decide ((Sum.inl a:Bb)=Sum.inr b)=false:=decide_eq_false (λq=>nomatch q)
theorem XV(a:Str)(b:Int):decide ((Sum.inr a:Bb)=Sum.inl b)=false:=decide_eq_false (λq=>nomatch q)
def Uc(prog:Program)(w:World):PySem.KeyKind prog w Bb where
 is:=Qs
 hash:=UV w
 inj:=λv a b ha hb=>by
  rcases Dc ha with⟨i,t,rfl,rfl⟩|⟨x,t,rfl,rfl⟩
  .rcases Dc hb with⟨j,u,rfl,e⟩|⟨y,u,rfl,e⟩
   .injection e with e1 _;rw[e1]
   .exact nomatch e
  .rcases Dc hb with⟨j,u,rfl,e⟩|⟨y,u,rfl,e⟩
   .exact nomatch e
   .injection e with e1 _;rw[e1]
 byValue:=λk v h=>by
  rcases Dc h with⟨i,t,rfl,rfl⟩|⟨x,t,rfl,rfl⟩<;>rfl
 pyHash:=λhv h=>by
  rcases Dc hv with⟨i,t,rfl,rfl⟩|⟨x,t,rfl,rfl⟩
  .exact wpAny_pyHash_int h
  .exact wpAny_pyHash_str h
 eqBool:=λhu hv h=>by
  rcases Dc hu with⟨i,t,rfl,rfl⟩|⟨x,t,rfl,rfl⟩
  .rcases Dc hv with⟨j,u,rfl,rfl⟩|⟨y,u,rfl,rfl⟩
   .rw[VV]at h;exact wpAny_eqBool_int h
   .rw[WV]at h;exact SeqAt.EqAt.int_str i t y u _ _ _ _ h
  .rcases Dc hv with⟨j,u,rfl,rfl⟩|⟨y,u,rfl,rfl⟩
   .rw[XV]at h;exact SeqAt.EqAt.str_int x t j u _ _ _ _ h
   .rw[YV]at h;exact wpAny_eqBool_str h
 «strs» :=λk x t v h=>by
  rcases Dc h with⟨i,u,rfl,e⟩|⟨y,u,rfl,e⟩
  .exact nomatch e
  .injection e with e1 _
   subst e1
   cases v<;>rfl
theorem Sx(prog:Program)(w:World)(i:Int)(t:Tok):(Uc prog w).is (.inl i) (.int i t)=true:=BF i t
theorem Tx(prog:Program)(w:World)(x:Str)(t:Tok):(Uc prog w).is (.inr x) (.str x t)=true:=CF x t
inductive V where
 |non|bl (b:Bool)|int (i:Int)|str (x:Str)|byt (b:Array UInt8)|flt (b:UInt64)|ref (a:Addr)|ty (n:String)
 deriving DecidableEq
def RelV:V->Value->Prop
 | .non,u=>u=Value.none
 | .bl b,u=>u=Value.bool b
 | .int i,u=>∃ t,u=Value.int i t
 | .str x,u=>∃ t,u=Value.str x t
 | .byt b,u=>∃ t,u=Value.bytes b t
 | .flt b,u=>∃ t,u=Value.float b t
 | .ref a,u=>u=Value.ref a
 | .ty n,u=>u=Value.type n
abbrev Vals:List V->List Value->Prop:=Paired RelV
variable{xs:List V}{us:List Value}
theorem Vals.length(r:Vals xs us):xs.length=us.length:=Paired.length r
theorem Vals.get:∀ {xs:List V} {us:List Value} {i:Nat} {x:V},Vals xs us->xs[i]? =some x->∃ u,us[i]? =some u/\RelV x u
 |_,_,_,_,.nil,e=>by simp at e
 |_,_,0,_,.cons r _,e=>by simp at e;subst e;exact⟨_,rfl,r⟩
 |_,_,i+1,x,.cons _ t,e=>by
  obtain⟨u,h1,h2⟩:=Vals.get (i:=i) (x:=x) t (by simpa using e)
  exact⟨u,by simpa using h1,h2⟩
variable{u:Value}
theorem Vals.set{x:V}(r:RelV x u):∀ {xs:List V} {us:List Value} (i:Nat),Vals xs us->Vals (xs.set i x) (us.set i u)
 |_,_,_,.nil=>.nil
 |_,_,0,.cons _ t=>.cons r t
 |_,_,i+1,.cons q t=>.cons q (Vals.set r i t)
theorem Vals.append:∀ {xs ys:List V} {us ws:List Value},Vals xs us->Vals ys ws->Vals (xs++ys) (us++ws)
 |_,_,_,_,.nil,s=>s
 |_,_,_,_,.cons r t,s=>.cons r (Vals.append t s)
theorem Vals.take:∀ {xs:List V} {us:List Value} (n:Nat),Vals xs us->Vals (xs.take n) (us.take n)
 |_,_,0,_=>.nil
 |_,_,_+1,.nil=>.nil
 |_,_,n+1,.cons r t=>.cons r (Vals.take n t)
theorem Vals.drop:∀ {xs:List V} {us:List Value} (n:Nat),Vals xs us->Vals (xs.drop n) (us.drop n)
 |_,_,0,r=>r
 |_,_,_+1,.nil=>.nil
 |_,_,n+1,.cons _ t=>Vals.drop n t
def RelO:Option V->Option Value->Prop
 |some v,some u=>RelV v u
 |none,none=>True
 |_,_=>False
def KV{κ:Type}:List (κ×V)->List (κ×Value)->Prop:=Paired λ(p:κ×V) (q:κ×Value)=>p.1=q.1/\RelV p.2 q.2
def kV:Bb->V
 | .inl i=>.int i
 | .inr x=>.str x
inductive HO where
  |lst (xs:List V)
  |tup (xs:List V)
  |dK (kvs:List (Bb×V))|dT (kvs:List (List Bb×V))
  |set (S:Int->Bool) (n:Nat)
  |ins (C dx:Addr) (fs:List (Str×V))
  |own (x:Addr)
  |xd (fs:List (Str×V))
  |met (f x:Addr)
  |rng (lo hi:Int)
  |frz (o:Obj) (u:HO)
  |tbl (ps:Array Value)
  |ext (φ:Heap->Prop)
abbrev Hp:=Addr->Option HO
def Eb(H:Hp)(a:Addr)(o:HO):Hp:=λb=>if b=a then some o else H b
variable{H:Hp}{a:Addr}{o:HO}
theorem Ma:Eb H a o a=some o:=by unfold Eb;rw[if_pos rfl]
variable{b:Addr}
theorem Da(h:b≠a):Eb H a o b=H b:=by unfold Eb;rw[if_neg h]
theorem ID{u:HO}:Eb (Eb H a o) a u=Eb H a u:=by
 funext b;unfold Eb;split<;>rfl
theorem Ka(h:H a=some o)(h':H b=none):a≠b:=by
 intro e;subst e;rw[h]at h';cases h'
section
variable (P:Program)(w:World)
def ObjOk(H:Hp)(h:Heap)(a:Addr):HO->Prop
 | .lst xs=>xs.length<=sizeLine/\∃ (its:List Value) (n:Nat),Vals xs its/\h.get? a=some {cls:=.type "list",data:=.seq its.toArray n}
 | .tup xs=>xs.length<=sizeLine/\∃ its:List Value,Vals xs its/\IsTup h a its.toArray
 | .dK kvs=>kvs.length<=sizeLine/\(a==sysModules)=false/\∃ vs,KV kvs vs/\h.DictOf (Uc P w) a vs
 | .dT kvs=>kvs.length<=sizeLine/\(a==sysModules)=false/\∃ xs:List (List Bb×Addr×Value),
   Paired (λ(p:List Bb×V) (q:List Bb×Addr×Value)=>p.1=q.1/\H q.2.1=some (.tup (p.1.map kV))/\RelV p.2 q.2.2) kvs xs/\
   ∃ o es ep,h.get? a=some o/\o.ExactDict/\o.data=.dict es ep/\es.toList=xs.map (entryOfKey (tupleKind (Uc P w)))/\(xs.map (·.1)).Nodup
 | .set S n=>h.SetOf (intKind P w) a S n
 | .ins C dx fs=>H dx=some (.own a)/\fs.length<=1000/\dx≠a/\h.get? a=some (instObj C dx)/\
   ∃ mA,h.Ns1 dx mA/\(∀ f,RelO (fs.lookup f) (mA f))/\PySem.Within mA (fs.map (·.1))
 | .own _=>∃ o,h.get? a=some o
 | .xd fs=>∃ mA,h.Ns1 a mA/\∀ f,RelO (fs.lookup f) (mA f)
 | .rng lo hi=>∃ t u v,h.get? a=some {cls:=.type "range",data:=.fields #[.int lo t,.int hi u,.int 1 v]}
 | .frz o u=>h.get? a=some o/\ObjOk H h a u
 | .tbl ps=>h.get? a=some {cls:=.none,data:=.fields ps}
 | .met f x=>h.get? a=some (methodObj (.ref f) (.ref x))
 | .ext φ=>φ h/\(∃ o,h.get? a=some o)/\∀ h1 h2:Heap,φ h1->(∀ o,h1.get? a=some o->h2.get? a=some o)->φ h2
def HOk(H:Hp)(h:Heap):Prop:=∀ a o,H a=some o->ObjOk P w H h a o
end
variable{P:Program}{w:World}{H':Hp}{h':Heap}{α:Type}
section
variable {h:Heap}
theorem ObjOk.lt(x:ObjOk P w H h a o):a<h.objs.size:=by
 cases o with
 |lst xs=>obtain⟨_,_,_,_,e⟩:=x;exact lt_size e
 |tup xs=>obtain⟨_,_,_,p⟩:=x;exact p.lt
 |dK kvs=>obtain⟨_,_,_,_,o,_,_,e,_⟩:=x;exact lt_size e
 |dT kvs=>obtain⟨_,_,_,_,o,_,_,e,_⟩:=x;exact lt_size e
 |set S n=>obtain⟨o,_,_,_,e,_⟩:=x;exact lt_size e
 |ins C dx fs=>obtain⟨_,_,_,e,_⟩:=x;exact lt_size e
 |own y=>obtain⟨_,e⟩:=x;exact lt_size e
 |xd fs=>obtain⟨_,⟨_,_,_,e,_⟩,_⟩:=x;exact lt_size e
 |rng lo hi=>obtain⟨_,_,_,e⟩:=x;exact lt_size e
 |frz ob u=>obtain⟨e,_⟩:=x;exact lt_size e
 |tbl ps=>exact lt_size (show h.get? a=some _ from x)
 |met f y=>exact lt_size (show h.get? a=some _ from x)
 |ext φ=>obtain⟨_,⟨_,e⟩,_⟩:=x;exact lt_size e
theorem Paired.mapP{β:Type}{F G:α->β->Prop}:∀ {l₁:List α} {l₂:List β},Paired F l₁ l₂->(∀ a b,F a b->G a b)->Paired G l₁ l₂
 |_,_,.nil,_=>.nil
 |_,_,.cons r t,f=>.cons (f _ _ r) (Paired.mapP t f)
theorem ObjOk.stay(x:ObjOk P w H h a o)(k:∀ b u,(b=a\/H b=some (.own a))->h.get? b=some u->h'.get? b=some u)(ho:∀ b,H b=some (.own a)->H' b=some (.own a))(ht:∀ b xs,H b=some (.tup xs)->H' b=some (.tup xs)):ObjOk P w H' h' a o:=by
 induction o with
 |lst xs=>obtain⟨z,its,n,r,e⟩:=x;exact⟨z,its,n,r,k _ _ (.inl rfl) e⟩
 |tup xs=>obtain⟨z,its,r,ob,e,c⟩:=x;exact⟨z,its,r,ob,k _ _ (.inl rfl) e,c⟩
 |dK kvs=>obtain⟨z,y,vs,r,ob,es,ep,e,c⟩:=x;exact⟨z,y,vs,r,ob,es,ep,k _ _ (.inl rfl) e,c⟩
 |dT kvs=>
  obtain⟨z,y,xs,r,ob,es,ep,e,c⟩:=x
  exact⟨z,y,xs,Paired.mapP r λp q z=>⟨z.1,ht _ _ z.2.1,z.2.2⟩,ob,es,ep,k _ _ (.inl rfl) e,c⟩
 |set S n=>obtain⟨ob,es,ep,t,e,c⟩:=x;exact⟨ob,es,ep,t,k _ _ (.inl rfl) e,c⟩
 |ins C dx fs=>
  obtain⟨d,z,ne,e,mA,⟨od,es,ep,e2,c⟩,r⟩:=x
  exact⟨ho _ d,z,ne,k _ _ (.inl rfl) e,mA,⟨od,es,ep,k _ _ (.inr d) e2,c⟩,r⟩
 |own y=>obtain⟨ob,e⟩:=x;exact⟨ob,k _ _ (.inl rfl) e⟩
 |xd fs=>obtain⟨mA,⟨od,es,ep,e,c⟩,r⟩:=x;exact⟨mA,⟨od,es,ep,k _ _ (.inl rfl) e,c⟩,r⟩
 |rng lo hi=>obtain⟨t,u,v,e⟩:=x;exact⟨t,u,v,k _ _ (.inl rfl) e⟩
 |frz ob u ih=>obtain⟨e,q⟩:=x;exact⟨k _ _ (.inl rfl) e,ih q⟩
 |tbl ps=>
  have e:h.get? a=some {cls:=.none,data:=.fields ps}:=x
  show h'.get? a=some {cls:=.none,data:=.fields ps}
  exact k a _ (.inl rfl) e
 |met f y=>
  have e:h.get? a=some (methodObj (.ref f) (.ref y)):=x
  show h'.get? a=some (methodObj (.ref f) (.ref y))
  exact k a _ (.inl rfl) e
 |ext φ=>obtain⟨p,⟨o,e⟩,st⟩:=x;exact⟨st _ _ p λo q=>k _ _ (.inl rfl) q,⟨o,k _ _ (.inl rfl) e⟩,st⟩
theorem HOk.lt(x:HOk P w H h)(e:H a=some o):a<h.objs.size:=(x a o e).lt
theorem HOk.fresh(x:HOk P w H h)(e:h.objs.size<=a):H a=none:=by
 cases q:H a with
 |none=>rfl
 |some u=>exact absurd (lt_of_lt_of_le (x.lt q) e) (lt_irrefl _)
theorem HOk.kept(x:HOk P w H h)(k:∀ b u,h.get? b=some u->h'.get? b=some u):HOk P w H h':=λa o e=>
 (x a o e).stay (λb u _ q=>k b u q) (λ_ q=>q) λ_ _ q=>q
theorem HOk.laid(x:HOk P w H h)(k:∀ b u,h.get? b=some u->h'.get? b=some u)(hp:h.objs.size<=a)(new:ObjOk P w (Eb H a o) h' a o):HOk P w (Eb H a o) h':=λb u e=>by
 have hn:=x.fresh hp
 by_cases hb:b=a
 .subst hb;rw[Ma]at e;cases e;exact new
 .rw[Da hb]at e
  exact(x b u e).stay (λc v _ q=>k c v q) (λc q=>by rw[Da (Ka q hn)];exact q) λc xs q=>by rw[Da (Ka q hn)];exact q
end
def Rd(H:Hp)(a:Addr)(u:HO):Prop:=H a=some u\/∃ o,H a=some (.frz o u)
theorem Rd.ok{h:Heap}{u:HO}(r:Rd H a u)(x:HOk P w H h):ObjOk P w H h a u:=by
 rcases r with r|⟨o,r⟩
 .exact x a u r
 .obtain⟨_,q⟩:=x a _ r
  exact q
def E3:Option HO->Prop
 |some (.lst _)=>True
 |some (.dK _)=>True
 |some (.dT _)=>True
 |some (.set _ _)=>True
 |some (.ins _ _ _)=>True
 |some (.ext _)=>True
 |_=>False
variable{x e:Addr}
section
variable {h:Heap}{o':HO}
theorem HOk.write(ok:HOk P w H h)(mu:E3 (H x))(he:e=x\/H e=some (.own x))(k:∀ b u,b≠e->h.get? b=some u->h'.get? b=some u)(heo:∃ u,h'.get? e=some u)(new:ObjOk P w (Eb H x o') h' x o'):HOk P w (Eb H x o') h':=λb u q=>by
 have nown:∀ c y,H c=some (.own y)->c≠x:=λc y r z=>by subst z;rw[r]at mu;exact mu
 have ntup:∀ c xs,H c=some (.tup xs)->c≠x:=λc xs r z=>by subst z;rw[r]at mu;exact mu
 by_cases hb:b=x
 .subst hb;rw[Ma]at q;cases q;exact new
 .rw[Da hb]at q
  by_cases hbe:b=e
  .have q':H b=some (.own x):=by
    rcases he with z|z
    .exact absurd (hbe.trans z) hb
    .rw[hbe];exact z
   rw[q]at q';cases q'
   obtain⟨v,hv⟩:=heo
   exact⟨v,by rw[hbe];exact hv⟩
  .refine(ok b u q).stay (λc v hc r=>k c v ?_ r) (λc r=>by rw[Da (nown c b r)];exact r) λc xs r=>by rw[Da (ntup c xs r)];exact r
   rcases hc with rfl|hc
   .exact hbe
   .rintro rfl
    rcases he with z|z
    .exact nown c b hc z
    .rw[hc]at z;cases z;exact hb rfl
end
structure Un(fs ex:List Addr)(H H':Hp)(h h':Heap):Prop where
 keep:∀ b o,h.get? b=some o->H b=none->b∉fs->b∉ex->h'.get? b=some o
 slot:∀ b o,h.get? b=some o->H b=none->b∈fs->b∉ex->∃ sl,h'.get? b=some {o with slots:=sl}
 free:∀ b o,h.get? b=some o->H b=none->b∉ex->H' b=none
 there:∀ b o,h.get? b=some o->b∉ex->∃ o',h'.get? b=some o'
 tups:∀ b xs,H b=some (.tup xs)->H' b=some (.tup xs)
 frzs:∀ b o u,H b=some (.frz o u)->H' b=some (.frz o u)
 tbls:∀ b ps,H b=some (.tbl ps)->∃ more,H' b=some (.tbl (ps++more))
section
variable {fs fs' ex ex':List Addr}{H1 H2:Hp}{h h1 h2:Heap}
theorem Un.any(u:Un fs ex H H1 h h1){ob:Obj}(q:h.get? b=some ob)(n:H b=none)(hx:b∉ex):∃ sl,h1.get? b=some {ob with slots:=sl}:=by
 by_cases hb:b∈fs
 .exact u.slot b ob q n hb hx
 .exact⟨ob.slots,u.keep b ob q n hb hx⟩
theorem Un.kept(k:∀ b u,h.get? b=some u->h'.get? b=some u):Un fs ex H H h h':=
 ⟨λb ob q _ _ _=>k b ob q,λb ob q _ _ _=>⟨ob.slots,k b ob q⟩,λ_ _ _ n _=>n,λb ob q _=>⟨ob,k b ob q⟩,λ_ _ q=>q,λ_ _ _ q=>q,λ_ ps q=>⟨#[],by rw[q];simp⟩⟩
theorem Un.refl:Un fs ex H H h h:=Un.kept λ_ _ q=>q
theorem Un.laid(k:∀ b u,h.get? b=some u->h'.get? b=some u)(hp:h.objs.size<=a)(hn:H a=none):Un fs ex H (Eb H a o) h h' where
 keep:=λb u q _ _ _=>k b u q
 slot:=λb u q _ _ _=>⟨u.slots,k b u q⟩
 free:=λb u q n _=>by rw[Da (ne_of_lt (lt_of_lt_of_le (lt_size q) hp))];exact n
 there:=λb u q _=>⟨u,k b u q⟩
 tups:=λb xs q=>by rw[Da (Ka q hn)];exact q
 frzs:=λb u xs q=>by rw[Da (Ka q hn)];exact q
 tbls:=λb ps q=>⟨#[],by rw[Da (Ka q hn),q];simp⟩
theorem Un.write(mu:E3 (H x))(he:e=x\/H e=some (.own x))(k:∀ b u,b≠e->h.get? b=some u->h'.get? b=some u)(heo:∃ u,h'.get? e=some u):Un fs ex H (Eb H x o) h h':=by
 have hx:∀ b,H b=none->b≠x:=λb n z=>by subst z;rw[n]at mu;exact mu
 have hb:∀ b,H b=none->b≠e:=λb n z=>by
  subst z
  rcases he with r|r
  .exact hx b n r
  .rw[n]at r;cases r
 have hm:∀ b u,H b=some u->¬ E3 (some u)->b≠x:=λb u q nm z=>by subst z;rw[q]at mu;exact nm mu
 refine⟨λb u q n _ _=>k b u (hb b n) q,λb u q n _ _=>⟨u.slots,k b u (hb b n) q⟩,λb u q n _=>by rw[Da (hx b n)];exact n,λb u q _=>?_,
  λb xs q=>by rw[Da (hm b _ q λz=>z)];exact q,λb u xs q=>by rw[Da (hm b _ q λz=>z)];exact q,λb ps q=>⟨#[],by rw[Da (hm b _ q λz=>z),q];simp⟩⟩
 by_cases hbe:b=e
 .subst hbe;exact heo
 .exact⟨u,k b u hbe q⟩
end
def R3(h:Heap)(H:Hp):List Addr:=(range h.objs.size).filter λa=>(H a).isSome
def Ku(h:Heap)(H:Hp):Heap:=hideAll h (R3 h H)
theorem SE(h:Heap)(H:Hp):(Ku h H).objs.size=h.objs.size:=PySem.W.hideAll_size _ _
variable{o:Obj}
theorem EI{h:Heap}(e:h.get? b=some o)(n:H b=none):(Ku h H).get? b=some o:=
 PySem.W.hideAll_get _ e λhm=>by
  have q:(H b).isSome=true:=(mem_filter.mp hm).2
  rw[n]at q;simp at q
theorem LP{h:Heap}(e:(Ku h H).get? b=some o):h.get? b=some o/\H b=none:=by
 have e':h.get? b=some o:=PySem.W.of_hideAll (R3 h H) e
 refine⟨e',?_⟩
 cases q:H b with
 |none=>rfl
 |some x=>
  have hm:b∈R3 h H:=mem_filter.mpr ⟨mem_range.mpr (lt_size e'),by simp[q]⟩
  have z:(Ku h H).get? b=none:=PySem.W.hideAll_none (R3 h H) hm
  rw[z]at e;cases e
def LM(g h:Heap)(L:Addr):List (Addr×Obj):=(range h.objs.size).filterMap λa=>if a=L\/(g.get? a).isSome=true then none else(h.get? a).map λo=>(a,o)
def rest(g h:Heap)(L d:Addr):List (Addr×Obj):=(LM g h L).filter λp=>decide (p.1≠d)
structure Mod(K:Frag)(mg:Str->Option Value)(base:Heap):Prop where
 kin:K.In base
 glob:base.Ns mainGlobals mg
 blt:∃ mb,base.Ns builtinsNs mb/\∀ x:Str,x≠"__name__"->mb x=bootBuiltins x
 nolimit:base.NoLimit
structure Cx where
 prog:Program
 w:World
 K:Frag
 mg:Str->Option Value
 base:Heap
 A:Around
 N:List Str
 s₀:Shared
 H₀:Hp
 env:Env
 outer:List Env
 stack:List Env
 ex:List Addr
 fn:Str->Bool
 calm:Bool
 pn:List (Addr×Obj)
 xe:Value->Shared->Prop
def Fh(l:List Env):List Addr:=l.filterMap (·.frame)
abbrev Cx.fs(X:Cx):List Addr:=Fh X.outer
def Br(sc:Scope)(x:Str):Prop:=sc.names.lookup x=some .local\/sc.names.lookup x=some .cell\/sc.names.lookup x=some .free
def Ez(sc:Scope)(x:Str):Prop:=sc.names.lookup x=some .local\/sc.names.lookup x=some .cell
def PZ(env:Env)(h:Heap)(m:Str->Option Value)(x:Str)(u:Value):Prop:=
 (env.kindOf x=some .local/\m x=some u)\/((env.kindOf x=some .cell\/env.kindOf x=some .free)/\∃ c,env.cells.lookup x=some c/\h.IsCell c (some u))
structure Cx.Ok(X:Cx):Prop where
 mod:Mod X.K X.mg X.base
 kind:X.env.scope.kind=.function
 glob:X.env.globals=mainGlobals
 blt:X.env.builtins=builtinsNs
 above:X.s₀.heap.objs.size<=X.env.locals
 inj:∀ x y c,X.env.cells.lookup x=some c->X.env.cells.lookup y=some c->x=y
 has:∀ x,(X.env.kindOf x=some .cell\/X.env.kindOf x=some .free)->∃ c,X.env.cells.lookup x=some c
 cab:∀ x c,X.fn x=true->X.env.cells.lookup x=some c->X.s₀.heap.objs.size<=c
 hd:X.calm=true->X.A.handled=none
 frames:X.A.frames=some X.stack
 stk:X.stack=X.outer\/(X.stack=X.env::X.outer/\X.env.frame=some X.env.locals)
 exf:∀ b∈X.ex,b≠X.env.locals/\∀ x c,X.env.cells.lookup x=some c->c≠b
 bs:∀ b o,X.base.get? b=some o->X.s₀.heap.get? b=some o/\X.H₀ b=none
 bsz:X.base.objs.size<=X.s₀.heap.objs.size
 noex:∀ b o,X.base.get? b=some o->b∉X.ex
 exfs:∀ b∈X.ex,b∉X.fs
 funs:X.s₀.heap.FunFrames X.base X.outer
 frf:∀ b∈X.fs,X.H₀ b=none
structure Inv(X:Cx)(pins:List (Addr×Obj))(σ:List (Option V))(H:Hp)(s:Shared):Prop where
 ok:X.Ok
 os:s.os=X.s₀.os
 bare:AllBare s.gens
 base:Un X.fs X.ex X.H₀ H X.s₀.heap s.heap
 loc:∃ m,s.heap.Ns X.env.locals m/\∀ (i:Nat) (x:Str) (v:V),X.N[i]? =some x->σ[i]? =some (some v)->Br X.env.scope x->∃ u,RelV v u/\PZ X.env s.heap m x u
 cell:∀ x c,X.env.cells.lookup x=some c->∃ v,s.heap.IsCell c v
 free:H X.env.locals=none
 freeC:∀ x c,X.env.cells.lookup x=some c->H c=none
 pin:∀ p∈X.pn++pins,s.heap.get? p.1=some p.2/\H p.1=none/\p.1≠X.env.locals/\p.1∉X.fs/\∀ v,p.2.data≠ .cell v
 hok:HOk X.prog X.w H s.heap
 len:σ.length=X.N.length
variable{x:Str}{X:Cx}{pins:List (Addr×Obj)}{s s':Shared}{g':Array GenState}{t' i j:Nat}{d':Drawn}{ch:List Addr}{it:Addr}{N:List Str}{M:Model}{A:Around}{E:Value->Shared->Prop}{Q:Unit->Shared->Prop}
section
variable {σ:List (Option V)}
theorem Cx.Ok.nofr(ok:X.Ok)(e:X.base.get? b=some o):b∉X.fs:=λhb=>by
 have:=(ok.funs.mem hb).1
 rw[e]at this;cases this
theorem Inv.bs(I:Inv X pins σ H s):∀ b o,X.base.get? b=some o->s.heap.get? b=some o/\H b=none:=λb o e=>
 ⟨I.base.keep b o (I.ok.bs b o e).1 (I.ok.bs b o e).2 (I.ok.nofr e) (I.ok.noex b o e),I.base.free b o (I.ok.bs b o e).1 (I.ok.bs b o e).2 (I.ok.noex b o e)⟩
theorem Inv.bk(I:Inv X pins σ H s):∀ b o,X.base.get? b=some o->s.heap.get? b=some o:=λb o e=>(I.bs b o e).1
theorem Inv.mod(I:Inv X pins σ H s):Mod X.K X.mg X.base:=I.ok.mod
theorem Inv.kIn(I:Inv X pins σ H s):X.K.In s.heap:=I.ok.mod.kin.keeps I.bk
theorem Inv.lt(I:Inv X pins σ H s):X.env.locals<s.heap.objs.size:=let ⟨_,hn,_⟩:=I.loc;hn.lt
theorem Inv.sz(I:Inv X pins σ H s):X.s₀.heap.objs.size<=s.heap.objs.size:=le_trans I.ok.above (le_of_lt I.lt)
theorem Inv.nofs(I:Inv X pins σ H s)(h:s.heap.objs.size<=a):a∉X.fs:=λhb=>by
 obtain⟨_,o,ho,_⟩:=I.ok.funs.mem hb
 exact absurd (lt_of_lt_of_le (lt_size ho) (le_trans I.sz h)) (lt_irrefl _)
theorem Inv.cne(I:Inv X pins σ H s):∀ x c,X.env.cells.lookup x=some c->c≠X.env.locals:=λx c e z=>by
 obtain⟨v,o,ho,hd⟩:=I.cell x c e
 obtain⟨m,⟨o',es,ep,ho',hd',_⟩,_⟩:=I.loc
 rw[z,ho']at ho;cases ho;rw[hd']at hd;cases hd
theorem Inv.funs(I:Inv X pins σ H s):s.heap.FunFrames X.base X.outer:=by
 have all:∀ (l:List Env),(∀ b∈Fh l,b∈X.fs)->X.s₀.heap.FunFrames X.base l->s.heap.FunFrames X.base l:=by
  intro l
  induction l with
  |nil=>intro _ _;trivial
  |cons env r ih=>
   intro hs hl
   obtain⟨hk,⟨L,o,hf,hn,ho,hd⟩,hr⟩:=hl
   have hL:L∈X.fs:=hs L (by unfold Fh;rw[List.filterMap_cons,hf];exact mem_cons_self)
   obtain⟨sl,e⟩:=I.base.slot L o ho (I.ok.frf L hL) hL λz=>I.ok.exfs L z hL
   exact⟨hk,⟨L,_,hf,hn,e,hd⟩,ih (λb hb=>hs b (by unfold Fh;rw[List.filterMap_cons,hf];exact mem_cons_of_mem _ hb)) hr⟩
 exact all X.outer (λ_ hb=>hb) I.ok.funs
theorem Inv.stack(I:Inv X pins σ H s):s.heap.FunFrames X.base X.stack:=by
 rcases I.ok.stk with e|⟨e,hf⟩
 .rw[e];exact I.funs
 .rw[e]
  obtain⟨m,hn,_⟩:=I.loc
  refine .cons (by rw[I.ok.kind];decide) hf hn ?_ I.funs
  exact Heap.get?_none_of_le (le_trans I.ok.bsz I.ok.above)
theorem Inv.stkSub(I:Inv X pins σ H s):∀ b∈Fh X.stack,b∈X.env.locals::X.fs:=λb hb=>by
 rcases I.ok.stk with e|⟨e,hf⟩
 .rw[e]at hb;exact mem_cons_of_mem _ hb
 .rw[e]at hb
  unfold Fh at hb
  rw[List.filterMap_cons,hf]at hb
  exact hb
theorem Inv.stkFree(I:Inv X pins σ H s):∀ b∈Fh X.stack,H b=none:=λb hb=>by
 rcases mem_cons.mp (I.stkSub b hb) with e|hb
 .rw[e];exact I.free
 .obtain⟨_,o,ho,_⟩:=I.ok.funs.mem hb
  exact I.base.free b o ho (I.ok.frf b hb) λz=>I.ok.exfs b z hb
theorem Inv.step(I:Inv X pins σ H s)(hch:∀ b∈ch,(b∈X.ex\/X.s₀.heap.objs.size<=b)/\b≠X.env.locals/\(∀ x c,X.env.cells.lookup x=some c->c≠b)/\∀ p∈X.pn++pins,p.1≠b)(keep:∀ b o,b≠X.env.locals->b∉X.fs->b∉ch->s.heap.get? b=some o->H b=none->h'.get? b=some o)(slot:∀ b o,b≠X.env.locals->b∈X.fs->b∉ch->s.heap.get? b=some o->H b=none->∃ sl,h'.get? b=some {o with slots:=sl})(free:∀ b o,b∉ch->s.heap.get? b=some o->H b=none->H' b=none)(there:∀ b o,b∉ch->s.heap.get? b=some o->∃ o',h'.get? b=some o')(tups:∀ b xs,H b=some (.tup xs)->H' b=some (.tup xs))(frzs:∀ b o u,H b=some (.frz o u)->H' b=some (.frz o u))(tbls:∀ b ps,H b=some (.tbl ps)->∃ more,H' b=some (.tbl (ps++more)))(ns:∀ m,s.heap.Ns X.env.locals m->h'.Ns X.env.locals m)(hok:HOk X.prog X.w H' h')(hg:AllBare g'):
  Inv X pins σ H' {s with heap:=h',gens:=g',drawn:=d',toks:=t'}:=by
 have neL:∀ b o,X.s₀.heap.get? b=some o->b≠X.env.locals:=λb o e=>ne_of_lt (lt_of_lt_of_le (lt_size e) I.ok.above)
 have neC:∀ b o,X.s₀.heap.get? b=some o->b∉X.ex->b∉ch:=λb o e hx hb=>by
  rcases(hch b hb).1 with z|z
  .exact hx z
  .exact absurd (lt_of_lt_of_le (lt_size e) z) (lt_irrefl _)
 have cellK:∀ x c,X.env.cells.lookup x=some c->∀ v,s.heap.IsCell c v->h'.IsCell c v:=λx c e v ⟨o,ho,hd⟩=>by
  have nch:c∉ch:=λz=>(hch c z).2.2.1 x c e rfl
  by_cases hc:c∈X.fs
  .obtain⟨sl,q⟩:=slot c o (I.cne x c e) hc nch ho (I.freeC x c e)
   exact⟨_,q,hd⟩
  .exact⟨o,keep c o (I.cne x c e) hc nch ho (I.freeC x c e),hd⟩
 refine⟨I.ok,I.os,hg,⟨λb o e n hb hx=>?_,λb o e n hb hx=>?_,λb o e n hx=>?_,λb o e hx=>?_,λb xs e=>tups b xs (I.base.tups b xs e),λb o xs e=>frzs b o xs (I.base.frzs b o xs e),λb ps e=>?_⟩,?_,λx c e=>?_,?_,λx c e=>?_,λp hp=>?_,hok,I.len⟩
 .exact keep b o (neL b o e) hb (neC b o e hx) (I.base.keep b o e n hb hx) (I.base.free b o e n hx)
 .obtain⟨sl,e1⟩:=I.base.slot b o e n hb hx
  obtain⟨sl',e2⟩:=slot b _ (neL b o e) hb (neC b o e hx) e1 (I.base.free b o e n hx)
  exact⟨sl',e2⟩
 .obtain⟨o',e1⟩:=I.base.there b o e hx
  exact free b o' (neC b o e hx) e1 (I.base.free b o e n hx)
 .obtain⟨o',e1⟩:=I.base.there b o e hx
  exact there b o' (neC b o e hx) e1
 .obtain⟨m1,e1⟩:=I.base.tbls b ps e
  obtain⟨m2,e2⟩:=tbls b _ e1
  exact⟨m1++m2,by rw[e2,Array.append_assoc]⟩
 .obtain⟨m,hn,hl⟩:=I.loc
  refine⟨m,ns m hn,λi x v e1 e2 e3=>?_⟩
  obtain⟨u,r,l⟩:=hl i x v e1 e2 e3
  refine⟨u,r,?_⟩
  rcases l with l|⟨k,c,e,z⟩
  .exact .inl l
  .exact .inr ⟨k,c,e,cellK x c e _ z⟩
 .obtain⟨v,z⟩:=I.cell x c e
  exact⟨v,cellK x c e v z⟩
 .obtain⟨m,⟨o,_,_,ho,_⟩,_⟩:=I.loc
  exact free _ o (λz=>(hch _ z).2.1 rfl) ho I.free
 .obtain⟨v,o,ho,hd⟩:=I.cell x c e
  exact free c o (λz=>(hch c z).2.2.1 x c e rfl) ho (I.freeC x c e)
 .obtain⟨e,n,ne,nf,d⟩:=I.pin p hp
  have nch:p.1∉ch:=λz=>(hch p.1 z).2.2.2 p hp rfl
  exact⟨keep p.1 p.2 ne nf nch e n,free p.1 p.2 nch e n,ne,nf,d⟩
theorem Inv.un(I:Inv X pins σ H s)(u:Un X.fs [] H H' s.heap h')(hok:HOk X.prog X.w H' h'):Inv X pins σ H' {s with heap:=h',toks:=t'}:=by
 obtain⟨m,⟨o,es,ep,ho,r⟩,_⟩:=id I.loc
 obtain⟨sl,hL⟩:=u.any ho I.free (by simp)
 exact I.step (g':=s.gens) (d':=s.drawn) (ch:= []) (λ_ z=>nomatch z) (λb o _ hb _ e n=>u.keep b o e n hb (by simp)) (λb o _ hb _ e n=>u.slot b o e n hb (by simp)) (λb o _ e n=>u.free b o e n (by simp)) (λb o _ e=>u.there b o e (by simp)) u.tups u.frzs u.tbls (λm' hm=>by
  obtain⟨o',es',ep',ho',r'⟩:=hm
  rw[ho]at ho';cases ho'
  exact⟨_,es',ep',hL,r'⟩) hok I.bare
theorem Inv.call(I:Inv X pins σ H s)(u:Un (Fh X.stack) ch H H' s.heap h')(hok:HOk X.prog X.w H' h')(hg:AllBare g')(hch:∀ b∈ch,(b∈X.ex\/X.s₀.heap.objs.size<=b)/\b≠X.env.locals/\(∀ x c,X.env.cells.lookup x=some c->c≠b)/\∀ p∈X.pn++pins,p.1≠b):
  Inv X pins σ H' {s with heap:=h',gens:=g',drawn:=d',toks:=t'}:=by
 obtain⟨m,⟨o,es,ep,ho,r⟩,_⟩:=id I.loc
 obtain⟨sl,hL⟩:=u.any ho I.free λz=>(hch _ z).2.1 rfl
 exact I.step (ch:=ch) hch (λb o hL hb hc e n=>u.keep b o e n (λz=>(mem_cons.mp (I.stkSub b z)).elim hL hb) hc) (λb o _ _ hc e n=>u.any e n hc) (λb o hc e n=>u.free b o e n hc) (λb o hc e=>u.there b o e hc) u.tups u.frzs u.tbls (λm' hm=>by
  obtain⟨o',es',ep',ho',r'⟩:=hm
  rw[ho]at ho';cases ho'
  exact⟨_,es',ep',hL,r'⟩) hok hg
theorem Inv.turned(I:Inv X pins σ H s)(k:∀ b o,b≠it->s.heap.get? b=some o->h'.get? b=some o)(hn:H it=none)(hL:it≠X.env.locals)(h1:it∈X.ex\/X.s₀.heap.objs.size<=it)(h2:∀ x c,X.env.cells.lookup x=some c->c≠it)(h3:∀ p∈X.pn++pins,p.1≠it):Inv X pins σ H {s with heap:=h',toks:=t'}:=by
 have nit:∀ b u,H b=some u->b≠it:=λb u e z=>by rw[z,hn]at e;cases e
 refine I.step (g':=s.gens) (d':=s.drawn) (ch:= [it]) (λb hb=>?_) (λb o _ _ hc e _=>k b o (λz=>hc (by simp[z])) e) (λb o _ _ hc e _=>⟨o.slots,k b o (λz=>hc (by simp[z])) e⟩) (λ_ _ _ _ n=>n)
  (λb o hc e=>⟨o,k b o (λz=>hc (by simp[z])) e⟩) (λ_ _ e=>e) (λ_ _ _ e=>e) (λb ps e=>⟨#[],by rw[e];simp⟩) (λm hm=>?_) (λb u e=>?_) I.bare
 .have e:b=it:=by simpa using hb
  subst e
  exact⟨h1,hL,h2,h3⟩
 .obtain⟨o,es,ep,ho,r⟩:=hm
  exact⟨o,es,ep,k _ o (Ne.symm hL) ho,r⟩
 .refine(I.hok b u e).stay (λc v hc q=>k c v ?_ q) (λ_ q=>q) λ_ _ q=>q
  rcases hc with z|z
  .rw[z];exact nit b u e
  .exact nit c _ z
theorem Inv.tok(I:Inv X pins σ H s)(t:Nat):Inv X pins σ H {s with toks:=t}:=I.un (h':=s.heap) (t':=t) Un.refl I.hok
theorem Inv.kept(I:Inv X pins σ H s)(k:∀ b u,s.heap.get? b=some u->h'.get? b=some u):Inv X pins σ H {s with heap:=h',toks:=t'}:=I.un (Un.kept k) (I.hok.kept k)
theorem Inv.laid{o:HO}(I:Inv X pins σ H s)(k:∀ b u,s.heap.get? b=some u->h'.get? b=some u)(hp:s.heap.objs.size<=a)(new:ObjOk X.prog X.w (Eb H a o) h' a o):
  Inv X pins σ (Eb H a o) {s with heap:=h',toks:=t'}:=I.un (Un.laid k hp (I.hok.fresh hp)) (I.hok.laid k hp new)
theorem Inv.write{x:Addr}{o:HO}(I:Inv X pins σ H s)(mu:E3 (H x))(he:e=x\/H e=some (.own x))(k:∀ b u,b≠e->s.heap.get? b=some u->h'.get? b=some u)(heo:∃ u,h'.get? e=some u)(new:ObjOk X.prog X.w (Eb H x o) h' x o):Inv X pins σ (Eb H x o) {s with heap:=h',toks:=t'}:=I.un (Un.write mu he k heo) (I.hok.write mu he k heo new)
theorem Inv.pins_of{pins':List (Addr×Obj)}(I:Inv X pins σ H s)(h:∀ p∈pins',s.heap.get? p.1=some p.2/\H p.1=none/\p.1≠X.env.locals/\p.1∉X.fs/\∀ v,p.2.data≠ .cell v):Inv X pins' σ H s:=
 ⟨I.ok,I.os,I.bare,I.base,I.loc,I.cell,I.free,I.freeC,λp hp=>(mem_append.mp hp).elim (λz=>I.pin p (mem_append_left _ z)) (h p),I.hok,I.len⟩
theorem Kq(hN:N.Nodup)(a:N[i]? =some x)(b:N[j]? =some x):i=j:=by
 obtain⟨h1,e1⟩:=List.getElem?_eq_some_iff.mp a
 obtain⟨h2,e2⟩:=List.getElem?_eq_some_iff.mp b
 exact(List.getElem_inj hN).mp (e1.trans e2.symm)
theorem AG{v:V}(I:Inv X pins σ H s)(hN:X.N.Nodup)(hi:X.N[i]? =some x)(hx:Ez X.env.scope x)(r:RelV v u)(h:∀ s',Inv X pins (σ.set i (some v)) H s'->(∃ a,SameBut a s.heap s'.heap/\(a=X.env.locals\/X.env.cells.lookup x=some a))->Q () s')(hf:X.fn x=true\/X.env.scope.names.lookup x=some .local:=by first|exact .inl rfl|exact .inr rfl|assumption):wpAny M A (storeName X.env x u) Q E s:=by
 obtain⟨m,hn,hl⟩:=id I.loc
 have hcls:(X.env.scope.kind== .class||(X.env.scope.kind== .module&&X.env.locals != X.env.globals))=false:=by rw[I.ok.kind];rfl
 have hiσ:i<σ.length:=by rw[I.len];exact(List.getElem?_eq_some_iff.mp hi).1
 have cne:=I.cne
 have tracked:∀ {a:Addr} {h':Heap},(∃ o,s.heap.get? a=some o/\H a=none)->SameBut a s.heap h'->HOk X.prog X.w H h':=λ{a h'} ha hs b ob e=>by
  obtain⟨_,_,hfree⟩:=ha
  refine(I.hok b ob e).stay (λc w' hc q=>(hs.2 c ?_).trans q) (λ_ q=>q) λ_ _ q=>q
  rintro rfl
  rcases hc with rfl|hc
  .rw[hfree]at e;cases e
  .rw[hfree]at hc;cases hc
 rcases hx with hk|hk
 .refine wpAny_storeName_local hk hn (λh' hn' hs=>?_) hcls
  obtain⟨oL,_,_,hoL,_⟩:=id hn
  refine h _ ⟨I.ok,I.os,I.bare,⟨λb o e n hb hx=>?_,λb o e n hb hx=>?_,I.base.free,λb o e hx=>?_,I.base.tups,I.base.frzs,I.base.tbls⟩,⟨_,hn',λj y v' e1 e2 e3=>?_⟩,λy c e=>?_,I.free,I.freeC,λp hp=>?_,tracked ⟨oL,hoL,I.free⟩ hs,by simpa using I.len⟩ ⟨_,hs,.inl rfl⟩
  .exact(hs.2 b (ne_of_lt (lt_of_lt_of_le (lt_size e) I.ok.above))).trans (I.base.keep b o e n hb hx)
  .obtain⟨sl,e1⟩:=I.base.slot b o e n hb hx
   exact⟨sl,(hs.2 b (ne_of_lt (lt_of_lt_of_le (lt_size e) I.ok.above))).trans e1⟩
  .obtain⟨o',e1⟩:=I.base.there b o e hx
   exact⟨o',(hs.2 b (ne_of_lt (lt_of_lt_of_le (lt_size e) I.ok.above))).trans e1⟩
  .by_cases hj:j=i
   .subst hj
    rw[hi]at e1;cases e1
    rw[getElem?_set_self hiσ]at e2
    cases e2
    exact⟨u,r,.inl ⟨hk,by simp⟩⟩
   .rw[getElem?_set_ne (Ne.symm hj)]at e2
    obtain⟨u',r',q⟩:=hl j y v' e1 e2 e3
    refine⟨u',r',?_⟩
    rcases q with⟨k,e⟩|⟨k,c,e,z⟩
    .refine .inl ⟨k,?_⟩
     have:y≠x:=λe=>hj (Kq hN e1 (e▸hi))
     simp[this,e]
    .exact .inr ⟨k,c,e,z.sameBut hs (cne y c e)⟩
  .obtain⟨w',z⟩:=I.cell y c e
   exact⟨w',z.sameBut hs (cne y c e)⟩
  .obtain⟨e,n,ne,nf,d⟩:=I.pin p hp
   exact⟨(hs.2 p.1 ne).trans e,n,ne,nf,d⟩
 .have hfn:X.fn x=true:=by
   rcases hf with z|z
   .exact z
   .rw[z]at hk;cases hk
  obtain⟨c,hc⟩:=I.ok.has x (.inl hk)
  obtain⟨w',z⟩:=I.cell x c hc
  refine wpAny_storeName_cell I.ok.kind hk hc z (λh' hc' hs=>?_)
  obtain⟨oc,hoc,hocd⟩:=id z
  refine h {s with heap:=h'} ⟨I.ok,I.os,I.bare,⟨λb o e n hb hx=>?_,λb o e n hb hx=>?_,I.base.free,λb o e hx=>?_,I.base.tups,I.base.frzs,I.base.tbls⟩,⟨m,hn.sameBut hs (Ne.symm (cne x c hc)),λj y v' e1 e2 e3=>?_⟩,λy c' e=>?_,I.free,I.freeC,λp hp=>?_,tracked ⟨oc,hoc,I.freeC x c hc⟩ hs,by simpa using I.len⟩ ⟨c,hs,.inr hc⟩
  .exact(hs.2 b (ne_of_lt (lt_of_lt_of_le (lt_size e) (I.ok.cab x c hfn hc)))).trans (I.base.keep b o e n hb hx)
  .obtain⟨sl,e1⟩:=I.base.slot b o e n hb hx
   exact⟨sl,(hs.2 b (ne_of_lt (lt_of_lt_of_le (lt_size e) (I.ok.cab x c hfn hc)))).trans e1⟩
  .obtain⟨o',e1⟩:=I.base.there b o e hx
   exact⟨o',(hs.2 b (ne_of_lt (lt_of_lt_of_le (lt_size e) (I.ok.cab x c hfn hc)))).trans e1⟩
  .by_cases hj:j=i
   .subst hj
    rw[hi]at e1;cases e1
    rw[getElem?_set_self hiσ]at e2
    cases e2
    exact⟨u,r,.inr ⟨.inl hk,c,hc,hc'⟩⟩
   .rw[getElem?_set_ne (Ne.symm hj)]at e2
    obtain⟨u',r',q⟩:=hl j y v' e1 e2 e3
    refine⟨u',r',?_⟩
    rcases q with q|⟨k,c',e,z'⟩
    .exact .inl q
    .refine .inr ⟨k,c',e,z'.sameBut hs ?_⟩
     rintro rfl
     exact hj (Kq hN e1 (I.ok.inj _ _ _ e hc▸hi))
  .by_cases hcc:c'=c
   .subst hcc;exact⟨_,hc'⟩
   .obtain⟨w2,z2⟩:=I.cell y c' e
    exact⟨w2,z2.sameBut hs hcc⟩
  .obtain⟨e,n,ne,nf,d⟩:=I.pin p hp
   refine⟨(hs.2 p.1 ?_).trans e,n,ne,nf,d⟩
   intro q
   rw[q,hoc]at e
   have q':oc=p.2:=Option.some.inj e
   exact d w' (by rw[<-q'];exact hocd)
theorem Dm{v:V}(I:Inv X pins σ H s)(hN:X.N.Nodup)(hi:X.N[i]? =some x)(hx:Ez X.env.scope x)(r:RelV v u)(h:∀ s',Inv X pins (σ.set i (some v)) H s'->Q () s')(hf:X.fn x=true\/X.env.scope.names.lookup x=some .local:=by first|exact .inl rfl|exact .inr rfl|assumption):wpAny M A (storeName X.env x u) Q E s:=
 AG I hN hi hx r (λs' I' _=>h s' I') hf
theorem Inv.call'(I:Inv X pins σ H s)(ho:s'.os=s.os)(u:Un (Fh X.stack) ch H H' s.heap s'.heap)(hok:HOk X.prog X.w H' s'.heap)(hg:AllBare s'.gens)(hch:∀ b∈ch,(b∈X.ex\/X.s₀.heap.objs.size<=b)/\b≠X.env.locals/\(∀ x c,X.env.cells.lookup x=some c->c≠b)/\∀ p∈X.pn++pins,p.1≠b):Inv X pins σ H' s':=by
 obtain⟨h',g',d',t',o'⟩:=s'
 have e:o'=s.os:=ho
 subst e
 exact I.call (g':=g') (t':=t') (d':=d') u hok hg hch
end
abbrev XK:=Value->Option Addr×Bool->Hp->Prop
abbrev St:=List (Option V)
abbrev VK:=V->Hp->Prop
abbrev TE:=St->Hp->VK->Prop
abbrev TT:=St->Hp->(Bool->Hp->Prop)->Prop
abbrev TA:=St->Hp->(List V->Hp->Prop)->Prop
structure Ends where
 nx:St->Hp->Prop
 rt:VK
 bk:St->Hp->Prop:=λ_ _=>False
 ct:St->Hp->Prop:=λ_ _=>False
abbrev TS:=Ends->St->Hp->Prop
def EP(X:Cx)(pins:List (Addr×Obj))(σ:St)(Q:VK)(u:Value)(s':Shared):Prop:=∃ v H',Inv X pins σ H' s'/\RelV v u/\Q v H'
def TP(X:Cx)(pins:List (Addr×Obj))(σ:St)(Q:Bool->Hp->Prop)(b:Bool)(s':Shared):Prop:=∃ H',Inv X pins σ H' s'/\Q b H'
def AP(X:Cx)(pins:List (Addr×Obj))(σ:St)(Q:List V->Hp->Prop)(us:List Value)(s':Shared):Prop:=∃ vs H',Inv X pins σ H' s'/\Vals vs us/\Q vs H'
def SP(X:Cx)(pins:List (Addr×Obj))(D:Ends)(f:Flow)(s':Shared):Prop:=
 match f with
 | .next=>∃ σ' H',Inv X pins σ' H' s'/\D.nx σ' H'
 | .brk=>∃ σ' H',Inv X pins σ' H' s'/\D.bk σ' H'
 | .cont=>∃ σ' H',Inv X pins σ' H' s'/\D.ct σ' H'
 | .ret u=>∃ v σ' H',Inv X pins σ' H' s'/\RelV v u/\D.rt v H'
def PE(X:Cx)(e:Expr)(t:TE):Prop:=
 ∀ (pins:List (Addr×Obj)) (s:Shared) (σ:St) (H:Hp) (Q:VK),Inv X pins σ H s->t σ H Q->wpAny (model X.prog X.w) X.A (eval e X.env) (EP X pins σ Q) X.xe s
def PT(X:Cx)(e:Expr)(t:TT):Prop:=
 ∀ (pins:List (Addr×Obj)) (s:Shared) (σ:St) (H:Hp) (Q:Bool->Hp->Prop),Inv X pins σ H s->t σ H Q->wpAny (model X.prog X.w) X.A (isTrue e X.env (eval e X.env)) (TP X pins σ Q) X.xe s
def PW(X:Cx)(e:Expr)(t:TT):Prop:=
 ∀ (whole:Sem Value) (pins:List (Addr×Obj)) (s:Shared) (σ:St) (H:Hp) (Q:Bool->Hp->Prop),Inv X pins σ H s->t σ H Q->wpAny (model X.prog X.w) X.A (isTrue e X.env whole) (TP X pins σ Q) X.xe s
variable{e:Expr}
theorem PW.pt{t:TT}(h:PW X e t):PT X e t:=h _
def PA(X:Cx)(es:List Expr)(t:TA):Prop:=
 ∀ (pos:Pos) (pins:List (Addr×Obj)) (s:Shared) (σ:St) (H:Hp) (Q:List V->Hp->Prop),Inv X pins σ H s->t σ H Q->wpAny (model X.prog X.w) X.A (spliced (backTo pos (starEach es X.env))) (AP X pins σ Q) X.xe s
def PS(X:Cx)(st:Stmt)(t:TS):Prop:=
 ∀ (pins:List (Addr×Obj)) (s:Shared) (σ:St) (H:Hp) (D:Ends),Inv X pins σ H s->t D σ H->wpAny (model X.prog X.w) X.A (exec st X.env) (SP X pins D) X.xe s
def PSs(X:Cx)(st:List Stmt)(t:TS):Prop:=
 ∀ (pins:List (Addr×Obj)) (s:Shared) (σ:St) (H:Hp) (D:Ends),Inv X pins σ H s->t D σ H->wpAny (model X.prog X.w) X.A (execs st X.env) (SP X pins D) X.xe s
theorem thn{t:Sem α}{Q Q':α->Shared->Prop}(h:wpAny M A t Q E s)(hQ:∀ a s,Q a s->Q' a s):wpAny M A t Q' E s:=wpAny_mono h hQ λ_ _ x=>x
variable{a b:Expr}{σ:St}{Q:Value->Shared->Prop}{ta tb:TE}{pos:Pos}{op:CmpOp}
section
def T2(i:Nat):TE:=λσ H Q=>∃ v,σ[i]? =some (some v)/\Q v H
def tC(v:V):TE:=λ_ H Q=>Q v H
theorem Pd{pos:Pos}(hN:X.N[i]? =some x)(hv:Br X.env.scope x)(hd:(x==("__debug__":Str))=false:=by decide)(hcd:(x==("__classdict__":Str))=false:=by decide):PE X (.Name x pos) (T2 i):=by
 intro pins s σ H Q I h
 obtain⟨v,e,h⟩:=h
 obtain⟨m,hn,hl⟩:=I.loc
 obtain⟨u,r,l⟩:=hl i x v hN e hv
 have fin:EP X pins σ Q u s:=⟨v,H,I,r,h⟩
 rcases l with⟨hk,hm⟩|⟨hk,c,hc,hcell⟩
 .exact wpAny_Name (wpAny_loadName_local I.ok.kind hk hn hm fin) hd
 .rcases hk with hk|hk
  .exact wpAny_Name (wpAny_loadName_cell I.ok.kind hk hc hcell fin) hd
  .exact wpAny_Name (wpAny_loadName_free I.ok.kind hk hc hcell fin hcd) hd
theorem XJ{i j pos}:PE X (.Constant (.int i) j pos) (tC (.int i)):=λ_ _ _ H _ I h=>wpAny_Constant_int ⟨.int i,H,I.tok _,⟨_,rfl⟩,h⟩
theorem E1{b j pos}:PE X (.Constant (.bool b) j pos) (tC (.bl b)):=λ_ _ _ H _ I h=>Constant_bool ⟨.bl b,H,I,rfl,h⟩
theorem FX{j pos}:PE X (.Constant .none j pos) (tC .non):=λ_ _ _ H _ I h=>Constant_none ⟨.non,H,I,rfl,h⟩
theorem EK{x j pos}:PE X (.Constant (.str x) j pos) (tC (.str x)):=λ_ _ _ H _ I h=>Calls.Constant_str ⟨.str x,H,I.tok _,⟨_,rfl⟩,h⟩
def Gl(X:Cx)(x:Str):Prop:=X.env.kindOf x=some .globalImplicit
theorem Qi{pos:Pos}(I:Inv X pins σ H s)(hg:Gl X x)(hm:X.mg x=some u)(h:Q u s)(hd:(x==("__debug__":Str))=false:=by decide):wpAny (model X.prog X.w) X.A (eval (.Name x pos) X.env) Q E s:=
 Calls.Name_function_global I.ok.kind hg (Calls.loadGlobal_global (by rw[I.ok.glob];exact I.mod.glob.keeps I.bk) hm h) hd
theorem Lf{pos:Pos}(I:Inv X pins σ H s)(hg:Gl X x)(hm:X.mg x=none)(hv:bootBuiltins x=some u)(h:Q u s)(hn:x≠"__name__":=by decide)(hd:(x==("__debug__":Str))=false:=by decide):wpAny (model X.prog X.w) X.A (eval (.Name x pos) X.env) Q E s:=by
 obtain⟨mb,h1,h2⟩:=I.mod.blt
 exact Calls.Name_function_global I.ok.kind hg (Calls.loadGlobal_builtin (by rw[I.ok.glob];exact I.mod.glob.keeps I.bk) hm (by rw[I.ok.blt];exact h1.keeps I.bk) ((h2 x hn).trans hv) h) hd
theorem HQ{v:V}{pos:Pos}(hg:Gl X x)(hm:X.mg x=some u)(r:RelV v u)(hd:(x==("__debug__":Str))=false:=by decide):PE X (.Name x pos) (tC v):=
 λ_ _ _ H _ I h=>Qi I hg hm ⟨v,H,I,r,h⟩ hd
theorem BQ{v:V}{pos:Pos}(hg:Gl X x)(hm:X.mg x=none)(hv:bootBuiltins x=some u)(r:RelV v u)(hn:x≠"__name__":=by decide)(hd:(x==("__debug__":Str))=false:=by decide):PE X (.Name x pos) (tC v):=
 λ_ _ _ H _ I h=>Lf I hg hm hv ⟨v,H,I,r,h⟩ hn hd
def PC(X:Cx)(op:CmpOp)(a b:Expr)(t:TE):Prop:=
 ∀ (pins:List (Addr×Obj)) (s:Shared) (σ:St) (H:Hp) (Q:VK),Inv X pins σ H s->t σ H Q->
  wpAny (model X.prog X.w) X.A (eval a X.env) (λv s₁=>wpAny (model X.prog X.w) X.A (eval b X.env) (λu s₂=>wpAny (model X.prog X.w) X.A (compareOp op v u) (EP X pins σ Q) X.xe s₂) X.xe s₁) X.xe s
theorem KJ(b:Expr)(h:op≠ .In)(h2:op≠ .NotIn):behindInMarks op b=false:=by
 have e1:(op==CmpOp.In)=false:=by cases op<;>first|rfl|exact absurd rfl h
 have e2:(op==CmpOp.NotIn)=false:=by cases op<;>first|rfl|exact absurd rfl h2
 cases b<;>simp[behindInMarks,e1,e2]
def F6(ta:TE):TE:=λσ H Q=>ta σ H λx H1=>Q (.bl (decide (x=.non))) H1
def M2(ta:TE):TE:=λσ H Q=>ta σ H λx H1=>Q (.bl (!decide (x=.non))) H1
theorem RelV.none_iff{x:V}{v:Value}(r:RelV x v):(v==Value.none)=decide (x=.non):=by
 cases x with
 |non=>cases r;rfl
 |bl _=>cases r;rfl
 |int _=>obtain⟨t,rfl⟩:=r;rfl
 |str _=>obtain⟨t,rfl⟩:=r;rfl
 |byt _=>obtain⟨t,rfl⟩:=r;rfl
 |flt _=>obtain⟨t,rfl⟩:=r;rfl
 |ref _=>cases r;rfl
 |ty _=>cases r;rfl
theorem ZW{j pos'}(ha:PE X a ta):PC X .Is a (.Constant .none j pos') (F6 ta):=by
 intro pins s σ H Q I h
 refine thn (ha pins s σ H _ I h) λv s1 ⟨x,H1,I1,r1,q1⟩=>?_
 exact Constant_none (is_none_gen ⟨.bl _,H1,I1,by rw[r1.none_iff];rfl,q1⟩)
theorem AQ{j pos'}(ha:PE X a ta):PC X .IsNot a (.Constant .none j pos') (M2 ta):=by
 intro pins s σ H Q I h
 refine thn (ha pins s σ H _ I h) λv s1 ⟨x,H1,I1,r1,q1⟩=>?_
 exact Constant_none (isnot_none_gen ⟨.bl _,H1,I1,by rw[r1.none_iff];rfl,q1⟩)
def tB(t:TE):TT:=λσ H Q=>t σ H λx H1=>∃ c,x=.bl c/\Q c H1
theorem LK{t:TE}(h:PC X op a b t)(h1:behindInMarks op b=false:=by first|exact KJ _ (by decide) (by decide)|rfl):PT X (.Compare a [op] [b] pos) (tB t):=by
 intro pins s σ H Q I hw
 refine wpAny_isTrue_Compare1 (thn (h pins s σ H _ I hw) λv s1 h1=>thn h1 λu s2 h2=>thn h2 λc s3 ⟨x,H1,I1,r1,q1⟩=>?_) h1
 obtain⟨d,rfl,q⟩:=q1
 cases r1
 exact wpAny_truthy_bool ⟨H1,I1,q⟩
theorem RX{t:TE}(h:PE X e t)(he:∀ whole,isTrue e X.env whole=(do let v <-whole;standAt e.pos;holding [v] (truthy v)):=by intro _;rfl):PT X e (tB t):=by
 intro pins s σ H Q I hw
 refine isTrue_plain (thn (h pins s σ H _ I hw) λv s1 ⟨x,H1,I1,r1,q1⟩=>?_) (he _)
 obtain⟨d,rfl,q⟩:=q1
 cases r1
 exact wpAny_truthy_bool ⟨H1,I1,q⟩
variable {tA tB':TT}{rest:List Expr}
def U5(t u:TT):TT:=λσ H Q=>t σ H λc H1=>if c=true then u σ H1 Q else Q false H1
def W7(t u:TT):TT:=λσ H Q=>t σ H λc H1=>if c=true then Q true H1 else u σ H1 Q
def J6(t:TT):TT:=λσ H Q=>t σ H λc H1=>Q (!c) H1
theorem VQ(ha:PT X a tA):PW X (.BoolOp .And [a] pos) tA:=by
 intro wh pins s σ H Q I h
 refine isTrue_and (thn (ha pins s σ H Q I h) λc s1 e=>?_)
 cases c with
 |true=>exact isTrue_and_nil e
 |false=>exact e
theorem UX(ha:PT X a tA):PW X (.BoolOp .Or [a] pos) tA:=by
 intro wh pins s σ H Q I h
 refine isTrue_or (thn (ha pins s σ H Q I h) λc s1 e=>?_)
 cases c with
 |false=>exact isTrue_or_nil e
 |true=>exact e
theorem TX(ha:PT X a tA)(hb:PW X (.BoolOp .And (b::rest) pos) tB'):PW X (.BoolOp .And (a::b::rest) pos) (U5 tA tB'):=by
 intro wh pins s σ H Q I h
 refine isTrue_and (thn (ha pins s σ H _ I h) λc s1 ⟨H1,I1,q1⟩=>?_)
 cases c with
 |true=>exact hb wh pins s1 σ H1 Q I1 q1
 |false=>exact⟨H1,I1,q1⟩
theorem O1(ha:PT X a tA)(hb:PW X (.BoolOp .Or (b::rest) pos) tB'):PW X (.BoolOp .Or (a::b::rest) pos) (W7 tA tB'):=by
 intro wh pins s σ H Q I h
 refine isTrue_or (thn (ha pins s σ H _ I h) λc s1 ⟨H1,I1,q1⟩=>?_)
 cases c with
 |true=>exact⟨H1,I1,q1⟩
 |false=>exact hb wh pins s1 σ H1 Q I1 q1
theorem QX(ha:PT X a tA):PT X (.UnaryOp .Not a pos) (J6 tA):=by
 intro pins s σ H Q I h
 exact isTrue_not (ha pins s σ H (λc H1=>Q (!c) H1) I h)
end
def SqL(K:Frag)(H:Hp)(a:Addr)(xs:List V):Prop:=
 Rd H a (.lst xs)\/
  ∃ (o:Obj) (its:Array Value) (n:Nat),K.lookup a=some o/\o.cls=.type "list"/\o.dict=none/\o.data=.seq its n/\its.size<=sizeLine/\Vals xs its.toList
def SqT(K:Frag)(H:Hp)(a:Addr)(xs:List V):Prop:=
 Rd H a (.tup xs)\/
  ∃ (o:Obj) (its:Array Value) (n:Nat),K.lookup a=some o/\o.cls=.type "tuple"/\o.data=.seq its n/\its.size<=sizeLine/\Vals xs its.toList
def M4:Value->Option V
 | .none=>some .non
 | .bool b=>some (.bl b)
 | .int i _=>some (.int i)
 | .str x _=>some (.str x)
 | .bytes b _=>some (.byt b)
 | .float b _=>some (.flt b)
 | .ref a=>some (.ref a)
 | .type n=>some (.ty n)
 |_=>none
theorem RelV.abs{x:V}(r:RelV x u):M4 u=some x:=by
 cases x with
 |non=>cases r;rfl
 |bl _=>cases r;rfl
 |int _=>obtain⟨t,rfl⟩:=r;rfl
 |str _=>obtain⟨t,rfl⟩:=r;rfl
 |byt _=>obtain⟨t,rfl⟩:=r;rfl
 |flt _=>obtain⟨t,rfl⟩:=r;rfl
 |ref _=>cases r;rfl
 |ty _=>cases r;rfl
variable{y:V}
theorem RelV.inj{x:V}(r:RelV x u)(q:RelV y u):x=y:=Option.some.inj (r.abs.symm.trans q.abs)
theorem Vals.inj:∀ {xs ys:List V} {us:List Value},Vals xs us->Vals ys us->xs=ys
 |_,_,_,.nil,.nil=>rfl
 |_,_,_,.cons r t,.cons r' t'=>by rw[r.inj r',Vals.inj t t']
variable{K:Frag}
section
variable {a:Addr}{ys:List V}
theorem SqL.of(h:H a=some (.lst xs)):SqL K H a xs:=.inl (.inl h)
theorem SqT.of(h:H a=some (.tup xs)):SqT K H a xs:=.inl (.inl h)
theorem Inv.list(I:Inv X pins σ H s)(h:SqL X.K H a xs):∃ its:List Value,Vals xs its/\PlainL s.heap a its.toArray/\xs.length<=sizeLine:=by
 rcases h with h|⟨o,its,n,hk,hc,hd,hs,hz,r⟩
 .obtain⟨z,its,n,r,e⟩:=h.ok I.hok
  exact⟨its,r,⟨_,n,e,rfl,rfl,rfl⟩,z⟩
 .refine⟨its.toList,r,⟨o,n,I.kIn a o hk,hc,hd,by simpa using hs⟩,?_⟩
  have e:=r.length
  simp only[length_toList]at e
  omega
theorem Inv.tuple(I:Inv X pins σ H s)(h:SqT X.K H a xs):∃ its:List Value,Vals xs its/\IsTup s.heap a its.toArray/\xs.length<=sizeLine:=by
 rcases h with h|⟨o,its,n,hk,hc,hs,hz,r⟩
 .obtain⟨z,its,r,p⟩:=h.ok I.hok
  exact⟨its,r,p,z⟩
 .refine⟨its.toList,r,⟨o,I.kIn a o hk,hc,n,by simpa using hs⟩,?_⟩
  have e:=r.length
  simp only[length_toList]at e
  omega
theorem Inv.list_inj(I:Inv X pins σ H s)(h:SqL X.K H a xs)(h':SqL X.K H a ys):xs=ys:=by
 obtain⟨its,r,⟨o,n,e,_,_,d⟩,_⟩:=I.list h
 obtain⟨its',r',⟨o',n',e',_,_,d'⟩,_⟩:=I.list h'
 rw[e]at e';cases e'
 rw[d]at d'
 injection d' with d1 _
 have:its=its':=by simpa using congrArg Array.toList d1
 subst this
 exact r.inj r'
theorem Inv.tuple_inj(I:Inv X pins σ H s)(h:SqT X.K H a xs)(h':SqT X.K H a ys):xs=ys:=by
 obtain⟨its,r,⟨o,e,_,n,d⟩,_⟩:=I.tuple h
 obtain⟨its',r',⟨o',e',_,n',d'⟩,_⟩:=I.tuple h'
 rw[e]at e';cases e'
 rw[d]at d'
 injection d' with d1 _
 have:its=its':=by simpa using congrArg Array.toList d1
 subst this
 exact r.inj r'
end
abbrev Cx.wish(X:Cx)(E:Value->Shared->Prop):Cx:= {X with xe:=E}
abbrev Cx.nox(X:Cx):Cx:=X.wish λ_ _=>False
theorem Cx.Ok.wish(ok:X.Ok)(E:Value->Shared->Prop):(X.wish E).Ok:=
 ⟨ok.mod,ok.kind,ok.glob,ok.blt,ok.above,ok.inj,ok.has,ok.cab,ok.hd,ok.frames,ok.stk,ok.exf,ok.bs,ok.bsz,ok.noex,ok.exfs,ok.funs,ok.frf⟩
theorem Cx.Ok.unwish(ok:(X.wish E).Ok):X.Ok:=
 ⟨ok.mod,ok.kind,ok.glob,ok.blt,ok.above,ok.inj,ok.has,ok.cab,ok.hd,ok.frames,ok.stk,ok.exf,ok.bs,ok.bsz,ok.noex,ok.exfs,ok.funs,ok.frf⟩
theorem Inv.wish(I:Inv X pins σ H s)(E:Value->Shared->Prop):Inv (X.wish E) pins σ H s:=⟨I.ok.wish E,I.os,I.bare,I.base,I.loc,I.cell,I.free,I.freeC,I.pin,I.hok,I.len⟩
theorem Inv.unwish(I:Inv (X.wish E) pins σ H s):Inv X pins σ H s:=⟨I.ok.unwish,I.os,I.bare,I.base,I.loc,I.cell,I.free,I.freeC,I.pin,I.hok,I.len⟩
theorem SP.unwish{D:Ends}{f:Flow}(h:SP (X.wish E) pins D f s'):SP X pins D f s':=by
 cases f with
 |next=>obtain⟨σ',H',I,q⟩:=h;exact⟨σ',H',I.unwish,q⟩
 |brk=>obtain⟨σ',H',I,q⟩:=h;exact⟨σ',H',I.unwish,q⟩
 |cont=>obtain⟨σ',H',I,q⟩:=h;exact⟨σ',H',I.unwish,q⟩
 |ret u=>obtain⟨v,σ',H',I,r,q⟩:=h;exact⟨v,σ',H',I.unwish,r,q⟩
theorem PT.nox{t:TT}(h:PT X.nox e t):PT X e t:=λpins s σ H Q I hw=>
 wpAny_mono (h pins s σ H Q (I.wish _) hw) (λ_ _ ⟨H',I',q⟩=>⟨H',I'.unwish,q⟩) λ_ _ z=>False.elim z
theorem PSs.nox{st:List Stmt}{t:TS}(h:PSs X.nox st t):PSs X st t:=λpins s σ H D I hw=>
 wpAny_mono (h pins s σ H D (I.wish _) hw) (λ_ _ q=>q.unwish) λ_ _ z=>False.elim z
variable{te:TE}{c:Expr}{tc:TT}
section
variable {st:Stmt}{rest:List Stmt}{t u:TS}
def K2:TS:=λD σ H=>D.nx σ H
def L6(t u:TS):TS:=λD σ H=>t {D with nx:=u D} σ H
theorem TC:PSs X [] K2:=λ_ _ σ H _ I h=>wpAny_execs_nil ⟨σ,H,I,h⟩
theorem Wl(h1:PS X st t)(h2:PSs X rest u):PSs X (st::rest) (L6 t u):=by
 intro pins s σ H D I h
 refine wpAny_execs_cons (thn (h1 pins s σ H {D with nx:=u D} I h) λf s1 q=>?_)
 cases f with
 |next=>
  obtain⟨σ',H',I',q⟩:=q
  exact h2 pins s1 σ' H' D I' q
 |ret v=>exact q
 |brk=>exact q
 |cont=>exact q
theorem Jv(h1:PS X st t):PSs X [st] t:=by
 intro pins s σ H D I h
 refine wpAny_execs_cons (thn (h1 pins s σ H D I h) λf s1 q=>?_)
 cases f with
 |next=>exact wpAny_execs_nil q
 |ret v=>exact q
 |brk=>exact q
 |cont=>exact q
theorem Inv.quiet(I:Inv X pins σ H s):interactive X.env=false:=by simp[interactive,I.ok.kind]
def E2(te:TE):TS:=λD σ H=>te σ H λ_ H1=>D.nx σ H1
theorem Vl(he:PE X e te)(hs:swapsWith e none pos.line X.env=pure false:=by rfl):PS X (.Expr e pos) (E2 te):=by
 intro pins s σ H D I h
 exact wpAny_Expr_any (thn (he pins s σ H _ I h) λv s1 ⟨x,H1,I1,r1,q1⟩=>⟨σ,H1,I1,q1⟩) I.quiet hs
def K6(te:TE):TS:=λD σ H=>te σ H D.rt
theorem IK(he:PE X e te):PS X (.Return (some e) pos) (K6 te):=by
 intro pins s σ H D I h
 exact wpAny_Return_some (thn (he pins s σ H _ I h) λv s1 ⟨x,H1,I1,r1,q1⟩=>⟨x,σ,H1,I1,r1,q1⟩)
def E6(c:TT)(t u:TS):TS:=λD σ H=>c σ H λb H1=>if b=true then t D σ H1 else u D σ H1
theorem M1{a b:List Stmt}(hc:PT X c tc)(ha:PSs X a t)(hb:PSs X b u):PS X (.If c a b pos) (E6 tc t u):=by
 intro pins s σ H D I h
 refine wpAny_If (thn (hc pins s σ H _ I h) λd s1 ⟨H1,I1,q1⟩=>?_)
 cases d with
 |true=>exact ha pins s1 σ H1 D I1 q1
 |false=>exact hb pins s1 σ H1 D I1 q1
def RY:TS:=λ_ _ _=>False
theorem HK:PS X st RY:=λ_ _ _ _ _ _ h=>h.elim
end
abbrev TG:=V->St->Hp->(St->Hp->Prop)->Prop
abbrev IM:=List V->St->Hp->(St->Hp->Prop)->Prop
def PG(X:Cx)(target:Expr)(t:TG):Prop:=
 ∀ (pins:List (Addr×Obj)) (s:Shared) (σ:St) (H:Hp) (v:V) (u:Value) (Q:St->Hp->Prop),Inv X pins σ H s->RelV v u->t v σ H Q->
  wpAny (model X.prog X.w) X.A (assign target X.env u) (λ_ s'=>∃ σ' H',Inv X pins σ' H' s'/\Q σ' H') X.xe s
def PGs(X:Cx)(ts:List Expr)(t:IM):Prop:=
 ∀ (pins:List (Addr×Obj)) (s:Shared) (σ:St) (H:Hp) (vs:List V) (us:List Value) (Q:St->Hp->Prop),Inv X pins σ H s->Vals vs us->t vs σ H Q->
  wpAny (model X.prog X.w) X.A (assignInOrder ((assignEach ts X.env).map (·.2)) us) (λ_ s'=>∃ σ' H',Inv X pins σ' H' s'/\Q σ' H') X.xe s
abbrev ZS:=V->V->V->Hp->(Hp->Prop)->Prop
def SZ(X:Cx)(t:ZS):Prop:=
 ∀ (pins:List (Addr×Obj)) (s:Shared) (σ:St) (H:Hp) (o i v:V) (ov iv u:Value) (Q:Hp->Prop),Inv X pins σ H s->RelV o ov->RelV i iv->RelV v u->t o i v H Q->
  wpAny (model X.prog X.w) X.A (setItem ov iv u) (λ_ s'=>∃ H',Inv X pins σ H' s'/\Q H') X.xe s
variable{es:List Expr}{k n:Nat}{tg:Expr}{g:TG}{pos':Pos}
def Xw(i:Nat):TG:=λv σ H Q=>Q (σ.set i (some v)) H
theorem MQ(hN:X.N.Nodup)(hi:X.N[i]? =some x)(hx:Ez X.env.scope x)(hf:X.fn x=true\/X.env.scope.names.lookup x=some .local:=by first|exact .inl rfl|exact .inr rfl|assumption):PG X (.Name x pos) (Xw i):=by
 intro pins s σ H v u Q I r h
 exact wpAny_assign_Name (Dm I hN hi hx r (λs' I'=>⟨_,H,I',h⟩) hf)
def T4:IM:=λvs σ H Q=>vs= []/\Q σ H
def P0(t:TG)(u:IM):IM:=λvs σ H Q=>∃ v r,vs=v::r/\t v σ H λσ' H'=>u r σ' H' Q
theorem NQ:PGs X [] T4:=by
 intro pins s σ H vs us Q I r h
 obtain⟨e,h⟩:=h
 subst e
 cases r
 exact assignInOrder_nil ⟨σ,H,I,h⟩
theorem GK{t:TG}{u:IM}(h1:PG X e t)(h2:PGs X es u)(hs:(assignEach (e::es) X.env).map (·.2)=assign e X.env::(assignEach es X.env).map (·.2):=by rfl):PGs X (e::es) (P0 t u):=by
 intro pins s σ H vs us Q I r h
 obtain⟨v,vr,e1,h⟩:=h
 subst e1
 cases r with
 |cons r rr=>
  rw[hs]
  refine assignInOrder_cons (thn (h1 pins s σ H _ _ _ I r h) λ_ s1 ⟨σ1,H1,I1,q1⟩=>?_)
  exact h2 pins s1 σ1 H1 _ _ Q I1 rr q1
def V4(K:Frag)(n:Nat)(t:IM):TG:=λv σ H Q=>∃ a xs,v=.ref a/\SqT K H a xs/\xs.length=n/\t xs σ H Q
theorem HX{t:IM}(hc:X.calm=true)(h:PGs X es t)(hn:(assignEach es X.env).length=n:=by rfl)(hst:(assignEach es X.env).findIdx? (·.1)=none:=by rfl):PG X (.Tuple es k pos) (V4 X.K n t):=by
 intro pins s σ H v u Q I r hw
 obtain⟨a,xs,e1,hq,hl,hw⟩:=hw
 subst e1
 cases r
 obtain⟨its,rv,ht,hz⟩:=I.tuple hq
 refine assign_Tuple_tuple (I.ok.hd hc) ht (by simp[hn,<-hl,rv.length]) hst λh' hx=>?_
 have I1:Inv X pins σ H {s with heap:=h'}:=I.kept (t':=s.toks) λb o e=>hx b o (ne_of_lt (lt_size e)) e
 exact h pins _ σ H xs _ Q I1 (by simpa using rv) hw
def U4(to ti:TE)(t:ZS):TG:=λv σ H Q=>to σ H λo H1=>ti σ H1 λi H2=>t o i v H2 λH3=>Q σ H3
theorem GX{o i:Expr}{to ti:TE}{t:ZS}(ho:PE X o to)(hi:PE X i ti)(hs:SZ X t)(ha:∀ v,assign (.Subscript o i pos) X.env v=(do
   let ov <-holding [v] (eval o X.env)
   let iv <-holding [v,ov] (eval i X.env)
   standAt pos
   holding [v,ov,iv] (setItem ov iv v)
   release [v,ov,iv] []):=by intro _;rfl):PG X (.Subscript o i pos) (U4 to ti t):=by
 intro pins s σ H v u Q I r h
 rw[ha]
 refine wpAny_bind (wpAny_holding (thn (ho pins s σ H _ I h) λov s1 ⟨x,H1,I1,r1,q1⟩=>?_))
 refine wpAny_bind (wpAny_holding (thn (hi pins s1 σ H1 _ I1 q1) λiv s2 ⟨y,H2,I2,r2,q2⟩=>?_))
 refine wpAny_bind (wpAny_standAt (wpAny_bind (wpAny_holding (thn (hs pins s2 σ H2 x y v ov iv u _ I2 r1 r2 r q2) λ_ s3 ⟨H3,I3,q3⟩=>?_))))
 exact wpAny_release ⟨σ,H3,I3,q3⟩
def PY(te:TE)(g:TG):TS:=λD σ H=>te σ H λx H1=>g x σ H1 D.nx
theorem NA(he:PE X e te)(hg:PG X tg g)(hs:swapsWithSole [tg] e pos.line X.env=pure false:=by rfl)(hw:swappedStores [tg] e X.env=pure none:=by rfl)(h1:(assignEach [tg] X.env).map (·.2)= [assign tg X.env]:=by rfl):PS X (.Assign [tg] e pos) (PY te g):=by
 intro pins s σ H D I h
 refine wpAny_Assign_stores (thn (he pins s σ H _ I h) λv s1 ⟨x,H1,I1,r1,q1⟩=>?_) hs hw
 rw[h1]
 exact thn (hg pins s1 σ H1 x v _ I1 r1 q1) λ_ s2 q=>q
theorem Iv(hN:X.N.Nodup)(hi:X.N[i]? =some x)(hx:Ez X.env.scope x)(he:PE X e te)(hs:swapsWith e (some (.Name x pos')) pos.line X.env=pure false:=by rfl)(hf:X.fn x=true\/X.env.scope.names.lookup x=some .local:=by first|exact .inl rfl|exact .inr rfl|assumption):
  PS X (.Assign [.Name x pos'] e pos) (PY te (Xw i)):=by
 intro pins s σ H D I h
 refine wpAny_Assign_Name (thn (he pins s σ H _ I h) λv s1 ⟨y,H1,I1,r1,q1⟩=>?_) hs
 exact Dm I1 hN hi hx r1 (λs2 I2=>⟨_,H1,I2,q1⟩) hf
variable{body:List Stmt}
def SY(c:TT)(tb:TS):TS:=λD σ H=>∃ W:Nat->St->Hp->Prop,(∃ m,W m σ H)/\∀ m σ H,W m σ H->
 c σ H λb H1=>if b=true then ∃ N:St->Hp->Prop,(∀ σ' H',N σ' H'->∃ m',m'<m/\W m' σ' H')/\tb {D with nx:=N,ct:=N,bk:=D.nx} σ H1 else D.nx σ H1
theorem JK{tb:TS}(hp:PassesOwn (model X.prog X.w) X.A X.env X.xe)(hc:PT X c tc)(hb:PSs X body tb):PS X (.While c body [] pos) (SY tc tb):=by
 intro pins s σ H D I h
 obtain⟨W,⟨m0,w0⟩,turn⟩:=h
 refine wpAny_While (codeAny_whileLoop (λn s'=>∃ σ' H',Inv X pins σ' H' s'/\W n σ' H') ?_ m0 ⟨σ,H,I,w0⟩)
 rintro n s1 ⟨σ1,H1,I1,w1⟩
 refine wpAny_passesOwn hp (thn (hc pins s1 σ1 H1 _ I1 (turn n σ1 H1 w1)) λb s2 ⟨H2,I2,q2⟩=>?_)
 cases b with
 |true=>
  obtain⟨N,hN,q2⟩:=q2
  rw[if_pos rfl]
  refine wpAny_passesOwn hp (thn (hb pins s2 σ1 H2 _ I2 q2) λf s3 q3=>?_)
  cases f with
  |next=>
   obtain⟨σ3,H3,I3,n3⟩:=q3
   obtain⟨m',hm,w3⟩:=hN σ3 H3 n3
   exact⟨m',hm,σ3,H3,I3,w3⟩
  |cont=>
   obtain⟨σ3,H3,I3,n3⟩:=q3
   obtain⟨m',hm,w3⟩:=hN σ3 H3 n3
   exact⟨m',hm,σ3,H3,I3,w3⟩
  |brk=>exact q3
  |ret v=>exact q3
 |false=>
  rw[if_neg Bool.false_ne_true]
  exact wpAny_execs_nil ⟨σ1,H2,I2,q2⟩
structure It where
 go:Nat->Hp->Prop
 yld:Nat->Hp->V->Hp->Prop
 stop:Nat->Hp->Prop
def Jk(X:Cx)(pins:List (Addr×Obj))(H:Hp)(b:Addr):Prop:=
 H b=none/\b≠X.env.locals/\b∉X.fs/\(b∈X.ex\/X.s₀.heap.objs.size<=b)/\(∀ x c,X.env.cells.lookup x=some c->c≠b)/\∀ p∈X.pn++pins,p.1≠b
theorem Inv.fpOk{b:Addr}(I:Inv X pins σ H s)(hb:s.heap.objs.size<=b)(hn:H' b=none):Jk X pins H' b:=by
 refine⟨hn,ne_of_gt (lt_of_lt_of_le I.lt hb),I.nofs hb,.inr (le_trans I.sz hb),λx c e z=>?_,λp hp z=>?_⟩
 .obtain⟨v,q⟩:=I.cell x c e
  exact absurd (lt_of_lt_of_le q.lt (by rw[z];exact hb)) (lt_irrefl _)
 .exact absurd (lt_of_lt_of_le (lt_size (I.pin p hp).1) (by rw[z];exact hb)) (lt_irrefl _)
structure Turn(P:Program)(w:World)(K:Frag)(tg:Expr)(J:It)(fp:List Addr)(it:Addr)(tn:Nat->Heap->Prop):Prop where
 mem:it∈fp
 obj:∀ i h,tn i h->∀ b∈fp,∃ o,h.get? b=some o/\∀ v,o.data≠ .cell v
 keep:∀ i h h',tn i h->(∀ b∈fp,∀ o,h.get? b=some o->h'.get? b=some o)->tn i h'
 item:∀ (X:Cx),X.prog=P->X.w=w->X.K=K->X.calm=true->∀ (i:Nat) (pins:List (Addr×Obj)) (s:Shared) (σ:St) (H:Hp) (E:Value->Shared->Prop),Inv X pins σ H s->(∀ b∈fp,Jk X pins H b)->tn i s.heap->J.go i H->
  wpAny (model P w) X.A (pyNext (.ref it)) (λr s1=>∃ u,r=some u/\
   wpAny (model P w) X.A (letOwnedTupleGo tg (.ref it) u) (λ_ s2=>∃ x H',Inv X pins σ H' s2/\RelV x u/\J.yld i H x H'/\tn (i+1) s2.heap/\∀ b∈fp,H' b=none) E s1) E s
 done:∀ (X:Cx),X.prog=P->X.w=w->X.K=K->X.calm=true->∀ (i:Nat) (pins:List (Addr×Obj)) (s:Shared) (σ:St) (H:Hp) (E:Value->Shared->Prop),Inv X pins σ H s->(∀ b∈fp,Jk X pins H b)->tn i s.heap->J.stop i H->
  wpAny (model P w) X.A (pyNext (.ref it)) (λr s1=>r=none/\Inv X pins σ H s1) E s
 self:∀ (A:Around) (i:Nat) (s:Shared) (Q:Value->Shared->Prop) (E:Value->Shared->Prop),tn i s.heap->Q (.ref it) s->wpAny (model P w) A (pyIter (.ref it)) Q E s
abbrev TI:=St->Hp->(It->Hp->Prop)->Prop
def T6(X:Cx)(pins:List (Addr×Obj))(σ:St)(tg:Expr)(R:It->Hp->Prop)(itv:Value)(s2:Shared):Prop:=
 ∃ (it:Addr) (fp:List Addr) (tn:Nat->Heap->Prop) (J:It) (H':Hp),itv=.ref it/\Inv X pins σ H' s2/\Turn X.prog X.w X.K tg J fp it tn/\tn 0 s2.heap/\(∀ b∈fp,Jk X pins H' b)/\R J H'
def PI(X:Cx)(tg iter:Expr)(wi:TI):Prop:=
 ∀ (pins:List (Addr×Obj)) (s:Shared) (σ:St) (H:Hp) (R:It->Hp->Prop),Inv X pins σ H s->wi σ H R->
  wpAny (model X.prog X.w) X.A (eval iter X.env) (λv s1=>wpAny (model X.prog X.w) X.A (pyIter v) (T6 X pins σ tg R) X.xe s1) X.xe s
theorem FC{E : Value -> Shared -> Prop}{n : String}{vs : Array Value}{Q : Unit -> Shared -> Prop}(ho : s.heap.get? it = some o)(hc : o.cls = .type n)(hd : o.data = .fields vs)(hn : ["enumerate", "zip", "dict_itemiterator", "dict_reverseitemiterator", "odict_iterator", "itertools.zip_longest", "itertools.pairwise"].contains n = false)(hQ : Q () s) : wpAny M A (letOwnedTupleGo tg (.ref it) u) Q E s := by
  unfold letOwnedTupleGo
  cases tg <;> first
    | exact wpAny_pure hQ
    | (cases u <;> first
        | exact wpAny_pure hQ
        | (refine wpAny_bind (wpAny_load ho ?_)
           rw[hc, hd]
           show wpAny M A (if(["enumerate", "zip", "dict_itemiterator", "dict_reverseitemiterator", "odict_iterator", "itertools.zip_longest", "itertools.pairwise"].contains n && vs[0]? == some (rawInt _)) = true then _ else _) Q E s
           rw[if_neg (by intro h; rw[hn, Bool.false_and]at h; cases h)]
           exact wpAny_pure hQ))
def D4(K:Frag)(a:Addr):It:=
 ⟨λi H=>∃ xs x,SqL K H a xs/\xs[i]? =some x,λi H x H'=>H'=H/\∀ xs,SqL K H a xs->xs[i]? =some x,λi H=>∃ xs,SqL K H a xs/\xs.length<=i⟩
def E4(K:Frag)(a:Addr):It:=
 ⟨λi H=>∃ xs x,SqT K H a xs/\xs[i]? =some x,λi H x H'=>H'=H/\∀ xs,SqT K H a xs->xs[i]? =some x,λi H=>∃ xs,SqT K H a xs/\xs.length<=i⟩
def Itr(lo:Int)(n:Nat):It:=⟨λi _=>i<n,λi H x H'=>H'=H/\x=.int (lo+i),λi _=>n<=i⟩
theorem CG(a it:Addr):Turn P w K tg (D4 K a) [it] it (λi h=>h.IsListIter it a i) where
 mem:=by simp
 obj:=λi h st b hb=>by
  have e:b=it:=by simpa using hb
  subst e
  obtain⟨o,e,c,d⟩:=st
  exact⟨o,e,λv z=>by rw[d]at z;cases z⟩
 keep:=λi h h' st k=>st.at λo e=>k it (by simp) o e
 item:=by
  intro X hP hw hK hc i pins s σ H E I hf st hg
  subst hP hw hK
  obtain⟨xs,x,hq,hx⟩:=hg
  obtain⟨its,rv,p,hz⟩:=I.list hq
  obtain⟨u,hu,ru⟩:=rv.get hx
  obtain⟨f0,f1,f2,f3,f4,f5⟩:=hf it (by simp)
  refine wpAny_pyNext_list_item st p.isList (x:=u) (by simpa using hu) λh' st' sb=>?_
  have I1:Inv X pins σ H {s with heap:=h'}:=I.turned (t':=s.toks) (λb o hb e=>(sb.2 b hb).trans e) f0 f1 f3 f4 f5
  obtain⟨o,e,c,d⟩:=id st'
  exact⟨u,rfl,FC (s:= {s with heap:=h'}) e c d (by decide) ⟨x,H,I1,ru,⟨rfl,λys hy=>by rw[I.list_inj hy hq];exact hx⟩,st',λb hb=>(hf b hb).1⟩⟩
 done:=by
  intro X hP hw hK hc i pins s σ H E I hf st hg
  subst hP hw hK
  obtain⟨xs,hq,hx⟩:=hg
  obtain⟨its,rv,p,hz⟩:=I.list hq
  obtain⟨f0,f1,f2,f3,f4,f5⟩:=hf it (by simp)
  have hl:=rv.length
  exact wpAny_pyNext_list_end (I.ok.hd hc) st p.isList (by simp;omega) λh' eb=>⟨rfl,I.turned (t':=s.toks) (λb o hb e=>eb b o hb e) f0 f1 f3 f4 f5⟩
 self:=λ_ _ _ _ _ st h=>wpAny_pyIter_listiter st h
theorem GB(a it:Addr):Turn P w K tg (E4 K a) [it] it (λi h=>h.IsTupleIter it a i) where
 mem:=by simp
 obj:=λi h st b hb=>by
  have e:b=it:=by simpa using hb
  subst e
  obtain⟨o,e,c,d⟩:=st
  exact⟨o,e,λv z=>by rw[d]at z;cases z⟩
 keep:=λi h h' st k=>st.at λo e=>k it (by simp) o e
 item:=by
  intro X hP hw hK hc i pins s σ H E I hf st hg
  subst hP hw hK
  obtain⟨xs,x,hq,hx⟩:=hg
  obtain⟨its,rv,p,hz⟩:=I.tuple hq
  obtain⟨u,hu,ru⟩:=rv.get hx
  obtain⟨f0,f1,f2,f3,f4,f5⟩:=hf it (by simp)
  refine wpAny_pyNext_tuple_item st (show s.heap.IsTuple a its.toArray from p) (x:=u) (by simpa using hu) λh' st' sb=>?_
  have I1:Inv X pins σ H {s with heap:=h'}:=I.turned (t':=s.toks) (λb o hb e=>(sb.2 b hb).trans e) f0 f1 f3 f4 f5
  obtain⟨o,e,c,d⟩:=id st'
  exact⟨u,rfl,FC (s:= {s with heap:=h'}) e c d (by decide) ⟨x,H,I1,ru,⟨rfl,λys hy=>by rw[I.tuple_inj hy hq];exact hx⟩,st',λb hb=>(hf b hb).1⟩⟩
 done:=by
  intro X hP hw hK hc i pins s σ H E I hf st hg
  subst hP hw hK
  obtain⟨xs,hq,hx⟩:=hg
  obtain⟨its,rv,p,hz⟩:=I.tuple hq
  obtain⟨f0,f1,f2,f3,f4,f5⟩:=hf it (by simp)
  have hl:=rv.length
  exact wpAny_pyNext_tuple_end (I.ok.hd hc) st (show s.heap.IsTuple a its.toArray from p) (by simp;omega) λh' eb=>⟨rfl,I.turned (t':=s.toks) (λb o hb e=>eb b o hb e) f0 f1 f3 f4 f5⟩
 self:=λ_ _ _ _ _ st h=>wpAny_pyIter_tupleiter st h
theorem FB(it:Addr)(lo:Int)(n:Nat):Turn P w K tg (Itr lo n) [it] it (λi h=>IsRangeIter h it (lo+(i:Nat)*1) ((n:Int)-(i:Nat)) 1) where
 mem:=by simp
 obj:=λi h st b hb=>by
  have e:b=it:=by simpa using hb
  subst e
  exact⟨_,st,λv z=>by
   have z':Data.fields _=Data.cell v:=z
   cases z'⟩
 keep:=λi h h' st k=>k it (by simp) _ st
 item:=by
  intro X hP hw hK hc i pins s σ H E I hf st hg
  subst hP hw hK
  obtain⟨f0,f1,f2,f3,f4,f5⟩:=hf it (by simp)
  have W:=Walks.range (prog:=X.prog) (w:=X.w) (I.ok.hd hc) it lo 1 n
  refine W.item i s _ _ hg st λv h' tk hv st' kk=>?_
  obtain⟨t,rfl⟩:=hv
  have I1:Inv X pins σ H {s with heap:=h',toks:=tk}:=I.turned (λb o hb e=>kk b o (by simpa using hb) e) f0 f1 f3 f4 f5
  refine⟨_,rfl,FC (s:= {s with heap:=h',toks:=tk}) (n:="range_iterator") st' rfl rfl (by decide) ⟨.int (lo+i),H,I1,⟨t,?_⟩,⟨rfl,rfl⟩,st',λb hb=>(hf b hb).1⟩⟩
  rw[Int.mul_one]
 done:=by
  intro X hP hw hK hc i pins s σ H E I hf st hg
  subst hP hw hK
  obtain⟨f0,f1,f2,f3,f4,f5⟩:=hf it (by simp)
  exact wpAny_pyNext_range_end (I.ok.hd hc) st (by have:n<=i:=hg;omega) λh' eb=>⟨rfl,I.turned (t':=s.toks) (λb o hb e=>eb b o hb e) f0 f1 f3 f4 f5⟩
 self:=λ_ _ _ _ _ st h=>wpAny_pyIter_rangeiter st h
variable{fp:List Addr}
theorem Fy{R:It->Hp->Prop}{lo hi:Int}{t u v:Tok}{tk:Nat}(I:Inv X pins σ H s)(h1: -(2^62)<=lo)(h2:lo<2^62)(h3: -(2^62)<=hi)(h4:hi<2^62)(q:R (Itr lo (hi-lo).toNat) H):wpAny (model X.prog X.w) X.A (pyIter (.ref s.heap.objs.size)) (T6 X pins σ tg R) E {s with heap:=s.heap.push {cls:=.type "range",data:=.fields #[.int lo t,.int hi u,.int 1 v]},toks:=tk}:=by
 refine wpAny_pyIter_range (IsRange.new ..) (small_one h1 h2 h3 h4) ?_
 have I1:Inv X pins σ H {s with heap:=s.heap.push {cls:=.type "range",data:=.fields #[.int lo t,.int hi u,.int 1 v]},toks:=tk}:=I.kept λb o e=>get?_push_of_some _ e
 refine⟨(s.heap.push {cls:=.type "range",data:=.fields #[.int lo t,.int hi u,.int 1 v]}).objs.size,[(s.heap.push {cls:=.type "range",data:=.fields #[.int lo t,.int hi u,.int 1 v]}).objs.size],_,_,H,rfl,
  I1.kept (t':=tk) λb o e=>get?_push_of_some _ e,FB _ lo (hi-lo).toNat,?_,λb hb=>?_,q⟩
 .have e1:lo+((0:Nat):Int)*1=lo:=by simp
  have e2:(((hi-lo).toNat:Nat):Int)-((0:Nat):Int)=Builtin.Range.rangeSize lo hi 1:=by rw[rangeSize_one];split<;>omega
  show IsRangeIter _ _ (lo+((0:Nat):Int)*1) ((((hi-lo).toNat:Nat):Int)-((0:Nat):Int)) 1
  rw[e1,e2]
  exact get?_push_size _ rfl
 .have e:b=(s.heap.push {cls:=.type "range",data:=.fields #[.int lo t,.int hi u,.int 1 v]}).objs.size:=by simpa using hb
  subst e
  exact I1.fpOk (le_refl _) (I1.hok.fresh (le_refl _))
def R0(ta:TA):TI:=λσ H R=>ta σ H λvs H1=>∃ j:Int,vs= [.int j]/\ -(2^62)<=j/\j<2^62/\R (Itr 0 j.toNat) H1
def S0(ta:TA):TI:=λσ H R=>ta σ H λvs H1=>∃ i j:Int,vs= [.int i,.int j]/\(-(2^62)<=i/\i<2^62/\ -(2^62)<=j/\j<2^62)/\R (Itr i (j-i).toNat) H1
theorem TF{ta:TA}{p:Pos}(hg:Gl X "range")(hm:X.mg "range"=none)(ha:PA X [a] ta)(hs:starEach [a] X.env= [(false,eval a X.env)]:=by rfl):PI X tg (.Call (.Name "range" p) [a] [] pos) (R0 ta):=by
 intro pins s σ H R I h
 refine Call_ (Lf I hg hm boot_range (PyProof.Rows.callWith_type1 (thn (ha pos pins s σ H _ I h) λus s1 ⟨vs,H1,I1,r1,q1⟩=>?_) hs rfl))
 obtain⟨j,e,q1,q2,q⟩:=q1
 subst e
 cases r1 with
 |cons r rr=>
  cases rr
  obtain⟨t,rfl⟩:=r
  exact call_range_1 (Fy I1 (by omega) (by omega) q1 q2 (by simpa using q))
theorem UF{ta:TA}{p:Pos}(hg:Gl X "range")(hm:X.mg "range"=none)(ha:PA X [a,b] ta)(hs:starEach [a,b] X.env= [(false,eval a X.env),(false,eval b X.env)]:=by rfl)(hs2:starEach [b] X.env= [(false,eval b X.env)]:=by rfl):
  PI X tg (.Call (.Name "range" p) [a,b] [] pos) (S0 ta):=by
 intro pins s σ H R I h
 refine Call_ (Lf I hg hm boot_range (PyProof.Rows.callWith_type1 (thn (ha pos pins s σ H _ I h) λus s1 ⟨vs,H1,I1,r1,q1⟩=>?_) (by rw[hs,hs2]) (by rw[hs2];rfl)))
 obtain⟨i,j,e,⟨q1,q2,q3,q4⟩,q⟩:=q1
 subst e
 cases r1 with
 |cons r rr=>
  cases rr with
  |cons r' rr=>
   cases rr
   obtain⟨t,rfl⟩:=r
   obtain⟨t',rfl⟩:=r'
   exact call_range_2 (Fy I1 q1 q2 q3 q4 q)
def D6(wi:TI)(g:TG)(tb:TS):TS:=λD σ H=>wi σ H λJ H1=>∃ W:Nat->Nat->St->Hp->Prop,(∃ m,W 0 m σ H1)/\∀ i m σ H,W i m σ H->
 (J.stop i H/\D.nx σ H)\/(J.go i H/\∃ N:St->Hp->Prop,(∀ σ' H',N σ' H'->∃ m',m'<m/\W (i+1) m' σ' H')/\∀ x H',J.yld i H x H'->g x σ H' λσ2 H2=>tb {D with nx:=N,ct:=N,bk:=D.nx} σ2 H2)
def Pq(fp:List Addr)(h:Heap):List (Addr×Obj):=fp.filterMap λb=>(h.get? b).map λo=>(b,o)
theorem Ui{h:Heap}{b:Addr}(hb:b∈fp)(e:h.get? b=some o):(b,o)∈Pq fp h:=List.mem_filterMap.mpr ⟨b,hb,by rw[e];rfl⟩
theorem NF{h:Heap}{p:Addr×Obj}(hp:p∈Pq fp h):p.1∈fp/\h.get? p.1=some p.2:=by
 obtain⟨b,hb,e⟩:=List.mem_filterMap.mp hp
 cases q:h.get? b with
 |none=>rw[q]at e;cases e
 |some o=>
  rw[q]at e
  have e':(b,o)=p:=Option.some.inj e
  subst e'
  exact⟨hb,q⟩
theorem Inv.pinned(I:Inv X pins σ H s)(hf:∀ b∈fp,Jk X pins H b)(ho:∀ b∈fp,∃ o,s.heap.get? b=some o/\∀ v,o.data≠ .cell v):Inv X (pins++Pq fp s.heap) σ H s:=
 I.pins_of λp hp=>(mem_append.mp hp).elim (λz=>I.pin p (mem_append_right _ z)) λz=>by
  obtain⟨hb,e⟩:=NF z
  obtain⟨f0,f1,f2,_⟩:=hf p.1 hb
  obtain⟨o,e',d⟩:=ho p.1 hb
  rw[e]at e';cases e'
  exact⟨e,f0,f1,f2,d⟩
theorem Inv.unpinned{pl:List (Addr×Obj)}(I:Inv X (pins++pl) σ H s):Inv X pins σ H s:=I.pins_of λp hp=>I.pin p (mem_append_right _ (mem_append_left _ hp))
theorem PX{iter:Expr}{wi:TI}{tb:TS}(hp:PassesOwn (model X.prog X.w) X.A X.env X.xe)(hc:X.calm=true)(hi:PI X tg iter wi)(hg:PG X tg g)(hb:PSs X body tb)(hs:∀ x,foldedSetIterable iter X.env x=pure x:=by intro _;rfl):PS X (.For tg iter body [] pos) (D6 wi g tb):=by
 intro pins s σ H D I h
 refine wpAny_For (thn (hi pins s σ H _ I h) λv s1 h1=>thn h1 λitv s2 h2=>?_) hs
 obtain⟨it,fp,tn,J,H2,e,I2,T,st2,f2,W,⟨m0,w0⟩,turn⟩:=h2
 subst e
 have stat:∀ {H':Hp},(∀ b∈fp,H' b=none)->∀ b∈fp,Jk X pins H' b:=λhn b hb=>⟨hn b hb,(f2 b hb).2⟩
 refine codeAny_forLoop_any (λn s'=>∃ i σ' H',Inv X pins σ' H' s'/\tn i s'.heap/\(∀ b∈fp,H' b=none)/\W i n σ' H') ?_ m0 ⟨0,σ,H2,I2,st2,λb hb=>(f2 b hb).1,w0⟩
 rintro n s3 ⟨i,σ3,H3,I3,st3,fr3,w3⟩
 rcases turn i n σ3 H3 w3 with⟨stop,qn⟩|⟨go,N,hN,step⟩
 .refine wpAny_passesOwn hp (thn (T.done X rfl rfl rfl hc i pins s3 σ3 H3 X.xe I3 (stat fr3) st3 stop) λr s4 ⟨hr,I4⟩=>?_)
  subst hr
  exact wpAny_execs_nil ⟨σ3,H3,I4,qn⟩
 .refine wpAny_passesOwn hp (thn (T.item X rfl rfl rfl hc i pins s3 σ3 H3 X.xe I3 (stat fr3) st3 go) λr s4 ⟨u,hr,h4⟩=>?_)
  subst hr
  refine wpAny_passesOwn hp (thn h4 λ_ s5 ⟨x,H5,I5,r5,y5,st5,fr5⟩=>?_)
  have I5':=I5.pinned (stat fr5) (T.obj _ _ st5)
  refine wpAny_passesOwn hp (thn (hg _ s5 σ3 H5 x u _ I5' r5 (step x H5 y5)) λ_ s6 ⟨σ6,H6,I6,q6⟩=>?_)
  refine wpAny_passesOwn hp (thn (hb _ s6 σ6 H6 _ I6 q6) λf s7 q7=>?_)
  have again:∀ {σ7:St} {H7:Hp},Inv X (pins++Pq fp s5.heap) σ7 H7 s7->N σ7 H7->∃ m,m<n/\∃ i σ' H',Inv X pins σ' H' s7/\tn i s7.heap/\(∀ b∈fp,H' b=none)/\W i m σ' H':=λ{σ7 H7} I7 n7=>by
   obtain⟨m',hm,w7⟩:=hN σ7 H7 n7
   refine⟨m',hm,i+1,σ7,H7,I7.unpinned,T.keep _ _ _ st5 λb hb o e=>(I7.pin (b,o) (mem_append_right _ (mem_append_right _ (Ui hb e)))).1,λb hb=>?_,w7⟩
   obtain⟨o,e,d⟩:=T.obj _ _ st5 b hb
   exact(I7.pin (b,o) (mem_append_right _ (mem_append_right _ (Ui hb e)))).2.1
  cases f with
  |next=>obtain⟨σ7,H7,I7,n7⟩:=q7;exact again I7 n7
  |cont=>obtain⟨σ7,H7,I7,n7⟩:=q7;exact again I7 n7
  |brk=>obtain⟨σ7,H7,I7,q7⟩:=q7;exact⟨σ7,H7,I7.unpinned,q7⟩
  |ret v=>obtain⟨x7,σ7,H7,I7,r7,q7⟩:=q7;exact⟨x7,σ7,H7,I7.unpinned,r7,q7⟩
abbrev R2:=V->V->Hp->VK->Prop
def OpR(X:Cx)(f:Value->Value->Sem Value)(r:R2):Prop:=
 ∀ (pins:List (Addr×Obj)) (s:Shared) (σ:St) (H:Hp) (x y:V) (v u:Value) (Q:VK),Inv X pins σ H s->RelV x v->RelV y u->r x y H Q->
  wpAny (model X.prog X.w) X.A (f v u) (EP X pins σ Q) X.xe s
def Bl(X:Cx)(f:Value)(r:List V->Hp->VK->Prop):Prop:=
 ∀ (pins:List (Addr×Obj)) (s:Shared) (σ:St) (H:Hp) (xs:List V) (us:List Value) (Q:VK),Inv X pins σ H s->Vals xs us->r xs H Q->
  wpAny (model X.prog X.w) X.A (call f us) (EP X pins σ Q) X.xe s
def N2(r:R2)(ta tb:TE):TE:=λσ H Q=>ta σ H λx H1=>tb σ H1 λy H2=>r x y H2 Q
def rI(C:Int->Int->Prop)(g:Int->Int->V):R2:=λx y H Q=>∃ i j,x=.int i/\y=.int j/\C i j/\Q (g i j) H
def MZ(g:Int->Int->V):R2:=λx y H Q=>∃ i j,x=.int i/\y=.int j/\Q (g i j) H
variable{i:Int}{f:Value->Value->Sem Value}{tc:TE}{g:Int->Int->Int}{r:R2}
theorem QM(ha:PE X a ta)(hb:PE X b tb){R:V->V->Hp->Prop}(I:Inv X pins σ H s)(h:ta σ H λx H1=>tb σ H1 λy H2=>R x y H2)(hf:∀ v u s2 x y H2,Inv X pins σ H2 s2->RelV x v->RelV y u->R x y H2->wpAny (model X.prog X.w) X.A (f v u) Q X.xe s2):
  wpAny (model X.prog X.w) X.A (eval a X.env) (λv s₁=>wpAny (model X.prog X.w) X.A (eval b X.env) (λu s₂=>wpAny (model X.prog X.w) X.A (f v u) Q X.xe s₂) X.xe s₁) X.xe s:=by
 refine thn (ha pins s σ H _ I h) λv s1 ⟨x,H1,I1,r1,q1⟩=>?_
 refine thn (hb pins s1 σ H1 _ I1 q1) λu s2 ⟨y,H2,I2,r2,q2⟩=>?_
 exact hf v u s2 x y H2 I2 r1 r2 q2
theorem MS{op:Operator}(ho:OpR X (binaryOp op) r)(ha:PE X a ta)(hb:PE X b tb):PE X (.BinOp a op b pos) (N2 r ta tb):=by
 intro pins s σ H Q I h
 exact wpAny_BinOp (QM ha hb I h λv u s2 x y H2 I2 rx ry q=>ho pins s2 σ H2 x y v u Q I2 rx ry q)
theorem O3{C:Int->Int->Prop}(rule:∀ (i j:Int) (t u:Tok) (s:Shared) (Q:Value->Shared->Prop) (E:Value->Shared->Prop),C i j->Q (.int (g i j) s.toks) {s with toks:=s.toks+1}->wpAny (model X.prog X.w) X.A (f (.int i t) (.int j u)) Q E s):
  OpR X f (rI C λi j=>.int (g i j)):=by
 intro pins s σ H x y v u Q I rx ry h
 obtain⟨i,j,rfl,rfl,hc,q⟩:=h
 obtain⟨t,rfl⟩:=rx
 obtain⟨t',rfl⟩:=ry
 exact rule i j t t' s _ _ hc ⟨.int (g i j),H,I.tok _,⟨_,rfl⟩,q⟩
theorem Y0(rule:∀ (i j:Int) (t u:Tok) (s:Shared) (Q:Value->Shared->Prop) (E:Value->Shared->Prop),Q (.int (g i j) s.toks) {s with toks:=s.toks+1}->wpAny (model X.prog X.w) X.A (f (.int i t) (.int j u)) Q E s):
  OpR X f (MZ λi j=>.int (g i j)):=by
 intro pins s σ H x y v u Q I rx ry h
 obtain⟨i,j,rfl,rfl,q⟩:=h
 obtain⟨t,rfl⟩:=rx
 obtain⟨t',rfl⟩:=ry
 exact rule i j t t' s _ _ ⟨.int (g i j),H,I.tok _,⟨_,rfl⟩,q⟩
theorem X0{g:Int->Int->Bool}(rule:∀ (i j:Int) (t u:Tok) (s:Shared) (Q:Value->Shared->Prop) (E:Value->Shared->Prop),Q (.bool (g i j)) s->wpAny (model X.prog X.w) X.A (f (.int i t) (.int j u)) Q E s):
  OpR X f (MZ λi j=>.bl (g i j)):=by
 intro pins s σ H x y v u Q I rx ry h
 obtain⟨i,j,rfl,rfl,q⟩:=h
 obtain⟨t,rfl⟩:=rx
 obtain⟨t',rfl⟩:=ry
 exact rule i j t t' s _ _ ⟨.bl (g i j),H,I,rfl,q⟩
def V3(i j:Int):Prop:=0<j/\j<1073741824
def X3(i j:Int):Prop:=0<=j/\j<=1000000/\i.natAbs<2^64
def CMul(i j:Int):Prop:=(-(2^64)<i/\i<2^64)\/(-(2^64)<j/\j<2^64)
theorem CMul.ok{j:Int}(h:CMul i j):IntMulOk i j:=by
 rcases h with⟨h1,h2⟩|⟨h1,h2⟩
 .exact .of_left (intBits_le_64 h1 h2)
 .exact .of_right (intBits_le_64 h1 h2)
theorem NW:OpR X (binaryOp .Add) (MZ λi j=>.int (i+j)):=Y0 λ_ _ _ _ _ _ _ q=>add_int q
theorem WW:OpR X (binaryOp .Sub) (MZ λi j=>.int (i-j)):=Y0 λ_ _ _ _ _ _ _ q=>sub_int q
theorem TW:OpR X (binaryOp .Mult) (rI CMul λi j=>.int (i*j)):=O3 λ_ _ _ _ _ _ _ hc q=>mul_int q hc.ok
theorem PP:OpR X (binaryOp .FloorDiv) (rI V3 λi j=>.int (i / j)):=O3 λi j _ _ _ _ _ hc q=>by
 have h1:(0:Int)<j:=hc.1
 have h2:j<1073741824:=hc.2
 exact floordiv_int (by omega) (by rw[Int.fdiv_eq_ediv_of_nonneg i (by omega)];exact q) (.inl (PyProof.noPylong_small (by omega)))
theorem RW:OpR X (binaryOp .Mod) (rI (λ_ j=>0<j) λi j=>.int (i%j)):=O3 λi j _ _ _ _ _ hc q=>by
 have h1:(0:Int)<j:=hc
 exact mod_int' (by omega) (by rw[Int.fmod_eq_emod_of_nonneg i (by omega)];exact q)
theorem VW:OpR X (binaryOp .Pow) (rI X3 λi j=>.int (i^j.toNat)):=O3 λ_ _ _ _ _ _ _ hc q=>pow_int_small hc.1 hc.2.1 hc.2.2 q
def P5:V->V->Bool
 | .non,.non=>true| .non,.int _=>true| .int _,.non=>true| .non,.bl _=>true| .bl _,.non=>true| .non,.str _=>true| .str _,.non=>true
 | .int _,.int _=>true| .bl _,.bl _=>true| .str _,.str _=>true| .byt _,.byt _=>true
 | .int _,.str _=>true| .str _,.int _=>true| .bl _,.str _=>true| .str _,.bl _=>true
 |_,_=>false
def M7:R2:=λx y H Q=>P5 x y=true/\Q (.bl (decide (x=y))) H
theorem CN{j:Int}:decide (V.int i=V.int j)=(i==j):=by
 rw[Bool.eq_iff_iff]
 simp
theorem EU{i j:Bool}:decide (V.bl i=V.bl j)=(i==j):=by
 rw[Bool.eq_iff_iff]
 simp
theorem DN{i j:Str}:decide (V.str i=V.str j)=(i==j):=by
 rw[Bool.eq_iff_iff]
 simp
theorem BN{i j:Array UInt8}:decide (V.byt i=V.byt j)=(i.toList==j.toList):=by
 rw[Bool.eq_iff_iff]
 cases i
 cases j
 simp
theorem Od{Q:VK}{k k':Bool}(I:Inv X pins σ H s)(q:Q (.bl k) H)(e:k=k'):EP X pins σ Q (.bool k') s:=by
 subst e
 exact⟨.bl k,H,I,rfl,q⟩
theorem Z0:OpR X (compareOp .Eq) M7:=by
 intro pins s σ H x y v u Q I rx ry h
 obtain⟨hs,q⟩:=h
 cases x with
 |non=>
  cases rx
  cases y with
  |non=>cases ry;exact PySem.EqNone.eq_none_none (Od I q (by simp))
  |bl j=>cases ry;exact PySem.EqNone.eq_none_bool (Od I q (by simp))
  |int j=>obtain⟨t',rfl⟩:=ry;exact PySem.EqNone.eq_none_int (Od I q (by simp))
  |str j=>obtain⟨t',rfl⟩:=ry;exact PySem.EqNone.eq_none_str (Od I q (by simp))
  |_=>exact absurd (show false=true from hs) Bool.false_ne_true
 |bl i=>
  cases rx
  cases y with
  |non=>cases ry;exact PySem.EqNone.eq_bool_none (Od I q (by simp))
  |bl j=>cases ry;exact eq_bool (Od I q EU)
  |str j=>obtain⟨t',rfl⟩:=ry;exact PySem.EqMixed.eq_bool_str (Od I q (by simp))
  |_=>exact absurd (show false=true from hs) Bool.false_ne_true
 |int i=>
  obtain⟨t,rfl⟩:=rx
  cases y with
  |non=>cases ry;exact PySem.EqNone.eq_int_none (Od I q (by simp))
  |int j=>obtain⟨t',rfl⟩:=ry;exact eq_int (Od I q CN)
  |str j=>obtain⟨t',rfl⟩:=ry;exact PySem.EqMixed.eq_int_str (Od I q (by simp))
  |_=>exact absurd (show false=true from hs) Bool.false_ne_true
 |str i=>
  obtain⟨t,rfl⟩:=rx
  cases y with
  |non=>cases ry;exact PySem.EqNone.eq_str_none (Od I q (by simp))
  |bl j=>cases ry;exact PySem.EqMixed.eq_str_bool (Od I q (by simp))
  |int j=>obtain⟨t',rfl⟩:=ry;exact PySem.EqMixed.eq_str_int (Od I q (by simp))
  |str j=>obtain⟨t',rfl⟩:=ry;exact eq_str (Od I q DN)
  |_=>exact absurd (show false=true from hs) Bool.false_ne_true
 |byt i=>
  obtain⟨t,rfl⟩:=rx
  cases y with
  |byt j=>obtain⟨t',rfl⟩:=ry;exact PySem.W.eq_bytes (Od I q BN)
  |_=>exact absurd (show false=true from hs) Bool.false_ne_true
 |_=>cases y<;>exact absurd (show false=true from hs) Bool.false_ne_true
theorem D1:OpR X (compareOp .Lt) (MZ λi j=>.bl (decide (i<j))):=X0 λ_ _ _ _ _ _ _ q=>lt_int q
theorem B1:OpR X (compareOp .Gt) (MZ λi j=>.bl (decide (j<i))):=X0 λ_ _ _ _ _ _ _ q=>gt_int q
theorem QF:OpR X (compareOp .In) (λx y H Q=>∃ i j,x=.str i/\y=.str j/\Q (.bl (!(Builtin.Str.occurrences j i 0 j.length 1).isEmpty)) H):=by
 intro pins s σ H x y v u Q I rx ry h
 obtain⟨i,j,rfl,rfl,q⟩:=h
 obtain⟨t,rfl⟩:=rx
 obtain⟨t',rfl⟩:=ry
 exact in_str (Od I q rfl)
theorem OpR.or{r':R2}(h:OpR X f r)(h':OpR X f r'):OpR X f (λx y H Q=>r x y H Q\/r' x y H Q):=by
 intro pins s σ H x y v u Q I rx ry q
 rcases q with q|q
 .exact h pins s σ H x y v u Q I rx ry q
 .exact h' pins s σ H x y v u Q I rx ry q
theorem MJ(b:Expr)(h:op≠ .In:=by decide)(h2:op≠ .NotIn:=by decide):behindInMarks op b=false:=by
 have e1:(op==CmpOp.In)=false:=by cases op<;>first|rfl|exact absurd rfl h
 have e2:(op==CmpOp.NotIn)=false:=by cases op<;>first|rfl|exact absurd rfl h2
 cases b<;>simp[behindInMarks,e1,e2]
theorem QC(ho:OpR X (compareOp op) r)(ha:PE X a ta)(hb:PE X b tb)(hm:behindInMarks op b=false):PE X (.Compare a [op] [b] pos) (N2 r ta tb):=by
 intro pins s σ H Q I h
 exact wpAny_Compare1 (QM ha hb I h λv u s2 x y H2 I2 rx ry q=>ho pins s2 σ H2 x y v u Q I2 rx ry q) hm
def Q2(t:TE):TT:=λσ H Q=>t σ H λx H'=>∃ k,x=.bl k/\Q k H'
theorem Xo(ho:OpR X (compareOp op) r)(ha:PE X a ta)(hb:PE X b tb)(hm:behindInMarks op b=false):PT X (.Compare a [op] [b] pos) (Q2 (N2 r ta tb)):=by
 intro pins s σ H Q I h
 refine wpAny_isTrue_Compare1 (thn (ha pins s σ H _ I h) λv s1 ⟨x,H1,I1,r1,q1⟩=>thn (hb pins s1 σ H1 _ I1 q1) λu s2 ⟨y,H2,I2,r2,q2⟩=>
  thn (ho pins s2 σ H2 x y v u _ I2 r1 r2 q2) λc s3 ⟨z,H3,I3,r3,k,e,q3⟩=>?_) hm
 subst e
 cases r3
 exact wpAny_truthy_bool ⟨H3,I3,q3⟩
theorem Pu:(sizeLine:Nat)<2^63:=by rw[sizeLine_eq];decide
theorem LA:OpR X (binaryOp .Add) (λx y H Q=>∃ i j,x=.str i/\y=.str j/\i.length+j.length<=sizeLine/\Q (.str (i++j)) H):=by
 intro pins s σ H x y v u Q I rx ry h
 obtain⟨i,j,rfl,rfl,hz,q⟩:=h
 obtain⟨t,rfl⟩:=rx
 obtain⟨t',rfl⟩:=ry
 exact add_str (λt' tk=>⟨.str (i++j),H,I.tok _,⟨_,rfl⟩,q⟩) hz
theorem SL{x:V}(r:Vals [x] us):∃ u,us= [u]/\RelV x u:=by
 cases r with
 |cons r1 r2=>cases r2;exact⟨_,rfl,r1⟩
def F4(K:Frag)(x:V)(H:Hp)(n:Nat):Prop:=
 match x with
 | .str y=>y.length<=sizeLine/\n=y.length
 | .byt y=>y.size<=sizeLine/\n=y.size
 | .ref p=>(∃ xs,SqL K H p xs/\n=xs.length)\/∃ xs,SqT K H p xs/\n=xs.length
 |_=>False
theorem WG:Bl X (.builtin "len") (λxs H Q=>∃ x n,xs= [x]/\F4 X.K x H n/\Q (.int n) H):=by
 intro pins s σ H xs us Q I r h
 obtain⟨x,n,rfl,e,q⟩:=h
 obtain⟨u,rfl,rx⟩:=SL r
 have hl:=Pu
 have hs:sizeLine=16777216:=sizeLine_eq
 cases x with
 |str y=>
  obtain⟨t,rfl⟩:=rx
  obtain⟨hy,e'⟩:y.length<=sizeLine/\n=y.length:=e
  subst e'
  exact len_str (by omega) ⟨.int _,H,I.tok _,⟨_,rfl⟩,q⟩
 |byt y=>
  obtain⟨t,rfl⟩:=rx
  obtain⟨hy,e'⟩:y.size<=sizeLine/\n=y.size:=e
  subst e'
  exact PySem.W.len_bytes (by omega) ⟨.int _,H,I.tok _,⟨_,rfl⟩,q⟩
 |ref p=>
  cases rx
  have e':(∃ xs,SqL X.K H p xs/\n=xs.length)\/∃ xs,SqT X.K H p xs/\n=xs.length:=e
  rcases e' with⟨xs,hx,e'⟩|⟨xs,hx,e'⟩
  .subst e'
   obtain⟨its,r',pl,hz⟩:=I.list hx
   have hlen:=r'.length
   exact Calls.call_len_list pl.isList (by simp only[size_toArray];omega) ⟨.int xs.length,H,I.tok _,⟨_,by simp only[size_toArray];rw[hlen]⟩,q⟩
  .subst e'
   obtain⟨its,r',pl,hz⟩:=I.tuple hx
   have hlen:=r'.length
   exact len_tuple pl (by simp only[size_toArray];omega) ⟨.int xs.length,H,I.tok _,⟨_,by simp only[size_toArray];rw[hlen]⟩,q⟩
 |_=>exact(show False from e).elim
structure ObjM(h:Heap)(x dx C:Addr)(mA:Str->Option Value):Prop where
 obj:h.get? x=some (instObj C dx)
 ns:h.Ns1 dx mA
 ne:dx≠x
variable{dx:Addr}{mA:Str->Option Value}
theorem Vs{h:Heap}(n:h.Ns1 dx mA):∃ od,h.get? dx=some od/\∀ name,lookIn name od=some (mA name):=by
 obtain⟨o,es,ep,ho,hd,hk,_,hm⟩:=n
 refine⟨o,ho,λname=>?_⟩
 have e:=hm name
 unfold nsFind findBy at e
 rw[<-Array.find?_toList]at e
 unfold lookIn
 rw[hd]
 dsimp only
 split
 .rename_i y q
  rw[q]at e
  exact congrArg some e
 .rename_i q
  rw[q]at e
  have a:es.toList.any (·.refKey)=false:=by
   rw[List.any_eq_false]
   intro y hy
   obtain⟨z,t,hkey⟩:=hk y (Array.mem_toList_iff.mp hy)
   simp[DictEntry.refKey,hkey]
  have a':¬ es.toList.any (·.refKey)=true:=by rw[a];exact Bool.false_ne_true
  rw[if_neg a']
  exact congrArg some e
variable{C:Addr}
theorem ObjM.look{h:Heap}{x:Addr}(I:ObjM h x dx C mA):∃ od,PySem.W.InstAt h x (instObj C dx) C (some od)/\∀ name,lookIn name od=some (mA name):=
 let ⟨od,ho,hl⟩:=Vs I.ns
 ⟨od,⟨I.obj,rfl,rfl,ho⟩,hl⟩
variable{prog:Program}{name:Str}{kw:List (Str×Value)}
section
variable {x f:Addr}{v:Value}
theorem OO{expr:Bool}(X:K.In s.heap)(I:ObjM s.heap x dx C mA)(hg:plainGet K C name=true)(hh:hasDictIn K C=true)(ha:findIn K (.ref C) name=some none)(hv:mA name=some v)(hv':PySem.W.handedIn v=true)(h:Q v {s with toks:=s.toks+1}):
  wpAny (model prog w) A (getAttr (.ref x) name expr) Q E s:=by
 obtain⟨od,J,hl⟩:=I.look
 exact PySem.W.get_value X J (PySem.W.plainGet_of hg).1 (PySem.W.findObj_own hh ha rfl (by rw[hl,hv])) hv' h
theorem ER{ns:List Str}{Q:Unit->Shared->Prop}(X:K.In s.heap)(I:ObjM s.heap x dx C mA)(hs:findIn K (.ref C) "__setattr__"=some (some (.builtin "object.__setattr__")))(hp:plainOver K C=true)(ht:takerIn K C name=some none)(hh:hasDictIn K C=true)(hw:PySem.Within mA ns)(hsz:ns.length<=sizeLine)(h:∀ h',ObjM h' x dx C (λy=>if y=name then some v else mA y)->SameBut dx s.heap h'->Q () {s with heap:=h',toks:=s.toks+2}):
  wpAny (model prog w) A (setAttr (.ref x) name v) Q E s:=by
 obtain⟨od,J,hl⟩:=I.look
 refine PySem.W.set_plain X J hs (PySem.W.osa_open (s:= {s with toks:=s.toks+1}) (r:=none) X J hp ht λb=>?_)
 obtain⟨cd,hc,hd'⟩:=PySem.W.any_some hh
 have hx:s.heap.get? x=some ⟨.ref C,some dx,.plain,#[]⟩:=I.obj
 refine wpAny_bind (wpAny_pure (wpAny_bind (wpAny_bind (wpAny_loadPart hx (wpAny_bind (PySem.W.Looks.here (s:= {s with toks:=s.toks+1}) (PySem.W.looks_clsIn X hc) ?_))))))
 rw[hd']
 refine wpAny_pure (a:=some dx) (wpAny_bind (wpAny_pure (wpAny_bind ?_)))
 refine wpAny_nsSet1 (s:= {s with toks:=s.toks+1}) I.ns λh' hn2 hs2=>?_
 obtain⟨oD,esD,epD,hoD,hdD,hcD⟩:=hn2.count (PySem.Within.cons name v hw)
 refine wpAny_bind (wpAny_lookBehind hoD (by rw[hdD];exact pastItsLine_dict (le_trans hcD (by rw[List.length_cons];omega))) ?_)
 exact wpAny_pure (h _ ⟨(hs2.2 _ (Ne.symm I.ne)).trans I.obj,hn2,I.ne⟩ hs2)
theorem FJ{R:Result->Shared->Prop}{vs:List Value}(X:K.In s.heap)(hm:makesIn K C=true)(hi:findIn K (.ref C) "__init__"=some (some (.ref f)))(hf:typeIn K (.ref f)=some (.type "function"))(h:codeAny (model prog w) (A.under (.builtin "type.__call__" ⟨.ref C::vs,kw⟩)) (.call (.ref f) ⟨.ref (s.heap.objs.size+1)::vs,kw⟩) (PySem.W.InitBack (s.heap.objs.size+1) R)
   {s with heap:=(s.heap.push emptyDict).push (instObj C s.heap.objs.size)}):
  codeAny (model prog w) A (.call (.ref C) ⟨vs,kw⟩) R s:=by
 obtain⟨hh,g,d,t,os⟩:=s
 exact PySem.W.make_core (PySem.W.makes_of X hm) (PySem.W.looks_findIn X hi) (λself=>PySem.W.bind_fn X self hf) (.inl rfl) h
end
def Bj(f:Str)(v:V):List (Str×V)->List (Str×V)
 | []=> [(f,v)]
 |(g,x)::r=>if g=f then(g,v)::r else(g,x)::Bj f v r
theorem Sn(f g:Str)(v:V):∀ fs:List (Str×V),(Bj f v fs).lookup g=if g=f then some v else fs.lookup g
 | []=>by
  show List.lookup g [(f,v)]=_
  by_cases h:g=f
  .have hb:(g==f)=true:=beq_iff_eq.mpr h
   simp only[List.lookup,hb,if_pos h]
  .have hb:(g==f)=false:=beq_eq_false_iff_ne.mpr h
   simp only[List.lookup,hb,if_neg h]
 |(k,x)::r=>by
  have ih:=Sn f g v r
  rw[show Bj f v ((k,x)::r)=(if k=f then(k,v)::r else(k,x)::Bj f v r) from rfl]
  by_cases hk:k=f
  .rw[if_pos hk]
   by_cases h:g=k
   .have hb:(g==k)=true:=beq_iff_eq.mpr h
    simp only[List.lookup,hb,if_pos (h.trans hk)]
   .have hb:(g==k)=false:=beq_eq_false_iff_ne.mpr h
    simp only[List.lookup,hb,if_neg (λe:g=f=>h (e.trans hk.symm))]
  .rw[if_neg hk]
   by_cases h:g=k
   .have hb:(g==k)=true:=beq_iff_eq.mpr h
    simp only[List.lookup,hb,if_neg (λe:g=f=>hk (h.symm.trans e))]
   .have hb:(g==k)=false:=beq_eq_false_iff_ne.mpr h
    simp only[List.lookup,hb]
    exact ih
theorem Wm(f:Str)(v:V):∀ fs:List (Str×V),f∈(Bj f v fs).map (·.1)/\∀ g,g∈fs.map (·.1)->g∈(Bj f v fs).map (·.1)
 | []=>⟨by simp[Bj],λg h=>by simp at h⟩
 |(k,x)::r=>by
  obtain⟨i1,i2⟩:=Wm f v r
  rw[show Bj f v ((k,x)::r)=(if k=f then(k,v)::r else(k,x)::Bj f v r) from rfl]
  by_cases hk:k=f
  .rw[if_pos hk]
   subst hk
   exact⟨by simp,λg h=>by simpa using h⟩
  .rw[if_neg hk]
   refine⟨?_,λg h=>?_⟩
   .rw[map_cons]
    exact mem_cons_of_mem _ i1
   .rw[map_cons]at h ⊢
    rcases mem_cons.mp h with e|e
    .exact mem_cons.mpr (.inl e)
    .exact mem_cons_of_mem _ (i2 g e)
theorem Rn(f:Str)(v:V):∀ fs:List (Str×V),(Bj f v fs).length<=fs.length+1
 | []=>by simp[Bj]
 |(k,x)::r=>by
  have ih:=Rn f v r
  rw[show Bj f v ((k,x)::r)=(if k=f then(k,v)::r else(k,x)::Bj f v r) from rfl]
  by_cases hk:k=f
  .rw[if_pos hk,List.length_cons,List.length_cons];omega
  .rw[if_neg hk,List.length_cons,List.length_cons];omega
theorem RelO.some_of{v:V}{o:Option Value}(r:RelO (some v) o):∃ u,o=some u/\RelV v u:=by
 cases o with
 |none=>exact(show False from r).elim
 |some u=>exact⟨u,rfl,r⟩
theorem Ms{v:V}(r:RelV v u):PySem.W.handedIn u=true:=by
 cases v with
 |non=>cases (show u=Value.none from r);rfl
 |bl b=>cases (show u=Value.bool b from r);rfl
 |int i=>obtain⟨t,e⟩:=(show ∃ t,u=Value.int i t from r);cases e;rfl
 |str x=>obtain⟨t,e⟩:=(show ∃ t,u=Value.str x t from r);cases e;rfl
 |byt b=>obtain⟨t,e⟩:=(show ∃ t,u=Value.bytes b t from r);cases e;rfl
 |flt b=>obtain⟨t,e⟩:=(show ∃ t,u=Value.float b t from r);cases e;rfl
 |ref a=>cases (show u=Value.ref a from r);rfl
 |ty n=>cases (show u=Value.type n from r);rfl
variable{a:Addr}
section
variable {h:Heap}{fs fs':List (Str×V)}
theorem HC(hok:HOk P w H h)(e:H a=some (.ins C dx fs)):∃ mA,ObjM h a dx C mA/\(∀ f,RelO (fs.lookup f) (mA f))/\PySem.Within mA (fs.map (·.1))/\fs.length<=1000/\H dx=some (.own a):=by
 obtain⟨d,z,ne,ob,mA,n,r,q⟩:=(show ObjOk P w H h a (.ins C dx fs) from hok a _ e)
 exact⟨mA,⟨ob,n,ne⟩,r,q,z,d⟩
end
structure Cls(K:Frag)(C:Addr):Prop where
 pg:plainGet K C Str.empty=true
 hd:hasDictIn K C=true
 po:plainOver K C=true
 sa:findIn K (.ref C) "__setattr__"=some (some (.builtin "object.__setattr__"))
theorem Cls.get(c:Cls K C)(f:Str):plainGet K C f=true:=c.pg
def NoAttr(K:Frag)(C:Addr)(f:Str):Prop:=findIn K (.ref C) f=some none
variable{f:Str}
theorem NoAttr.taker(n:NoAttr K C f):takerIn K C f=some none:=by
 unfold takerIn
 rw[show findIn K (.ref C) f=some none from n]
 rfl
structure Con(K:Frag)(C:Addr)(f:Str)(v:V)(u:Value):Prop where
 at_:findIn K (.ref C) f=some (some u)
 rel:RelV v u
 get:specialIn K u "__get__"=some none
 cp:PySem.W.copiedNames.contains f=false
structure Meth(K:Frag)(C:Addr)(m:Str)(f:Addr):Prop where
 at_:findIn K (.ref C) m=some (some (.ref f))
 fn:isFn K (.ref f)=true
 kp:keepIn K (.ref f)=true
variable{b:Bool}
section
variable {fs:List (Str×V)}{v:V}
theorem Uz(I:Inv X pins σ H s)(e:H a=some (.ins C dx fs))(c:Cls X.K C)(n:NoAttr X.K C f)(l:fs.lookup f=some v)(h:∀ u s',Inv X pins σ H s'->RelV v u->Q u s'):wpAny (model X.prog X.w) A (getAttr (.ref a) f b) Q E s:=by
 obtain⟨mA,O,r,_,_,_⟩:=HC I.hok e
 obtain⟨u,hu,ru⟩:=RelO.some_of (v:=v) (o:=mA f) (by rw[<-l];exact r f)
 exact OO I.kIn O (c.get f) c.hd n hu (Ms ru) (h u _ (I.tok _) ru)
theorem AB{Q:Unit->Shared->Prop}(I:Inv X pins σ H s)(e:H a=some (.ins C dx fs))(c:Cls X.K C)(n:NoAttr X.K C f)(hl:fs.length<1000)(ry:RelV y u)(h:∀ s',Inv X pins σ (Eb H a (.ins C dx (Bj f y fs))) s'->Q () s'):wpAny (model X.prog X.w) A (setAttr (.ref a) f u) Q E s:=by
 obtain⟨mA,O,r,wi,_,ho⟩:=HC I.hok e
 have hz:(fs.map (·.1)).length<=sizeLine:=by rw[length_map,sizeLine_eq];omega
 refine ER I.kIn O c.sa c.po n.taker c.hd wi hz λh' O' sb=>h _ ?_
 have hd:∃ o,h'.get? dx=some o:=let ⟨o,_,_,e',_⟩:=O'.ns;⟨o,e'⟩
 refine I.write (x:=a) (e:=dx) (by rw[e];exact True.intro) (.inr ho) (λb q hb z=>(sb.2 b hb).trans z) hd ?_
 refine⟨by rw[Da O.ne];exact ho,?_,O.ne,O'.obj,_,O'.ns,λg=>?_,λg hg=>?_⟩
 .have:=Rn f y fs;omega
 .show RelO ((Bj f y fs).lookup g) (if g=f then some u else mA g)
  rw[Sn]
  by_cases q:g=f
  .rw[if_pos q,if_pos q];exact ry
  .rw[if_neg q,if_neg q];exact r g
 .by_cases q:g=f
  .rw[q];exact(Wm f y fs).1
  .refine(Wm f y fs).2 g (wi g λz=>hg ?_)
   show(if g=f then some u else mA g)=none
   rw[if_neg q];exact z
theorem Inv.made(I:Inv X pins σ H s):Inv X pins σ (Eb (Eb H s.heap.objs.size (.own (s.heap.objs.size+1))) (s.heap.objs.size+1) (.ins C s.heap.objs.size []))
  {s with heap:=(s.heap.push emptyDict).push (instObj C s.heap.objs.size)}:=by
 have e1:(s.heap.push emptyDict).get? s.heap.objs.size=some emptyDict:=get?_push_size s.heap rfl
 have e2:((s.heap.push emptyDict).push (instObj C s.heap.objs.size)).get? (s.heap.objs.size+1)=some (instObj C s.heap.objs.size):=by
  have:=get?_push_size (s.heap.push emptyDict) (o:=instObj C s.heap.objs.size) rfl
  rwa [size_push]at this
 have e3:(s.heap.push emptyDict).Ns s.heap.objs.size (λ_=>none):=⟨emptyDict,#[],_,e1,rfl,(λe he=>absurd he (by simp)),λ_=>rfl⟩
 have I1:=I.laid (a:=s.heap.objs.size) (o:=.own (s.heap.objs.size+1)) (h':=s.heap.push emptyDict) (t':=s.toks) (λb u q=>get?_push_of_some _ q) (le_refl _) ⟨_,e1⟩
 refine I1.laid (a:=s.heap.objs.size+1) (o:=.ins C s.heap.objs.size []) (t':=s.toks) (λb u q=>get?_push_of_some _ q) (Nat.le_of_eq (size_push _ _)) ?_
 have ne:s.heap.objs.size≠s.heap.objs.size+1:=ne_of_lt (Nat.lt_succ_self _)
 refine⟨by rw[Da ne,Ma],zero_le _,ne,e2,λ_=>none,(Heap.Ns1.of_empty e3).at λo q=>get?_push_of_some _ q,λ_=>True.intro,λy hy=>absurd rfl hy⟩
theorem NB{env:Env}{f:Str}{s:Shared}(hb:attributeBase e f env (eval e env)=eval e env)(h:wpAny (model prog w) A (eval e env) (λo s₁=>wpAny (model prog w) A (getAttr o f true) Q E s₁) E s):wpAny (model prog w) A (eval (.Attribute e f pos) env) Q E s:=
 Attribute_any_ h (by rw[arm_eval_Attribute,hb])
end
def B6(K:Frag)(ta:TE)(f:Str):TE:=λσ H Q=>ta σ H λx H1=>∃ a C dx fs v,x=.ref a/\H1 a=some (.ins C dx fs)/\Cls K C/\NoAttr K C f/\fs.lookup f=some v/\Q v H1
def O5(K:Frag)(ta tv:TE)(f:Str):TS:=λD σ H=>tv σ H λy H1=>ta σ H1 λx H2=>∃ a C dx fs,x=.ref a/\H2 a=some (.ins C dx fs)/\Cls K C/\NoAttr K C f/\fs.length<1000/\
 D.nx σ (Eb H2 a (.ins C dx (Bj f y fs)))
variable{o:Expr}
section
variable {value:Expr}{tpos:Pos}{tv:TE}
theorem DX(he:PE X e ta)(hb:attributeBase e f X.env (eval e X.env)=eval e X.env):PE X (.Attribute e f pos) (B6 X.K ta f):=by
 intro pins s σ H Q I h
 refine NB hb (thn (he pins s σ H _ I h) λu s1 ⟨x,H1,I1,rx,a,C,dx,fs,v,ex,ea,c,n,l,q⟩=>?_)
 subst ex
 obtain rfl:u=Value.ref a:=rx
 exact Uz I1 ea c n l λu' s2 I2 ru=>⟨v,H1,I2,ru,q⟩
theorem OX(ha:PE X o ta)(hv:PE X value tv)(hs:swapsWith value (some (.Attribute o f pos')) pos.line X.env=pure false):PS X (.Assign [.Attribute o f pos'] value pos) (O5 X.K ta tv f):=by
 intro pins s σ H D I h
 refine plainObj_wpAny_Assign_Attribute (thn (hv pins s σ H _ I h) λu s1 ⟨y,H1,I1,ry,q⟩=>thn (ha pins s1 σ H1 _ I1 q) λov s2 ⟨x,H2,I2,rx,a,C,dx,fs,ex,ea,c,n,l,q2⟩=>?_) hs
 subst ex
 obtain rfl:ov=Value.ref a:=rx
 exact AB I2 ea c n l ry λs3 I3=>⟨σ,_,I3,q2⟩
end
section
variable {c:Value}
inductive TyOf(K:Frag)(H:Hp):V->Value->Prop where
 |non:TyOf K H .non (.type "NoneType")
 |bl (x:Bool):TyOf K H (.bl x) (.type "bool")
 |int (i:Int):TyOf K H (.int i) (.type "int")
 |str (x:Str):TyOf K H (.str x) (.type "str")
 |flt (x:UInt64):TyOf K H (.flt x) (.type "float")
 |lst {a:Addr} {xs:List V} (e:H a=some (.lst xs)):TyOf K H (.ref a) (.type "list")
 |frz {a:Addr} {o:Obj} {xs:List V} (e:H a=some (.frz o (.lst xs))):TyOf K H (.ref a) (.type "list")
 |tup {a:Addr} {xs:List V} (e:H a=some (.tup xs)):TyOf K H (.ref a) (.type "tuple")
 |dK {a:Addr} {kvs:List (Bb×V)} (e:H a=some (.dK kvs)):TyOf K H (.ref a) (.type "dict")
 |dT {a:Addr} {kvs:List (List Bb×V)} (e:H a=some (.dT kvs)):TyOf K H (.ref a) (.type "dict")
 |ins {a C dx:Addr} {fs:List (Str×V)} (e:H a=some (.ins C dx fs)) (cl:Cls K C) (ha:findIn K (.ref C) "__class__"=some (some (.builtin "object.__class__")))
   (hn:specialIn K (.builtin "object.__class__") "__get__"=some (some (.builtin "getset_descriptor.__get__"))) (htk:PySem.W.takesIn K (.builtin "object.__class__")=some true)
   (hm:mroIn K C (.type "object")=some true):TyOf K H (.ref a) (.ref C)
end
structure Room(k:Nat)(A:Around):Prop where
 hd:A.handled=none
 dp:A.depth+3*k+5<recursionLimit
 un:A.units+16*k+200<cLine
 gd:A.guards=some []
theorem Room.mono(r:Room k A)(h:j<=k):Room j A:=⟨r.hd,by have:=r.dp;omega,by have:=r.un;omega,r.gd⟩
theorem Room.deeper(r:Room (k+1) A)(env:Env):Room k (A.deeper env):=
 ⟨r.hd,by have:=r.dp;show A.depth+1+3*k+5<_;omega,by have:=r.un;show A.units+3+16*k+200<_;omega,r.gd⟩
theorem Gq:(A.under (.builtin "type.__call__" ⟨.ref C::us,kw⟩)).depth=A.depth+1:=by
 first|rfl|simp[Around.under,Code.weight,Code.isCreation,Code.isGuard,Code.isCaller,Code.frames,Code.isFrame,guardIds]
theorem Hq:(A.under (.builtin "type.__call__" ⟨.ref C::us,kw⟩)).units=A.units+1:=by
 first|rfl|simp[Around.under,Code.cUnits,Code.frames,Code.isFrame]
theorem Room.make(r:Room (k+1) A)(C:Addr)(us:List Value)(kw:List (Str×Value)):Room k (A.under (.builtin "type.__call__" ⟨.ref C::us,kw⟩)):=
 ⟨r.hd,by have:=r.dp;rw[Gq];omega,by have:=r.un;rw[Hq];omega,by first|exact r.gd|(simpa [Around.under,Code.guards,pushGuards] using r.gd)⟩
theorem Room.depth(r:Room k A):A.depth<recursionLimit:=by have:=r.dp;omega
theorem Room.units(r:Room k A):A.units+64<cLine:=by have:=r.un;omega
def tNil:TA:=λ_ H Q=>Q [] H
def C2(ta:TE)(tr:TA):TA:=λσ H Q=>ta σ H λx H1=>tr σ H1 λxs H2=>Q (x::xs) H2
section
variable {t:TA}
theorem Nh:PA X [] tNil:=λ_ _ _ _ H Q I h=>Calls.spliced_nil ⟨[],H,I,.nil,h⟩
theorem Hd(ha:PE X e te)(hr:PA X es t)(hs:starEach (e::es) X.env=(false,eval e X.env)::starEach es X.env:=by rfl):PA X (e::es) (C2 te t):=by
 intro pos pins s σ H Q I h
 rw[hs]
 show wpAny _ _ (spliced ((false,eval e X.env)::backTo pos (starEach es X.env))) _ _ s
 refine Calls.spliced_cons (thn (ha pins s σ H _ I h) λu s1 ⟨x,H1,I1,r1,q1⟩=>?_)
 exact thn (hr pos pins s1 σ H1 _ I1 q1) λus s2 ⟨xs,H2,I2,r2,q2⟩=>⟨x::xs,H2,I2,.cons r1 r2,q2⟩
def M6(t:TA):TE:=λσ H Q=>t σ H λxs H1=>xs.length<=sizeLine/\∀ p,H1 p=none->Q (.ref p) (Eb H1 p (.tup xs))
def G6(t:TA):TE:=λσ H Q=>t σ H λxs H1=>xs.length<=sizeLine/\∀ p,H1 p=none->Q (.ref p) (Eb H1 p (.lst xs))
theorem FK{x1}(h:PA X es t):PE X (.Tuple es x1 pos) (M6 t):=by
 intro pins s σ H Q I hq
 refine wpAny_Tuple_spliced (thn (h pos pins s σ H _ I hq) λus s1 ⟨xs,H1,I1,r,z,q⟩=>⟨by rw[<-r.length];exact z,?_⟩)
 have hf:H1 s1.heap.objs.size=none:=I1.hok.fresh (le_refl _)
 refine⟨.ref s1.heap.objs.size,Eb H1 s1.heap.objs.size (.tup xs),I1.laid (t':=s1.toks) (λb u e=>get?_push_of_some _ e) (le_refl _) ?_,rfl,q _ hf⟩
 exact⟨z,us,r,⟨_,get?_push_size _ rfl,rfl,_,rfl⟩⟩
theorem EX(h:PA X es t):PE X (.List es pos) (G6 t):=by
 intro pins s σ H Q I hq
 refine wpAny_List_spliced (thn (h pos pins s σ H _ I hq) λus s1 ⟨xs,H1,I1,r,z,q⟩=>⟨by rw[<-r.length];exact z,?_⟩)
 have hf:H1 s1.heap.objs.size=none:=I1.hok.fresh (le_refl _)
 refine⟨.ref s1.heap.objs.size,Eb H1 s1.heap.objs.size (.lst xs),I1.laid (t':=s1.toks) (λb u e=>get?_push_of_some _ e) (le_refl _) ?_,rfl,q _ hf⟩
 exact⟨z,us,0,r,get?_push_size _ rfl⟩
end
abbrev Sp:=List V->Hp->VK->XK->Prop
abbrev Vt:=List Env->Hp->Shared->XK->Value->Shared->Prop
structure Env0(P:Program)(w:World)(K:Frag)(mg:Str->Option Value)(base:Heap)(A:Around)(outer:List Env)(s:Shared)(H:Hp):Prop where
 frames:A.frames=some outer
 mod:Mod K mg base
 bs:∀ b o,base.get? b=some o->s.heap.get? b=some o/\H b=none
 bsz:base.objs.size<=s.heap.objs.size
 funs:s.heap.FunFrames base outer
 frf:∀ b∈Fh outer,H b=none
 hok:HOk P w H s.heap
 bare:AllBare s.gens
def CE(outer:List Env)(P:Program)(w:World)(H:Hp)(s:Shared)(Q:VK)(u:Value)(s':Shared):Prop:=
 ∃ v H',s'.os=s.os/\AllBare s'.gens/\Un (Fh outer) [] H H' s.heap s'.heap/\HOk P w H' s'.heap/\RelV v u/\Q v H'
def CR(CX:Vt)(outer:List Env)(P:Program)(w:World)(H:Hp)(s:Shared)(Q:VK)(E:XK)(r:Result)(s':Shared):Prop:=
 match r with
 | .ok (.ret u)=>CE outer P w H s Q u s'
 | .ok _=>False
 | .error e=>CX outer H s E e s'
structure FnOk(P:Program)(w:World)(K:Frag)(mg:Str->Option Value)(base:Heap)(CX:Vt)(k:Nat)(f:Addr)(fd:FuncData)(ps:List Str)(sp:Sp):Prop where
 len:∀ vs H Q E,sp vs H Q E->vs.length=ps.length
 run:∀ (A:Around) (outer:List Env) (s:Shared) (H:Hp) (args:Args) (us:List Value) (vs:List V) (Q:VK) (E:XK),Room k A->Env0 P w K mg base A outer s H->BindsTo s fd args (ps.zip us)->Vals vs us->sp vs H Q E->
  codeAny (model P w) A (.call (.ref f) args) (CR CX outer P w H s Q E) s
variable{f:Addr}{mg:Str->Option Value}{base:Heap}{CX:Vt}{fd:FuncData}{ps:List Str}{sp:Sp}
theorem FnOk.mono(F:FnOk P w K mg base CX j f fd ps sp)(h:j<=k):
  FnOk P w K mg base CX k f fd ps sp:=⟨F.len,λA outer s H args us vs Q E hr=>F.run A outer s H args us vs Q E (hr.mono h)⟩
theorem FnOk.imp{sp':Sp}(F:FnOk P w K mg base CX k f fd ps sp)(h:∀ vs H Q E,sp' vs H Q E->sp vs H Q E):FnOk P w K mg base CX k f fd ps sp':=
 ⟨λvs H Q E q=>F.len vs H Q E (h _ _ _ _ q),λA outer s H args us vs Q E hr he hb hv hs=>F.run A outer s H args us vs Q E hr he hb hv (h _ _ _ _ hs)⟩
variable{outer:List Env}
theorem Env0.make(e:Env0 P w K mg base A outer s H)(C:Addr)(us:List Value)(kw:List (Str×Value)):
  Env0 P w K mg base (A.under (.builtin "type.__call__" ⟨.ref C::us,kw⟩)) outer s H:=⟨by first|exact e.frames|(simpa [Around.under,Code.envs,Code.isFrame,pushEnvs] using e.frames),e.mod,e.bs,e.bsz,e.funs,e.frf,e.hok,e.bare⟩
variable{Q:VK}
theorem Inv.env0(I:Inv X pins σ H s):Env0 X.prog X.w X.K X.mg X.base X.A X.stack s H:=
 ⟨I.ok.frames,I.ok.mod,I.bs,le_trans I.ok.bsz I.sz,I.stack,I.stkFree,I.hok,I.bare⟩
theorem Inv.after(I:Inv X pins σ H s)(h:CE X.stack X.prog X.w H s Q u s'):EP X pins σ Q u s':=by
 obtain⟨v,H',os,bare,un,hok,r,q⟩:=h
 obtain⟨hh,g,d,t,os'⟩:=s'
 obtain rfl:os'=s.os:=os
 exact⟨v,H',I.call (h':=hh) (g':=g) (d':=d) (t':=t) (ch:= []) un hok bare (λb z=>absurd z (by simp)),r,q⟩
def B2(sp:Sp)(dvs:List V)(E:XK)(t:TA):TE:=λσ H Q=>t σ H λvs H1=>sp (vs++dvs) H1 Q E
def G2(C:Addr)(sp:Sp)(dvs:List V)(E:XK)(t:TA):TE:=λσ H Q=>t σ H λvs H1=>∀ x dx,H1 x=none->H1 dx=none->dx≠x->
 sp (.ref x::(vs++dvs)) (Eb (Eb H1 dx (.own x)) x (.ins C dx [])) (λv H2=>v=.non/\Q (.ref x) H2) E
def Binds(K:Frag)(fd:FuncData)(ps:List Str)(ds:List Value):Prop:=
 ∀ (s:Shared) (us:List Value),K.In s.heap->(us++ds).length=ps.length->BindsTo s fd ⟨us,[]⟩ (ps.zip (us++ds))
theorem Binds.all(h:∀ us:List Value,us.length=ps.length->bindArgs fd ⟨us,[]⟩=pure (ps.zip us)):Binds K fd ps []:=λs us _ hl=>by
 rw[append_nil]at hl ⊢
 exact .of_eq (h us hl)
def Kk(CX:Vt)(X:Cx)(E:XK):Prop:=∀ (pins:List (Addr×Obj)) (σ:St) (H:Hp) (s:Shared) (e:Value) (s':Shared),Inv X pins σ H s->CX X.stack H s E e s'->X.xe e s'
variable{E:XK}{vs:List V}{m:Str}{apos:Pos}
section
variable {dvs:List V}{ds:List Value}{p:Pos}{t:TA}
theorem BY(F:FnOk X.prog X.w X.K X.mg X.base CX k f fd ps sp)(hr:Room k X.A)(hb:Binds X.K fd ps ds)(hd:Vals dvs ds)(hx:Kk CX X E)(I:Inv X pins σ H s)(r:Vals vs us)(h:sp (vs++dvs) H Q E):wpAny (model X.prog X.w) X.A (call (.ref f) us) (EP X pins σ Q) X.xe s:=by
 have r2:Vals (vs++dvs) (us++ds):=r.append hd
 have hl:(us++ds).length=ps.length:=by rw[<-r2.length];exact F.len _ _ _ _ h
 refine wpAny_call (codeAny_mono (F.run X.A X.stack s H ⟨us,[]⟩ (us++ds) (vs++dvs) Q E hr I.env0 (hb s us I.kIn hl) r2 h) λr s' hq=>?_)
 cases r with
 |error e=>exact hx pins σ H s e s' I hq
 |ok fl=>
  cases fl with
  |ret u=>exact I.after hq
  |next=>exact False.elim hq
  |brk=>exact False.elim hq
  |cont=>exact False.elim hq
theorem Gv(F:FnOk X.prog X.w X.K X.mg X.base CX k f fd ps sp)(hr:Room k X.A)(hg:Gl X x)(hm:X.mg x=some (.ref f))(hk:keepIn X.K (.ref f)=true)(hb:Binds X.K fd ps ds)(hd:Vals dvs ds)(hx:Kk CX X E)(ha:PA X (e::es) t)(hdb:(x==("__debug__":Str))=false:=by decide)(he:starEach (e::es) X.env=(false,eval e X.env)::starEach es X.env:=by rfl)(hpl:(backTo pos (starEach es X.env)).any (·.1)=false:=by rfl):
  PE X (.Call (.Name x p) (e::es) [] pos) (B2 sp dvs E t):=by
 intro pins s σ H Q I h
 refine wpAny_Call_Name_kw (Qi I hg hm ?_ hdb)
 refine callWith_K (h₀:=X.base) I.ok.mod.kin hk (thn (ha pos pins s σ H _ I h) λus s1 ⟨vs,H1,I1,r,q⟩=>⟨I1.kIn,?_⟩) he hpl
 exact BY F hr hb hd hx I1 r q
structure Mk(K:Frag)(C f:Addr):Prop where
 makes:makesIn K C=true
 init:findIn K (.ref C) "__init__"=some (some (.ref f))
 fn:isFn K (.ref f)=true
 kp:keepIn K (.ref C)=true
theorem RK(M:Mk X.K C f)(F:FnOk X.prog X.w X.K X.mg X.base CX k f fd ps sp)(hr:Room (k+1) X.A)(hb:Binds X.K fd ps ds)(hd:Vals dvs ds)(hx:Kk CX X E)(I:Inv X pins σ H s)(r:Vals vs us)(h:∀ x dx,H x=none->H dx=none->dx≠x->sp (.ref x::(vs++dvs)) (Eb (Eb H dx (.own x)) x (.ins C dx [])) (λv H2=>v=.non/\Q (.ref x) H2) E):
  wpAny (model X.prog X.w) X.A (call (.ref C) us) (EP X pins σ Q) X.xe s:=by
 have hq:=h (s.heap.objs.size+1) s.heap.objs.size (I.hok.fresh (le_succ _)) (I.hok.fresh (le_refl _)) (ne_of_lt (Nat.lt_succ_self _))
 have I2:=Inv.made (C:=C) I
 have r2:Vals (V.ref (s.heap.objs.size+1)::(vs++dvs)) (Value.ref (s.heap.objs.size+1)::(us++ds)):=.cons rfl (r.append hd)
 have hl:(Value.ref (s.heap.objs.size+1)::us++ds).length=ps.length:=by
  have e:=r2.length
  rw[F.len _ _ _ _ hq]at e
  exact e.symm
 refine wpAny_call (FJ (f:=f) I.kIn M.makes M.init (beq_iff_eq.mp M.fn) (codeAny_mono (F.run _ X.stack _ _ ⟨Value.ref (s.heap.objs.size+1)::us,[]⟩ (Value.ref (s.heap.objs.size+1)::(us++ds)) _ _ E (hr.make C us [])
  (I2.env0.make C us []) (hb _ (Value.ref (s.heap.objs.size+1)::us) I2.kIn hl) r2 hq) λr s' hq'=>?_))
 cases r with
 |error e=>exact hx pins σ _ _ e s' I2 hq'
 |ok fl=>
  cases fl with
  |ret u=>
   obtain⟨v,H',I3,rv,ev,q3⟩:=I2.after hq'
   subst ev
   exact⟨rv,⟨V.ref (s.heap.objs.size+1),H',I3,rfl,q3⟩⟩
  |next=>exact False.elim hq'
  |brk=>exact False.elim hq'
  |cont=>exact False.elim hq'
theorem JQ(M:Mk X.K C f)(F:FnOk X.prog X.w X.K X.mg X.base CX k f fd ps sp)(hr:Room (k+1) X.A)(hg:Gl X x)(hm:X.mg x=some (.ref C))(hb:Binds X.K fd ps ds)(hd:Vals dvs ds)(hx:Kk CX X E)(ha:PA X (e::es) t)(hdb:(x==("__debug__":Str))=false:=by decide)(he:starEach (e::es) X.env=(false,eval e X.env)::starEach es X.env:=by rfl)(hpl:(backTo pos (starEach es X.env)).any (·.1)=false:=by rfl):
  PE X (.Call (.Name x p) (e::es) [] pos) (G2 C sp dvs E t):=by
 intro pins s σ H Q I h
 refine wpAny_Call_Name_kw (Qi I hg hm ?_ hdb)
 refine callWith_K (h₀:=X.base) I.ok.mod.kin M.kp (thn (ha pos pins s σ H _ I h) λus s1 ⟨vs,H1,I1,r,q⟩=>⟨I1.kIn,?_⟩) he hpl
 exact RK M F hr hb hd hx I1 r q
end
section
variable {ks:List Str}{p kpos:Pos}{kws:List Keyword}{t tk:TA}{nm:Option Str}
structure KBinds(K:Frag)(fd:FuncData)(ps ks:List Str)(g:List Value->List Value->List Value)(gV:List V->List V->List V):Prop where
 to:∀ (s:Shared) (us ws:List Value),K.In s.heap->(g us ws).length=ps.length->BindsTo s fd ⟨us,ks.zip ws⟩ (ps.zip (g us ws))
 rel:∀ {vs:List V} {us:List Value} {zs:List V} {ws:List Value},Vals vs us->Vals zs ws->Vals (gV vs zs) (g us ws)
variable {g:List Value->List Value->List Value}{gV:List V->List V->List V}
end
structure FnScope(N P:List Str)(sc:Scope):Prop where
 kind:sc.kind=.function
 co:sc.isCoroutine=false
 gen:sc.isGenerator=false
 nd:N.Nodup
 pre:N.take P.length=P
 par:∀ x∈P,sc.names.lookup x=some .local\/sc.names.lookup x=some .cell
 nofree:∀ y∈sc.names,y.2≠ .free
theorem Xr{kindOf:Str->Option NameKind}{x:Str}:∀ {binds:List (Str×Value)} {m:Str->Option Value},(∀ v,(x,v)∉binds)->bindL kindOf binds m x=m x
 | [],_,_=>rfl
 |(n,v)::r,m,h=>by
  unfold bindL
  rw[Xr λw hw=>h w (mem_cons_of_mem _ hw)]
  split
  .have:x≠n:=by rintro rfl;exact h v mem_cons_self
   simp[this]
  .rfl
theorem Vr{kindOf:Str->Option NameKind}{x:Str}:∀ {binds:List (Str×Value)} {m:Str->Option Value},(∀ v,(x,v)∉binds)->bindC kindOf binds m x=m x
 | [],_,_=>rfl
 |(n,v)::r,m,h=>by
  unfold bindC
  rw[Vr λw hw=>h w (mem_cons_of_mem _ hw)]
  split
  .rfl
  .have:x≠n:=by rintro rfl;exact h v mem_cons_self
   simp[this]
theorem Wr{kindOf:Str->Option NameKind}{x:Str}{v:Value}:∀ {P:List Str} {vs:List Value} {i:Nat} {m:Str->Option Value},P.Nodup->P[i]? =some x->vs[i]? =some v->kindOf x=some .local->
  bindL kindOf (P.zip vs) m x=some v
 | [],_,_,_,_,h,_,_=>by simp at h
 |_::_,[],_,_,_,_,h,_=>by simp at h
 |p::P,w::vs,0,m,nd,h1,h2,hk=>by
  simp at h1 h2;subst h1;subst h2
  show bindL kindOf ((p,w)::P.zip vs) m p=_
  unfold bindL
  rw[Xr λv hv=>(nodup_cons.mp nd).1 (List.of_mem_zip hv).1,if_pos hk]
  simp
 |p::P,w::vs,i+1,m,nd,h1,h2,hk=>by
  show bindL kindOf ((p,w)::P.zip vs) m x=_
  unfold bindL
  exact Wr (i:=i) (nodup_cons.mp nd).2 (by simpa using h1) (by simpa using h2) hk
theorem Ur{kindOf:Str->Option NameKind}{x:Str}{v:Value}:∀ {P:List Str} {vs:List Value} {i:Nat} {m:Str->Option Value},P.Nodup->P[i]? =some x->vs[i]? =some v->kindOf x≠some .local->
  bindC kindOf (P.zip vs) m x=some v
 | [],_,_,_,_,h,_,_=>by simp at h
 |_::_,[],_,_,_,_,h,_=>by simp at h
 |p::P,w::vs,0,m,nd,h1,h2,hk=>by
  simp at h1 h2;subst h1;subst h2
  show bindC kindOf ((p,w)::P.zip vs) m p=_
  unfold bindC
  rw[Vr λv hv=>(nodup_cons.mp nd).1 (List.of_mem_zip hv).1,if_neg hk]
  simp
 |p::P,w::vs,i+1,m,nd,h1,h2,hk=>by
  show bindC kindOf ((p,w)::P.zip vs) m x=_
  unfold bindC
  exact Ur (i:=i) (nodup_cons.mp nd).2 (by simpa using h1) (by simpa using h2) hk
def start(N:List Str)(vs:List V):St:=vs.map some++replicate (N.length-vs.length) none
def Ak(CX:Vt)(P:Program)(w:World)(K:Frag)(mg:Str->Option Value)(base:Heap)(N:List Str)(qual:Str)(scope:Scope)(f:Addr)(cd:Value)(A:Around)(outer:List Env)(s:Shared)(H:Hp)(E:XK):Cx where
 prog:=P
 w:=w
 K:=K
 mg:=mg
 base:=base
 A:=A.deeper (envOfC qual scope s.heap.objs.size f cd)
 N:=N
 s₀:=s
 H₀:=H
 env:=envOfC qual scope s.heap.objs.size f cd
 outer:=outer
 stack:=envOfC qual scope s.heap.objs.size f cd::outer
 ex:= []
 calm:=true
 fn:=λ_=>true
 pn:= []
 xe:=λe s'=>wpAny (model P w) (A.deeper (envOfC qual scope s.heap.objs.size f cd)) (leaving (envOfC qual scope s.heap.objs.size f cd) e) (λ_ s''=>CX outer H s E e s'') (λe' s''=>CX outer H s E e' s'') s'
theorem Lw{sc:Scope}(h:sc.names.lookup x=some .cell):∃ c,(cellsFrom n sc.names []).lookup x=some c:=by
 have q:=cellsFrom_some sc.names n [] (.inl h)
 exact isSome_iff_exists.mp q
variable{qual:Str}{scope:Scope}
theorem Os{cd:Value}{s1:Shared}(S:FnScope N ps scope)(hd:A.handled=none)(e0:Env0 P w K mg base A outer s H)(hl:vs.length=ps.length)(r:Vals vs us)(x:InCallC s s.heap.objs.size (bindL (envOfC qual scope s.heap.objs.size f cd).kindOf (ps.zip us) λ_=>none) (cellsFrom (s.heap.objs.size+1) scope.names []) (bindC (envOfC qual scope s.heap.objs.size f cd).kindOf (ps.zip us) λ_=>none) s1):
  Inv (Ak CX P w K mg base N qual scope f cd A outer s H E) [] (start N vs) H s1:=by
 have hpl:ps.length<=N.length:=by have:=congrArg length S.pre;rw[List.length_take]at this;omega
 obtain⟨h1,tk,rfl,hk⟩:=x.done
 have noA:∀ b:Addr,b∉(Ak CX P w K mg base N qual scope f cd A outer s H E).ex:=λb z=>absurd (show b∈([]:List Addr) from z) (by simp)
 refine⟨⟨e0.mod,S.kind,rfl,rfl,le_refl _,λy z c h1 h2=>?_,λy hy=>?_,λy c _ h=>?_,λ_=>hd,Around.frames_deeper e0.frames,.inr ⟨rfl,rfl⟩,λb z=>absurd z (noA b),e0.bs,e0.bsz,λb _ _=>noA b,λb z=>absurd z (noA b),e0.funs,e0.frf⟩,
  rfl,e0.bare,Un.kept hk,⟨_,x.toInCall.ns,λi y v h1 h2 h3=>?_⟩,λy c h=>⟨_,x.cell y c h⟩,e0.hok.fresh (le_refl _),λy c h=>?_,λp hp=>absurd (show p∈([]:List (Addr×Obj)) from hp) (by simp),e0.hok.kept hk,?_⟩
 .exact name_of_addr x.apart (PySem.mem_of_lookup h1) (PySem.mem_of_lookup h2)
 .have hy:scope.names.lookup y=some .cell\/scope.names.lookup y=some .free:=hy
  rcases hy with hy|hy
  .exact Lw hy
  .exact absurd rfl (S.nofree _ (PySem.mem_of_lookup hy))
 .exact le_of_lt (x.above y c (PySem.mem_of_lookup h))
 .have hi:i<vs.length:=by
   unfold start at h2
   by_cases hi:i<vs.length
   .exact hi
   .rw[List.getElem?_append_right (by simpa using hi)]at h2
    rw[List.getElem?_replicate]at h2
    split at h2<;>cases h2
  have ha:vs[i]? =some v:=by
   unfold start at h2
   rw[List.getElem?_append_left (by simpa using hi),getElem?_map]at h2
   cases e:vs[i]? with
   |none=>rw[e]at h2;cases h2
   |some a=>rw[e]at h2;cases h2;rfl
  obtain⟨u,hu,rv⟩:=r.get ha
  have hp:ps[i]? =some y:=by
   rw[<-S.pre,List.getElem?_take_of_lt (by omega)];exact h1
  have ndP:ps.Nodup:=by rw[<-S.pre];exact S.nd.sublist (List.take_sublist _ _)
  refine⟨u,rv,?_⟩
  rcases S.par y (mem_of_getElem? hp) with k|k
  .exact .inl ⟨k,Wr ndP hp hu k⟩
  .obtain⟨c,e⟩:=Lw (n:=s.heap.objs.size+1) k
   refine .inr ⟨.inl k,c,e,?_⟩
   have q:=x.cell y c e
   rw[Ur ndP hp hu (by show scope.names.lookup y≠_;rw[k];decide)]at q
   exact q
 .exact e0.hok.fresh (le_of_lt (x.above y c (PySem.mem_of_lookup h)))
 .unfold start
  show _=N.length
  rw[length_append,length_map,length_replicate]
  omega
theorem IS{params:Arguments}{dV kV doc pm cdv ct oc:Value}{an od:Option Addr}{osl:Array (Option Value)}(lk:K.lookup f=some ⟨oc,od,.func (fnOf name qual params body scope dV kV doc pm an cdv ct),osl⟩)(hcd:codeIn K cdv qual=true)(S:FnScope N ps scope)(len:∀ vs H Q E,sp vs H Q E->vs.length=ps.length)(hbody:∀ (A:Around) (outer:List Env) (s:Shared) (H:Hp) (vs:List V) (Q:VK) (E:XK),Room k (A.deeper (envOfC qual scope s.heap.objs.size f cdv))->sp vs H Q E->
   ∃ t,PSs (Ak CX P w K mg base N qual scope f cdv A outer s H E) body t/\t {nx:=λ_ H'=>Q .non H',rt:=Q} (start N vs) H):
  FnOk P w K mg base CX (k+1) f (fnOf name qual params body scope dV kV doc pm an cdv ct) ps sp:=by
 refine⟨len,λA outer s H args us vs Q E hr e0 hb r hsp=>?_⟩
 have hl:=len _ _ _ _ hsp
 have KX:K.In s.heap:=e0.mod.kin.keeps λb o e=>(e0.bs b o e).1
 have lim:s.heap.NoLimit:=e0.mod.nolimit.keeps λb o e=>(e0.bs b o e).1
 have hkind:∀ y∈ps.zip us,scope.names.lookup y.1=some .local\/(scope.names.lookup y.1=some .cell/\((cellsFrom (s.heap.objs.size+1) scope.names []).lookup y.1).isSome=true):=λ⟨n,v⟩ hy=>by
  rcases S.par n (List.of_mem_zip hy).1 with q|q
  .exact .inl q
  .exact .inr ⟨q,cellsFrom_some _ _ _ (.inl q)⟩
 refine codeAny_call_function hr.depth (KX _ _ lk) rfl S.co S.gen rfl (PySem.W.codeRec_of KX hcd) (hb _ _ _ _ ?_)
 refine wpAny_newFunctionEnv_cells S.kind hkind λenv he s1 x=>?_
 subst he
 refine⟨lim.keeps x.toInCall.keep,codeAny_func ?_⟩
 obtain⟨t,ht,hq⟩:=hbody A outer s H vs Q E (hr.deeper _) hsp
 have I:Inv (Ak CX P w K mg base N qual scope f cdv A outer s H E) [] (start N vs) H s1:=Os S hr.hd e0 hl r x
 refine wpAny_mono (ht [] s1 (start N vs) H _ I hq) (λfl s' hs=>?_) λe s' hs=>hs
 have fin:∀ {σ':St} {H':Hp} {v:V} {u:Value},Inv (Ak CX P w K mg base N qual scope f cdv A outer s H E) [] σ' H' s'->RelV v u->Q v H'->CE outer P w H s Q u s':=
  λ{σ' H' v u} J rv q=>⟨v,H',J.os,J.bare,J.base,J.hok,rv,q⟩
 cases fl with
 |ret u=>
  obtain⟨v,σ',H',J,rv,q⟩:=hs
  exact fin J rv q
 |next=>
  obtain⟨σ',H',J,q⟩:=hs
  exact fin (v:=V.non) (u:=Value.none) J rfl q
 |brk=>
  obtain⟨_,_,_,q⟩:=hs
  exact False.elim q
 |cont=>
  obtain⟨_,_,_,q⟩:=hs
  exact False.elim q
section
variable {p:Pos}{t:TA}{id T:String}{r:List V->Hp->VK->Prop}
def Z6(r:List V->Hp->VK->Prop)(t:TA):TE:=λσ H Q=>t σ H λvs H1=>r vs H1 Q
theorem Nq(hc:Bl X (.builtin id) r)(hg:Gl X x)(hm:X.mg x=none)(hv:bootBuiltins x=some (.builtin id))(ha:PA X (e::es) t)(hn:x≠"__name__":=by decide)(hdb:(x==("__debug__":Str))=false:=by decide)(he:starEach (e::es) X.env=(false,eval e X.env)::starEach es X.env:=by rfl)(hpl:(backTo pos (starEach es X.env)).any (·.1)=false:=by rfl):PE X (.Call (.Name x p) (e::es) [] pos) (Z6 r t):=by
 intro pins s σ H Q I h
 refine wpAny_Call_Name_kw (Lf I hg hm hv ?_ hn hdb)
 exact PyProof.Rows.callWith_builtin1 (thn (ha pos pins s σ H _ I h) λus s1 ⟨vs,H1,I1,r1,q1⟩=>hc pins s1 σ H1 vs us Q I1 r1 q1) he hpl
theorem Ft(hc:Bl X (.type T) r)(hg:Gl X x)(hm:X.mg x=none)(hv:bootBuiltins x=some (.type T))(ha:PA X (e::es) t)(hn:x≠"__name__":=by decide)(hdb:(x==("__debug__":Str))=false:=by decide)(he:starEach (e::es) X.env=(false,eval e X.env)::starEach es X.env:=by rfl)(hpl:(backTo pos (starEach es X.env)).any (·.1)=false:=by rfl):PE X (.Call (.Name x p) (e::es) [] pos) (Z6 r t):=by
 intro pins s σ H Q I h
 refine wpAny_Call_Name_kw (Lf I hg hm hv ?_ hn hdb)
 exact PyProof.Rows.callWith_type1 (thn (ha pos pins s σ H _ I h) λus s1 ⟨vs,H1,I1,r1,q1⟩=>hc pins s1 σ H1 vs us Q I1 r1 q1) he hpl
end
end L2
namespace HT
open PySem PyProof.Rows
section
open PySem.SeqAt
open PySem.AutoSeq1 (wpAny_loadPart')
open PySem.MeetsSeq PySem.MeetsSeq2 PySem.MeetsSeq3
end
section
variable {prog:Program}{w:World}{A:Around}{E:Value->Shared->Prop}{s:Shared}
theorem cat_tup{t b:Addr}{vs ws:List Value}{Q:Value->Shared->Prop}(ht:IsTup s.heap t vs.toArray)(hb:IsTup s.heap b ws.toArray)(hv:vs≠ [])(h1:ws= []->Q (.ref t) s)(h2:ws≠ []->Q (.ref s.heap.objs.size) {s with heap:=s.heap.push {cls:=.type "tuple",data:=.seq (vs++ws).toArray}})(hsz:vs.length+ws.length<=sizeLine):wpAny (model prog w) A (binaryOp .Add (.ref t) (.ref b)) Q E s:=by
 obtain⟨⟨cls,dd,data,sl⟩,ho,hc,n,hd⟩:=id ht
 obtain⟨⟨cls2,dd2,data2,sl2⟩,ho2,hc2,n2,hd2⟩:=id hb
 simp only at hc hd hc2 hd2
 subst hc hd hc2 hd2
 have e:vs.toArray++ws.toArray=(vs++ws).toArray:=by simp
 by_cases hw:ws= []
 .exact concat_meets ⟨_,ho,rfl⟩ ⟨_,ho2,rfl⟩ noFill_tuple_add seq_tuple_add PySem.F.slot_tuple_add PySem.F.entry_tuple_add (PySem.F.args_tuple_add_2 _ _)
   (tuple_addW1 t b vs.toArray ws.toArray n n2 dd dd2 sl sl2 (by simpa using hv) (by simp[hw])) ⟨ho,ho2,h1 hw⟩
 .refine concat_meets ⟨_,ho,rfl⟩ ⟨_,ho2,rfl⟩ noFill_tuple_add seq_tuple_add PySem.F.slot_tuple_add PySem.F.entry_tuple_add (PySem.F.args_tuple_add_2 _ _)
   (tuple_addW2 t b vs.toArray ws.toArray n n2 dd dd2 sl sl2 (by simpa using hv) (by simpa using hw) (by rw[size_toArray,size_toArray];exact hsz)) ⟨ho,ho2,?_⟩
  rw[e]
  exact h2 hw
def sIx(n d:Nat):Option Int->Nat
 |none=>d
 |some v=>if v<0 then(v+(n:Int)).toNat else min v.toNat n
theorem sIx_nat(n d k:Nat):sIx n d (some (k:Int))=min k n:=by
 show(if(k:Int)<0 then((k:Int)+(n:Int)).toNat else min (k:Int).toNat n)=min k n
 rw[if_neg (by omega),Int.toNat_natCast]
end
end HT
namespace L2
open PySem PySem.Spec PyProof.Rows
abbrev TO:=St->Hp->(Option Int->Hp->Prop)->Prop
def PO(X:Cx)(e:Option Expr)(t:TO):Prop:=
 ∀ (pins:List (Addr×Obj)) (s:Shared) (σ:St) (H:Hp) (Q:Option Int->Hp->Prop),Inv X pins σ H s->t σ H Q->
  wpAny (model X.prog X.w) X.A (evalPart e X.env) (λu s'=>∃ o H',Inv X pins σ H' s'/\IsPart u o/\Q o H') X.xe s
def OR:TO:=λ_ H Q=>Q none H
def O2(t:TE):TO:=λσ H Q=>t σ H λx H1=>∃ i,x=.int i/\Q (some i) H1
variable{X:Cx}{e:Expr}{pos:Pos}{xs:List V}{us:List Value}
section
variable {te:TE}{lo hi:Option Expr}{tl th:TO}{p2:Pos}
theorem PQ:PO X none OR:=by
 intro pins s σ H Q I h
 rw[evalPart_none]
 exact wpAny_pure ⟨none,H,I,.none,h⟩
theorem QQ(h:PE X e te):PO X (some e) (O2 te):=by
 intro pins s σ H Q I hw
 rw[evalPart_some]
 refine thn (h pins s σ H _ I hw) λu s1 ⟨x,H1,I1,r1,q1⟩=>?_
 obtain⟨i,rfl,q⟩:=q1
 obtain⟨t,rfl⟩:=r1
 exact⟨some i,H1,I1,.int i t,q⟩
def U6(X:Cx)(r:V->Option Int->Option Int->Hp->VK->Prop):Prop:=
 ∀ (pins:List (Addr×Obj)) (s:Shared) (σ:St) (H:Hp) (x:V) (v vl vu:Value) (lo hi:Option Int) (sl:Addr) (Q:VK),Inv X pins σ H s->RelV x v->s.heap.IsSliceOf sl vl vu .none->IsPart vl lo->IsPart vu hi->r x lo hi H Q->
  ∃ T id,typeLookup (.type T) "__getitem__"=pure (some (.builtin id))/\s.TypeIs v T/\wpAny (model X.prog X.w) X.A (getItem v (.ref sl)) (EP X pins σ Q) X.xe s
def X7(r:V->Option Int->Option Int->Hp->VK->Prop)(te:TE)(tl th:TO):TE:=λσ H Q=>te σ H λx H1=>tl σ H1 λl H2=>th σ H2 λu H3=>r x l u H3 Q
theorem AK{r:V->Option Int->Option Int->Hp->VK->Prop}(hr:U6 X r)(he:PE X e te)(hl:PO X lo tl)(hu:PO X hi th):PE X (.Subscript e (.Slice lo hi none p2) pos) (X7 r te tl th):=by
 intro pins s σ H Q I h
 refine Subscript_ (thn (he pins s σ H _ I h) λv s1 ⟨x,H1,I1,r1,q1⟩=>?_)
 refine wpAny_Slice (thn (hl pins s1 σ H1 _ I1 q1) λvl s2 ⟨l,H2,I2,pl,q2⟩=>thn (hu pins s2 σ H2 _ I2 q2) λvu s3 ⟨u,H3,I3,pu,q3⟩=>?_)
 rw[evalPart_none]
 refine wpAny_pure ?_
 have I4:Inv X pins σ H3 {s3 with heap:=s3.heap.push {cls:=.type "slice",data:=.fields #[vl,vu,.none]}}:=I3.kept (t':=s3.toks) λb ob q=>get?_push_of_some _ q
 obtain⟨T,id,hT,ht,hg⟩:=hr pins {s3 with heap:=s3.heap.push {cls:=.type "slice",data:=.fields #[vl,vu,.none]}} σ H3 x v vl vu l u s3.heap.objs.size Q I4 r1 (Heap.IsSliceOf.new ..) pl pu q3
 show wpAny (model X.prog X.w) X.A (subscriptTail e (.Slice lo hi none p2) v (.ref s3.heap.objs.size)) (EP X pins σ Q) X.xe {s3 with heap:=s3.heap.push {cls:=.type "slice",data:=.fields #[vl,vu,.none]}}
 exact tail_any (ops:= [.ref s3.heap.objs.size,v]) ht hT hg (by with_unfolding_all rfl)
def VD(xs:List V)(lo hi:Option Int):List V:=(xs.drop (HT.sIx xs.length 0 lo)).take (HT.sIx xs.length xs.length hi-HT.sIx xs.length 0 lo)
theorem Pw(xs:List V)(lo hi:Option Int):(VD xs lo hi).length<=xs.length:=by
 unfold VD
 rw[List.length_take,List.length_drop]
 omega
def Q1(K:Frag):R2:=λx y H Q=>∃ a b xs ys,x=.ref a/\y=.ref b/\SqT K H a xs/\SqT K H b ys/\xs≠ []/\xs.length+ys.length<=sizeLine/\
 (ys= []->Q (.ref a) H)/\(ys≠ []->∀ p,H p=none->Q (.ref p) (Eb H p (.tup (xs++ys))))
theorem Vals.nil_iff(r:Vals xs us):us= []↔xs= []:=by
 cases r with
 |nil=>simp
 |cons _ _=>simp
theorem OP:OpR X (binaryOp .Add) (Q1 X.K):=by
 intro pins s σ H x y v u Q I rx ry h
 obtain⟨a,b,xs,ys,rfl,rfl,ha,hb,hx,hz,q1,q2⟩:=h
 cases rx
 cases ry
 obtain⟨its,r1,p1,_⟩:=I.tuple ha
 obtain⟨its2,r2,p2,_⟩:=I.tuple hb
 refine HT.cat_tup p1 p2 (λz=>hx (r1.nil_iff.mp z)) (λz=>⟨.ref a,H,I,rfl,q1 (r2.nil_iff.mp z)⟩) (λz=>?_) (by rw[<-r1.length,<-r2.length];exact hz)
 refine⟨.ref s.heap.objs.size,_,I.laid (t':=s.toks) (o:=.tup (xs++ys)) (λb ob q=>get?_push_of_some _ q) (le_refl _) ?_,rfl,q2 (λw=>z (r2.nil_iff.mpr w)) _ (I.hok.fresh (le_refl _))⟩
 exact⟨by rw[length_append];exact hz,_,r1.append r2,IsTup.new _ _⟩
end
def PV(n:Nat)(i:Int):Option Nat:=if 0<=i then(if i<n then some i.toNat else none) else if -(n:Int)<=i then some (i+n).toNat else none
variable{α:Type}
def Zv(xs:List α)(i:Int):Option α:=(PV xs.length i).bind λj=>xs[j]?
variable{n:Nat}{i:Int}
theorem VO{j:Nat}(h:PV n i=some j):seqIndex? i n=some j/\j<n/\ -(n:Int)<=i/\i<n:=by
 unfold PV at h
 by_cases h0:0<=i
 .rw[if_pos h0]at h
  by_cases h1:i<n
  .rw[if_pos h1]at h
   have e:i.toNat=j:=Option.some.inj h
   exact⟨by rw[seqIndex_of h0 h1,e],by omega,by omega,h1⟩
  .rw[if_neg h1]at h;cases h
 .rw[if_neg h0]at h
  by_cases h1: -(n:Int)<=i
  .rw[if_pos h1]at h
   have e:(i+n).toNat=j:=Option.some.inj h
   exact⟨by rw[seqIndex_neg (by omega) h1,e],by omega,h1,by omega⟩
  .rw[if_neg h1]at h;cases h
theorem Yt{xs:List α}{v:α}(h:Zv xs i=some v):∃ j,seqIndex? i xs.length=some j/\xs[j]? =some v/\j<xs.length/\ -(xs.length:Int)<=i/\i<xs.length:=by
 unfold Zv at h
 cases e:PV xs.length i with
 |none=>rw[e]at h;cases h
 |some j=>
  rw[e]at h
  obtain⟨h1,h2,h3,h4⟩:=VO e
  exact⟨j,h1,h,h2,h3,h4⟩
def Cl(b:Expr):Prop:=∀ o i,subscripted b false o i=operate [o,i] (getItem o i)
def IxR(X:Cx)(r:R2):Prop:=
 ∀ (value slice:Expr) (pins:List (Addr×Obj)) (s:Shared) (σ:St) (H:Hp) (x y:V) (v u:Value) (Q:VK),Inv X pins σ H s->RelV x v->RelV y u->r x y H Q->
  subscripted slice false v u=operate [v,u] (getItem v u)->wpAny (model X.prog X.w) X.A (subscriptTail value slice v u) (EP X pins σ Q) X.xe s
def QZ(X:Cx)(id:String)(r:V->List V->Hp->VK->Prop):Prop:=
 ∀ (pins:List (Addr×Obj)) (s:Shared) (σ:St) (H:Hp) (x:V) (xs:List V) (v:Value) (us:List Value) (Q:VK),Inv X pins σ H s->RelV x v->Vals xs us->r x xs H Q->
  wpAny (model X.prog X.w) X.A (call (.builtin id) (v::us)) (EP X pins σ Q) X.xe s
variable{A:Around}{s:Shared}{y x:V}{u:Value}{pins:List (Addr×Obj)}{σ:St}{H:Hp}
section
variable {a b:Expr}{ta tb:TE}
theorem IxR.or{r r':R2}(h:IxR X r)(h':IxR X r'):IxR X (λx y H Q=>r x y H Q\/r' x y H Q):=by
 intro value slice pins s σ H x y v u Q I rx ry q hs
 rcases q with q|q
 .exact h value slice pins s σ H x y v u Q I rx ry q hs
 .exact h' value slice pins s σ H x y v u Q I rx ry q hs
theorem F1{r:R2}(hr:IxR X r)(ha:PE X a ta)(hb:PE X b tb)(hs:Cl b):PE X (.Subscript a b pos) (N2 r ta tb):=by
 intro pins s σ H Q I h
 exact Subscript_ (QM ha hb I h λv u s2 x y H2 I2 rx ry q=>hr a b pins s2 σ H2 x y v u Q I2 rx ry q (hs _ _))
def T1(K:Frag):R2:=λx y H Q=>∃ p xs i v,x=.ref p/\y=.int i/\SqL K H p xs/\Zv xs i=some v/\Q v H
def V1(K:Frag):R2:=λx y H Q=>∃ p xs i v,x=.ref p/\y=.int i/\SqT K H p xs/\Zv xs i=some v/\Q v H
def U1:R2:=λx y H Q=>∃ z i c,x=.str z/\y=.int i/\z.length<=sizeLine/\Zv z.cps.toList i=some c/\Q (.str ⟨#[c]⟩) H
theorem WO:IxR X (T1 X.K):=by
 intro value slice pins s σ H x y v u Q I rx ry h hs
 obtain⟨p,xs,i,z,rfl,rfl,hq,he,q⟩:=h
 cases rx
 obtain⟨t,rfl⟩:=ry
 obtain⟨its,r,pl,hz⟩:=I.list hq
 obtain⟨j,h1,h2,h3,h4,h5⟩:=Yt he
 obtain⟨w,ew,rw'⟩:=r.get h2
 have hl:=r.length
 have hn:=Pu
 have fin:EP X pins σ Q w s:=⟨z,H,I,rw',q⟩
 by_cases h0:0<=i
 .have hj:i.toNat=j:=by
   rw[seqIndex_of h0 h5]at h1
   exact Option.some.inj h1
  exact item_listR pl.isList h0 (by omega) (by rw[hj];simpa using ew) fin hs
 .have hj:(i+(its.toArray.size:Int)).toNat=j:=by
   rw[seqIndex_neg (by omega) h4]at h1
   rw[size_toArray,<-hl]
   exact Option.some.inj h1
  exact subscriptTail_builtinR (x:=w) pl.isList.typeIs slot_list_getitem.lookup
   (wpAny_getItem_list_neg (Q:=λr s'=>r=w/\EP X pins σ Q r s') pl.isList (by omega) (by rw[size_toArray]<;>omega) (by omega) (by rw[hj];simpa using ew) ⟨rfl,fin⟩) hs
theorem SV:IxR X (V1 X.K):=by
 intro value slice pins s σ H x y v u Q I rx ry h hs
 obtain⟨p,xs,i,z,rfl,rfl,hq,he,q⟩:=h
 cases rx
 obtain⟨t,rfl⟩:=ry
 obtain⟨its,r,pl,hz⟩:=I.tuple hq
 obtain⟨j,h1,h2,h3,h4,h5⟩:=Yt he
 obtain⟨w,ew,rw'⟩:=r.get h2
 have hl:=r.length
 have hn:=Pu
 have fin:EP X pins σ Q w s:=⟨z,H,I,rw',q⟩
 exact subscriptTail_builtinR (x:=w) pl.typeIs slot_tuple_getitem.lookup
  (getItem_tuple (j:=j) (Q:=λr s'=>r=w/\EP X pins σ Q r s') pl (by omega) (by omega) (by rw[size_toArray,<-hl];exact h1) (by simpa using ew) ⟨rfl,fin⟩) hs
theorem RV:IxR X U1:=by
 intro value slice pins s σ H x y v u Q I rx ry h hs
 obtain⟨z,i,c,rfl,rfl,hz,he,q⟩:=h
 obtain⟨t,rfl⟩:=rx
 obtain⟨t',rfl⟩:=ry
 obtain⟨j,h1,h2,h3,h4,h5⟩:=Yt he
 have hl:z.cps.toList.length=z.length:=by simp[Str.length]
 rw[hl]at h1 h4 h5
 have hn:=Pu
 exact tail_any (typeIs_str s z t) slot_str_getitem.lookup (getItem_str (c:=c) (by
  have e1:decide (i< -(2^63:Int))=false:=decide_eq_false (by omega)
  have e2:decide (i>=2^63)=false:=decide_eq_false (by omega)
  rw[e1,e2,Bool.or_false]) (by rw[h1];simpa using h2) ⟨.str ⟨#[c]⟩,H,I.tok _,⟨_,rfl⟩,q⟩) hs
def N7(K:Frag):R2:=λx y H Q=>T1 K x y H Q\/V1 K x y H Q\/U1 x y H Q
theorem QV:IxR X (N7 X.K):=WO.or (SV.or RV)
theorem Sv(lo hi:Option Int)(n:Nat):(sliceBounds lo hi none n).1=((HT.sIx n 0 lo:Nat):Int)/\(sliceBounds lo hi none n).2.1=((HT.sIx n n hi:Nat):Int)/\(sliceBounds lo hi none n).2.2=1:=by
 refine⟨?_,?_,rfl⟩
 .cases lo with
  |none=>simp[sliceBounds,HT.sIx]
  |some i=>
   simp only[sliceBounds,HT.sIx,Option.getD_none,show(1:Int)>0 by decide,if_true]
   by_cases h:i<0
   .simp only[h,if_true]<;>omega
   .simp only[h,if_false]<;>omega
 .cases hi with
  |none=>simp[sliceBounds,HT.sIx]
  |some i=>
   simp only[sliceBounds,HT.sIx,Option.getD_none,show(1:Int)>0 by decide,if_true]
   by_cases h:i<0
   .simp only[h,if_true]<;>omega
   .simp only[h,if_false]<;>omega
theorem Rr(its:List Value)(lo hi:Option Int):slicePick its.toArray lo hi none=((its.drop (HT.sIx its.length 0 lo)).take (HT.sIx its.length its.length hi-HT.sIx its.length 0 lo)).toArray:=by
 obtain⟨h1,h2,h3⟩:=Sv lo hi its.toArray.size
 unfold slicePick
 rw[h1,h2,h3]
 simp only[sliceRange_one,pick_run,size_toArray]<;>rfl
def M5(K:Frag):V->Option Int->Option Int->Hp->VK->Prop:=λx lo hi H Q=>∃ a xs,x=.ref a/\SqL K H a xs/\∀ p,H p=none->Q (.ref p) (Eb H p (.lst (VD xs lo hi)))
theorem HR:U6 X (M5 X.K):=by
 intro pins s σ H x v vl vu lo hi sl Q I rx hs pl pu h
 obtain⟨a,xs,rfl,hx,q⟩:=h
 cases rx
 obtain⟨its,r,ht,hz⟩:=I.list hx
 have hlen:=r.length
 refine⟨"list",_,slot_list_getitem.lookup,ht.isList.typeIs,?_⟩
 refine wpAny_getItem_list_slice ht.isList hs pl pu .none (by simp) ?_ (by rw[size_toArray]<;>omega)
 rw[Rr,<-hlen]
 refine⟨.ref s.heap.objs.size,_,I.laid (t':=s.toks) (o:=.lst (VD xs lo hi)) (λb ob q=>get?_push_of_some _ q) (le_refl _) ?_,rfl,q _ (I.hok.fresh (le_refl _))⟩
 exact⟨le_trans (Pw xs lo hi) hz,_,0,(r.drop (HT.sIx xs.length 0 lo)).take (HT.sIx xs.length xs.length hi-HT.sIx xs.length 0 lo),get?_push_size _ rfl⟩
def Dk:V->Bool
 | .non=>true
 | .bl _=>true
 | .int _=>true
 | .str _=>true
 |_=>false
def UB:V->V->Bool
 | .non,.non=>true
 | .bl a,.bl b=>a==b
 | .bl a,.int b=>(if a then 1 else 0)==b
 | .int a,.bl b=>a==(if b then 1 else 0)
 | .int a,.int b=>a==b
 | .str a,.str b=>a==b
 |_,_=>false
theorem XU{v:Value}(ry:RelV y u)(rx:RelV x v)(fy:Dk y=true)(fx:Dk x=true):SeqAt.EqAt A s u v (UB y x):=by
 cases y with
 |non=>
  cases ry
  cases x with
  |non=>cases rx;exact SeqAt.EqAt.same _
  |bl b=>cases rx;exact SeqAt.EqAt.none_bool b
  |int b=>obtain⟨t,rfl⟩:=rx;exact SeqAt.EqAt.none_int b t
  |str b=>obtain⟨t,rfl⟩:=rx;exact SeqAt.EqAt.none_str b t
  |_=>exact absurd (show false=true from fx) Bool.false_ne_true
 |bl a=>
  cases ry
  cases x with
  |non=>cases rx;exact SeqAt.EqAt.bool_none a
  |bl b=>cases rx;exact SeqAt.EqAt.bool_bool a b
  |int b=>obtain⟨t,rfl⟩:=rx;exact SeqAt.EqAt.bool_int a b t
  |str b=>obtain⟨t,rfl⟩:=rx;exact SeqAt.EqAt.bool_str a b t
  |_=>exact absurd (show false=true from fx) Bool.false_ne_true
 |int a=>
  obtain⟨t',rfl⟩:=ry
  cases x with
  |non=>cases rx;exact SeqAt.EqAt.int_none a t'
  |bl b=>cases rx;exact SeqAt.EqAt.int_bool a t' b
  |int b=>obtain⟨t,rfl⟩:=rx;exact SeqAt.EqAt.int_int a t' b t
  |str b=>obtain⟨t,rfl⟩:=rx;exact SeqAt.EqAt.int_str a t' b t
  |_=>exact absurd (show false=true from fx) Bool.false_ne_true
 |str a=>
  obtain⟨t',rfl⟩:=ry
  cases x with
  |non=>cases rx;exact SeqAt.EqAt.str_none a t'
  |bl b=>cases rx;exact SeqAt.EqAt.str_bool a t' b
  |int b=>obtain⟨t,rfl⟩:=rx;exact SeqAt.EqAt.str_int a t' b t
  |str b=>obtain⟨t,rfl⟩:=rx;exact SeqAt.EqAt.str_str a t' b t
  |_=>exact absurd (show false=true from fx) Bool.false_ne_true
 |_=>exact absurd (show false=true from fy) Bool.false_ne_true
def VN(x:V)(u:Value):Bool:=match u with
 | .none=>UB .non x
 | .bool b=>UB (.bl b) x
 | .int i _=>UB (.int i) x
 | .str z _=>UB (.str z) x
 |_=>false
theorem SH(r:RelV y u)(f:Dk y=true):VN x u=UB y x:=by
 cases y with
 |non=>cases r;rfl
 |bl b=>cases r;rfl
 |int i=>obtain⟨t,rfl⟩:=r;rfl
 |str z=>obtain⟨t,rfl⟩:=r;rfl
 |_=>exact absurd (show false=true from f) Bool.false_ne_true
theorem Xt{x:V}:∀ {xs:List V} {us:List Value},Vals xs us->xs.all Dk=true->us.any (VN x)=xs.any λy=>UB y x
 |_,_,.nil,_=>rfl
 |y::xs,u::us,.cons r t,f=>by
  rw[all_cons,and_eq_true]at f
  rw[List.any_cons,List.any_cons,SH r f.1,Xt t f.2]
theorem Iq{A:Around}{s:Shared}{x:V}{v:Value}(rx:RelV x v)(fx:Dk x=true):∀ {xs:List V} {us:List Value},Vals xs us->xs.all Dk=true->∀ u∈us,SeqAt.EqAt A s u v (VN x u)
 |_,_,.nil,_=>λu hu=>by cases hu
 |y::xs,u::us,.cons r t,f=>λu' hu=>by
  rw[all_cons,and_eq_true]at f
  rcases mem_cons.mp hu with rfl|hu
  .rw[SH r f.1];exact XU r rx f.1 fx
  .exact Iq rx fx t f.2 u' hu
def M3(x:V)(xs:List V):Bool:=xs.any λy=>UB y x
def X6(K:Frag)(neg:Bool):R2:=λx y H Q=>∃ p xs,y=.ref p/\(SqL K H p xs\/SqT K H p xs)/\Dk x=true/\xs.all Dk=true/\Q (.bl (if neg then !M3 x xs else M3 x xs)) H
theorem PF:OpR X (compareOp .In) (X6 X.K false):=by
 intro pins s σ H x y v u Q I rx ry h
 obtain⟨p,xs,rfl,hq,fx,fs,q⟩:=h
 cases ry
 rcases hq with hq|hq
 .obtain⟨its,r,pl,hz⟩:=I.list hq
  refine SeqAt.in_listAt (VN x) pl.isList (λw hw=>Iq rx fx r fs w (by simpa using hw)) ⟨.bl _,H,I,rfl,?_⟩
  rw[show its.toArray.any (VN x)=its.any (VN x) by simp,Xt r fs]
  exact q
 .obtain⟨its,r,pl,hz⟩:=I.tuple hq
  refine SeqAt.in_tupleAt (VN x) pl (λw hw=>Iq rx fx r fs w (by simpa using hw)) ⟨.bl _,H,I,rfl,?_⟩
  rw[show its.toArray.any (VN x)=its.any (VN x) by simp,Xt r fs]
  exact q
theorem Bu:Bl X (.type "list") (λxs H Q=>∃ p ys,xs= [.ref p]/\(SqL X.K H p ys\/SqT X.K H p ys)/\∀ l,H l=none->Q (.ref l) (Eb H l (.lst ys))):=by
 intro pins s σ H xs us Q I r h
 obtain⟨p,ys,rfl,hq,q⟩:=h
 obtain⟨u,rfl,rx⟩:=SL r
 cases rx
 have fin:∀ (its:List Value),Vals ys its->ys.length<=sizeLine->∀ (h':Heap) (c':Nat),(∀ b o',s.heap.get? b=some o'->h'.get? b=some o')->
   h'.get? s.heap.objs.size=some {cls:=.type "list",dict:=none,data:=.seq its.toArray c',slots:= #[]}->EP X pins σ Q (.ref s.heap.objs.size) {s with heap:=h'}:=λits r' hz h' c' kp e=>
  ⟨.ref s.heap.objs.size,_,I.laid (t':=s.toks) kp (le_refl _) (show ObjOk X.prog X.w _ h' _ (.lst ys) from⟨hz,its,c',r',e⟩),rfl,q _ (I.hok.fresh (le_refl _))⟩
 rcases hq with hq|hq
 .obtain⟨its,r',pl,hz⟩:=I.list hq
  have hlen:=r'.length
  obtain⟨o,ho,hc,n,hd⟩:=pl.isList
  exact call_list_seq p (.inl rfl) ho hc hd (λh' c' kp e=>fin its r' hz h' c' kp e) (by simp only[size_toArray]<;>omega)
 .obtain⟨its,r',pl,hz⟩:=I.tuple hq
  have hlen:=r'.length
  obtain⟨o,ho,hc,n,hd⟩:=pl
  exact call_list_seq p (.inr rfl) ho hc hd (λh' c' kp e=>fin its r' hz h' c' kp e) (by simp only[size_toArray]<;>omega)
def O6(K:Frag)(T:String)(x:V)(H:Hp):Prop:=match x with
 | .str _=>T="str"
 | .int _=>T="int"
 | .ref p=>(T="list"/\∃ xs,SqL K H p xs)\/(T="tuple"/\∃ o,K.lookup p=some o/\o.cls=.type "tuple"/\o.dict=none)\/
   (T="dict"/\((∃ kvs,H p=some (.dK kvs))\/∃ kvs,H p=some (.dT kvs)))\/(T="set"/\∃ S n,H p=some (.set S n))
 |_=>False
theorem NL{T:String}{v:Value}(I:Inv X pins σ H s)(r:RelV x v)(ty:O6 X.K T x H):
  s.TypeIs v T/\∀ a,v=.ref a->∃ ob,s.heap.get? a=some ob/\ob.dict=none:=by
 cases x with
 |str z=>
  obtain⟨t,rfl⟩:=r
  cases (show T="str" from ty)
  exact⟨typeIs_str s z t,λ_ e=>nomatch e⟩
 |int i=>
  obtain⟨t,rfl⟩:=r
  cases (show T="int" from ty)
  exact⟨typeIs_int s i t,λ_ e=>nomatch e⟩
 |ref p=>
  cases r
  rcases ty with⟨rfl,xs,hq⟩|⟨rfl,o,hk,hc,hd⟩|⟨rfl,hk⟩|⟨rfl,S,n,hk⟩
  .obtain⟨its,_,pl,_⟩:=I.list hq
   refine⟨pl.isList.typeIs,λa e=>?_⟩
   cases e
   obtain⟨o,n,e,c,hd,_⟩:=pl
   exact⟨o,e,hd⟩
  .refine⟨⟨o,I.kIn p o hk,hc⟩,λa e=>?_⟩
   cases e
   exact⟨o,I.kIn _ o hk,hd⟩
  .have z:∃ o,s.heap.get? p=some o/\o.ExactDict:=by
    rcases hk with⟨kvs,hk⟩|⟨kvs,hk⟩
    .obtain⟨_,_,_,_,o,_,_,e,ex,_⟩:=I.hok p _ hk
     exact⟨o,e,ex⟩
    .obtain⟨_,_,_,_,o,_,_,e,ex,_⟩:=I.hok p _ hk
     exact⟨o,e,ex⟩
   obtain⟨o,e,ex⟩:=z
   refine⟨⟨o,e,ex.1⟩,λa e2=>?_⟩
   cases e2
   exact⟨o,e,ex.2.1⟩
  .obtain⟨o,_,_,_,e,ex,_⟩:=I.hok p _ hk
   refine⟨⟨o,e,ex.1⟩,λa e2=>?_⟩
   cases e2
   exact⟨o,e,ex.2.1⟩
 |_=>exact False.elim ty
def V5(K:Frag)(T:String)(r:V->List V->Hp->VK->Prop)(to:TE):TE:=λσ H Q=>to σ H λx H1=>O6 K T x H1/\r x [] H1 Q
def U7(K:Frag)(T:String)(r:V->List V->Hp->VK->Prop)(to:TE)(t:TA):TE:=λσ H Q=>to σ H λx H1=>O6 K T x H1/\t σ H1 λxs H2=>r x xs H2 Q
variable {o:Expr}{es:List Expr}{to:TE}{t:TA}{name:Str}{apos cpos:Pos}{T id:String}{r:V->List V->Hp->VK->Prop}
theorem AX(pa:PlainAttrs T)(slot:Slot T name id)(hty:typeOf (.builtin id)=pure (.type "method_descriptor"))(hm:QZ X id r)(ho:PE X o to)(hbase:attributeBase o name X.env (eval o X.env)=eval o X.env:=by rfl)(hline:(apos.endLine==cpos.line)=true:=by rfl):PE X (.Call (.Attribute o name apos) [] [] cpos) (V5 X.K T r to):=by
 intro pins s σ H Q I h
 refine wpAny_Call_method0_late hbase hline (thn (ho pins s σ H _ I h) λv s1 ⟨x,H1,I1,r1,ty,q1⟩=>?_)
 obtain⟨h1,h2⟩:=NL I1 r1 ty
 exact⟨T,id,pa,slot,hty,h1,h2,Calls.callWith_builtin rfl (PySem.evalArgs_none (hm pins s1 σ H1 x [] v [] Q I1 r1 .nil q1))⟩
theorem LS(pa:PlainAttrs T)(slot:Slot T name id)(hty:typeOf (.builtin id)=pure (.type "method_descriptor"))(hm:QZ X id r)(ho:PE X o to)(ha:PA X (e::es) t)(hbase:attributeBase o name X.env (eval o X.env)=eval o X.env:=by rfl)(hfew:((backTo cpos (starEach (e::es) X.env)).all (λx=> !x.1)&&(backToKw cpos (keywordEach [] X.env)).all (λx=>x.1.isSome)
   &&decide ((e::es).length+([]:List Keyword).length+(if([]:List Keyword).isEmpty then 0 else 1)<30))=true:=by rfl)(hline:(apos.endLine==cpos.line)=true:=by rfl)(hs:starEach (e::es) X.env=(false,eval e X.env)::starEach es X.env:=by rfl)(hplain:(backTo cpos (starEach es X.env)).any (·.1)=false:=by rfl):
  PE X (.Call (.Attribute o name apos) (e::es) [] cpos) (U7 X.K T r to t):=by
 intro pins s σ H Q I h
 refine wpAny_Call_method_late hbase hfew hline rfl (thn (ho pins s σ H _ I h) λv s1 ⟨x,H1,I1,r1,ty,q1⟩=>?_)
 obtain⟨h1,h2⟩:=NL I1 r1 ty
 refine⟨T,id,pa,slot,hty,h1,h2,?_⟩
 have hA:=ha cpos pins s1 σ H1 _ I1 q1
 rw[hs]at hA ⊢
 refine Calls.callWith_builtin (by show(false||(backTo cpos (starEach es X.env)).any (·.1))=false;rw[hplain]<;>rfl) (Calls.evalArgs_plain ?_)
 exact thn hA λus s2 ⟨vs,H2,I2,r2,q2⟩=>hm pins s2 σ H2 x vs v us Q I2 r1 r2 q2
/- xs.append(e),list.index on a module's tuple .. are QZ facts of 06m -/
end
def R6(X:Cx)(id:String)(r:V->List V->Hp->VK->Prop):Prop:=
 ∀ (pins:List (Addr×Obj)) (s:Shared) (σ:St) (H:Hp) (x:V) (xs:List V) (v:Value) (us:List Value) (Q:VK),Inv X pins σ H s->RelV x v->Vals xs us->r x xs H Q->
  wpAny (model X.prog X.w) X.A (call (.builtin id) (v::us)) (EP X pins σ Q) X.xe s
theorem Vals.one:∀ {x:V} {us:List Value},Vals [x] us->∃ u,us= [u]/\RelV x u
 |_,_,.cons r .nil=>⟨_,rfl,r⟩
theorem Vals.two:∀ {x y:V} {us:List Value},Vals [x,y] us->∃ u v,us= [u,v]/\RelV x u/\RelV y v
 |_,_,_,.cons r (.cons q .nil)=>⟨_,_,rfl,r,q⟩
theorem Vals.zero:∀ {us:List Value},Vals [] us->us= []
 |_,.nil=>rfl
theorem Vals.dropLast(h:Vals xs us):Vals xs.dropLast us.dropLast:=by
 induction h with
 |nil=>exact .nil
 |cons r t ih=>
  cases t with
  |nil=>exact .nil
  |cons q t'=>exact .cons r ih
theorem Vals.eraseIdx:∀ {xs:List V} {us:List Value} (i:Nat),Vals xs us->Vals (xs.eraseIdx i) (us.eraseIdx i)
 |_,_,_,.nil=>.nil
 |_,_,0,.cons _ t=>t
 |_,_,i+1,.cons r t=>.cons r (Vals.eraseIdx i t)
theorem Vals.rep(h:Vals xs us):∀ k:Nat,Vals (replicate k xs).flatten (replicate k us).flatten
 |0=>.nil
 |k+1=>by
  rw[replicate_succ,replicate_succ,flatten_cons,flatten_cons]
  exact Vals.append h (Vals.rep h k)
theorem Rz(l:List α):l.eraseIdx (l.length-1)=l.dropLast:=by
 induction l with
 |nil=>rfl
 |cons a r ih=>
  cases r with
  |nil=>rfl
  |cons b r=>
   have e:(a::b::r).length-1=((b::r).length-1)+1:=by
    have h1:(a::b::r).length=r.length+2:=rfl
    have h2:(b::r).length=r.length+1:=rfl
    omega
   rw[e,List.eraseIdx_cons_succ,ih]
   all_goals rfl
theorem Gs(its:List Value):∀ (k:Nat) (acc:List Value),
  List.foldl (λx1 x2=>x1++x2) acc.toArray (replicate k its.toArray)=(acc++(replicate k its).flatten).toArray
 |0,acc=>by simp
 |k+1,acc=>by
  have e:acc.toArray++its.toArray=(acc++its).toArray:=by simp
  have e2:(acc++its)++(replicate k its).flatten=acc++(replicate (k+1) its).flatten:=by
   rw[replicate_succ,flatten_cons,append_assoc]
  rw[<-e2,<-Gs its k (acc++its),<-e,replicate_succ,foldl_cons]
variable{its:List Value}{t':Nat}
section
variable {l b:Addr}{ys zs:List V}
theorem Inv.lset{its':List Value}{f:Array Value->Array Value}(I:Inv X pins σ H s)(hH:H l=some (.lst xs))(e:s.heap.get? l=some {cls:=.type "list",data:=.seq its.toArray n})(hf:f its.toArray=its'.toArray)(hv:Vals ys its')(hz:ys.length<=sizeLine):
  Inv X pins σ (Eb H l (.lst ys)) {s with heap:=s.heap.update l (Obj.mapSeq f),toks:=t'}:=by
 have q:=PySem.IsL.update e f
 rw[hf]at q
 refine I.write (x:=l) (e:=l) (by rw[hH];exact trivial) (.inl rfl) (λb' u hb hu=>(Heap.get?_update_other s.heap (Obj.mapSeq f) (Ne.symm hb)).trans hu) ⟨_,q⟩ ?_
 exact⟨hz,its',_,hv,q⟩
theorem Inv.lnew(I:Inv X pins σ H s)(hv:Vals ys its)(hz:ys.length<=sizeLine):
  Inv X pins σ (Eb H s.heap.objs.size (.lst ys)) {s with heap:=s.heap.push {cls:=.type "list",data:=.seq its.toArray},toks:=t'}:=
 I.laid (λ_ _ q=>get?_push_of_some _ q) (le_refl _) ⟨hz,its,0,hv,get?_push_size _ rfl⟩
theorem Inv.fresh(I:Inv X pins σ H s):H s.heap.objs.size=none:=I.hok.fresh (le_refl _)
theorem Inv.lstM(I:Inv X pins σ H s)(hH:H l=some (.lst xs)):xs.length<=sizeLine/\∃ (its:List Value) (n:Nat),Vals xs its/\xs.length=its.length/\s.heap.get? l=some {cls:=.type "list",data:=.seq its.toArray n}:=by
 obtain⟨z,its,n,r,e⟩:=I.hok l _ hH
 exact⟨z,its,n,r,r.length,e⟩
theorem NJ(h:n<=sizeLine):Builtin.List.listTooLong n=false:=by
 unfold Builtin.List.listTooLong
 exact decide_eq_false (by omega)
end
def WQ:V->List V->Hp->VK->Prop:=λx vs H Q=>∃ l xs y,x=.ref l/\vs= [y]/\H l=some (.lst xs)/\xs.length<sizeLine/\Q .non (Eb H l (.lst (xs++ [y])))
theorem Xs:R6 X "list.append" WQ:=by
 intro pins s σ H x vs v us Q I rx rv h
 obtain⟨l,xs,y,rfl,rfl,hH,hz,q⟩:=h
 cases rx
 obtain⟨u,rfl,ru⟩:=rv.one
 obtain⟨z,its,n,r,hl,e⟩:=I.lstM hH
 refine call_meets F.slot_list_append ⟨_,e,rfl⟩ F.entry_list_append (F.args_list_append_2 _ _) (PySem.list_append l its.toArray n u (by rw[size_toArray];omega)) ⟨e,?_⟩
 refine⟨.non,_,I.lset (its':=its++ [u]) hH e (by simp) (r.append (.cons ru .nil)) ?_,rfl,q⟩
 rw[length_append,length_singleton]
 omega
def L5:V->List V->Hp->VK->Prop:=λx vs H Q=>∃ l xs y,x=.ref l/\vs= []/\H l=some (.lst xs)/\xs[xs.length-1]? =some y/\Q y (Eb H l (.lst xs.dropLast))
theorem EW:R6 X "list.pop" L5:=by
 intro pins s σ H x vs v us Q I rx rv h
 obtain⟨l,xs,y,rfl,rfl,hH,hy,q⟩:=h
 cases rx
 have hus:=rv.zero
 subst hus
 obtain⟨z,its,n,r,hl,e⟩:=I.lstM hH
 obtain⟨u,hu,ru⟩:=r.get hy
 have hy':its.toArray[its.toArray.size-1]? =some u:=by
  show its.toArray[its.length-1]? =some u
  rw[<-getElem?_toList,<-hl]
  exact hu
 refine call_meets F.slot_list_pop ⟨_,e,rfl⟩ F.entry_list_pop (F.args_list_pop_1 _) (MeetsSeq.list_pop_last l its.toArray n u hy' (by rw[size_toArray];omega)) ⟨e,?_⟩
 refine⟨y,_,I.lset (its':=its.dropLast) hH e ?_ r.dropLast ?_,ru,q⟩
 .show its.toArray.eraseIdxIfInBounds (its.toArray.size-1)=its.dropLast.toArray
  rw[size_toArray,List.eraseIdxIfInBounds_toArray,Rz]
 .rw[List.length_dropLast]
  omega
theorem JC(xs:List α)(k:Nat):(replicate k xs).flatten.length=k*xs.length:=by
 induction k with
 |zero=>simp
 |succ k ih=>rw[replicate_succ,flatten_cons,length_append,ih,Nat.succ_mul,Nat.add_comm]
section
variable {prog:Program}{w:World}{E:Value->Shared->Prop}
end
end L2
namespace Att
open PySem PySem.W PySem.Calls PyProof.Rows
variable{P:Params}
theorem Fo{h:Heap}:∀ (ns:List Int) (vs:List Value),WellAll P h vs (ns.map WData.int)->IntsAre vs ns:=by
 intro ns
 induction ns with
 |nil=>
  intro vs w
  rw[map_nil]at w
  cases w
  exact .nil
 |cons n ns ih=>
  intro vs w
  rw[map_cons]at w
  cases w with
  |cons a b=>
   cases a
   exact .cons _ _ (ih _ b)
variable{l:OpenLaw}{n:Nat}
theorem ZF(hn:l.most=some n){h:Heap}{args:List WData}{vals:List Value}(hpre:l.row.toRowW.claim.pre args=true)(hwl:WellAll P h vals args):
  ∃ a vs ns,vals= [Value.ref a]/\args= [WData.list (ns.map WData.int)]/\h.get? a=some {cls:=.type "list",data:=.seq vs.toArray}/\IntsAre vs ns/\ns.length<=n:=by
 have hsh:WShape.hasAll [] args [.list .int]=true:=(pre_splitW hpre).1
 have hc:l.pre.holds [] {args:=args}=true:=(pre_splitW hpre).2
 obtain⟨d,r,rfl,h1,h2⟩:=hasAllW_cons hsh
 obtain rfl:=hasAllW_nil h2
 obtain⟨xs,rfl,h3⟩:=hasW_list h1
 obtain⟨ns,rfl⟩:=items_int h3
 have hlen:ns.length<=n:=by
  unfold OpenLaw.pre at hc
  have h4:(WTm.not (.lt (.lit (.int (n:Int))) (.len (.arg 0)))).holds [] {args:= [.list (ns.map .int)]}=true:=by
   have h4:=(holds_andW hc).1
   rw[hn]at h4
   exact h4
  have h5:=condW_of h4 (w_not (w_lt w_lit (w_len_list (w_arg rfl))))
  rw[length_map]at h5
  refine Nat.le_of_not_lt λq=>?_
  have q':(n:Int)<((ns.length:Nat):Int):=by omega
  first
   |(rw[decide_eq_true q']at h5;exact absurd h5 (by decide))
   |(simp at h5;omega)
 cases hwl with
 |cons w1 w2=>
  cases w2
  cases w1 with
  |list ho hall=>exact⟨_,_,ns,rfl,rfl,ho,Fo ns _ hall,hlen⟩
theorem VF(l:OpenLaw)(args:List WData):l.row.toRowW.claim.post args (.bool true) args=true:=
 postW_of (r:=l.row.toRowW) (X:=(true==true))
  (show WShape.has [] (.bool true) .bool=true by first|rfl|decide|simp[WShape.has,WShape.arms,WShape.armsAll])
  (show(WTm.eq .res (.lit (.bool true))).value [] {args:=args,res:=some (.bool true),after:=args}=some (.bool (true==true)) from w_eq_bool (w_res rfl) w_lit) rfl
theorem attach_call{q:Program}{loose:List Str}{XP:(Str->Option Value)->Heap->Prop}{YP:World->Heap->Prop}{d:DefRec}(hn:l.most=some n)(hdf:d.params.defaults= [])(call:∀ (w:World) (s₀ s₁:Shared) (mg mb:Str->Option Value) (fa:Addr) (o:Obj) (pm cd doc:Value) (a:Addr) (vs:List Value) (ns:List Int),
   Ground q loose [] XP w s₀ mg mb s₁.heap->YP w s₁.heap->
   s₁.heap.get? fa=some o->o.data=.func (docDef d.name d.params d.body d.scope pm cd doc)->s₁.heap.CodeRec cd d.name->mg d.name=some (.ref fa)->
   s₁.heap.get? a=some {cls:=.type "list",data:=.seq vs.toArray}->IntsAre vs ns->ns.length<=n->s₁.gens= #[]->
   codeAny (model l.prog w) callerA (.call (.ref fa) ⟨[.ref a],[]⟩) (λr s'=>r=.ok (.ret (.bool true))/\OldK s₁.heap s'.heap/\s'.os=s₁.os/\AllBare s'.gens) s₁):
  WalkO q loose XP YP l.row.toRowW d [] (λf vs=>PySem.call f vs):=by
 intro w s₀ s₁ mg mb G Y fa o pm cd doc dV kV ho hd hcd hD hmg hg args vals as hpre hlay hrd hwl hlo
 obtain rfl:dV=.none:=Dflts.none hD hdf
 obtain rfl:kV=.none:=Dflts.noKw hD
 obtain⟨a,vs,ns,rfl,rfl,hobj,hints,hlen⟩:=ZF hn hpre hwl
 refine enter_call (codeAny_mono (call w s₀ s₁ mg mb fa o pm cd doc a vs ns G Y ho (fd_plain hd) hcd hmg hobj hints hlen hg) λr s' hq=>?_)
 obtain⟨rfl,h2,h3,h4⟩:=hq
 exact⟨.inl ⟨.bool true,.bool true,[],rfl,λ_=>rfl,.bool true,VF l _,λ_=>⟨Pairwise.nil,λ_ hm=>(nomatch hm)⟩⟩,h2,h3,h4⟩
section
variable {prog:Program}{w:World}{A:Around}{E:Value->Shared->Prop}{s:Shared}{K:Frag}
end
end Att
namespace L2
open PySem PySem.Spec PyProof.Rows
theorem vals_ints:∀ {vs:List Value} {ns:List Int},IntsAre vs ns->Vals (ns.map V.int) vs
 |_,_,.nil=>.nil
 |_,_,.cons n t h=>.cons ⟨t,rfl⟩ (vals_ints h)
def YS(H:Hp):Prop:=∀ b,H b=none\/∃ o xs,H b=some (.frz o (.lst xs))
variable{k:Nat}{x:Str}
theorem YI{P:Program}{w:World}{K:Frag}{mg mb:Str->Option Value}{CX:Vt}{fa a:Addr}{fd:FuncData}{sp:Sp}{s₁:Shared}{vs:List Value}{ns:List Int}(KX:K.In s₁.heap)(hns:s₁.heap.Ns mainGlobals mg)(hb:s₁.heap.Ns builtinsNs mb)(hbb:∀ x:Str,x≠"__name__"->mb x=bootBuiltins x)(hlim:s₁.heap.NoLimit)(hg:s₁.gens= #[])(ha:s₁.heap.get? a=some {cls:=.type "list",data:=.seq vs.toArray})(hi:IntsAre vs ns)(hl:ns.length<=sizeLine)(hr:Room k callerA)(F:∀ base:Heap,K.In base->base.Ns mainGlobals mg->FnOk P w K mg base CX k fa fd [x] sp)(hbind:∀ (s:Shared) (u:Value),BindsTo s fd ⟨[u],[]⟩ [(x,u)])(hsp:∀ H:Hp,YS H->SqL K H a (ns.map V.int)->sp [.ref a] H (λv _=>v=.bl true) λ_ _ _=>False)(hCX:∀ H e s',CX [] H s₁ (λ_ _ _=>False) e s'->False):
  codeAny (model P w) callerA (.call (.ref fa) ⟨[.ref a],[]⟩) (λr s'=>r=.ok (.ret (.bool true))/\OldK s₁.heap s'.heap/\s'.os=s₁.os/\AllBare s'.gens) s₁:=by
 have rv:=vals_ints hi
 have lenV:=hi.length
 have core:∀ H:Hp,YS H->SqL K H a (ns.map V.int)->HOk P w H s₁.heap->(∀ b,H b≠none->b=a)->(H a≠none->K.lookup a=none)->
   codeAny (model P w) callerA (.call (.ref fa) ⟨[.ref a],[]⟩) (λr s'=>r=.ok (.ret (.bool true))/\OldK s₁.heap s'.heap/\s'.os=s₁.os/\AllBare s'.gens) s₁:=by
  intro H hO hS hok hA hK
  have base_of:∀ {b:Addr} {o:Obj},s₁.heap.get? b=some o->H b=none->(Ku s₁.heap H).get? b=some o:=λe n=>EI e n
  have noA:∀ {b:Addr} {o:Obj} {es:Array DictEntry} {ep:Nat},s₁.heap.get? b=some o->o.data=.dict es ep->H b=none:=λ{b o es ep} e d=>by
   cases q:H b with
   |none=>rfl
   |some u=>
    have e':b=a:=hA b (by rw[q];simp)
    subst e'
    rw[ha]at e;cases e
    have d':Data.seq vs.toArray _=Data.dict es ep:=d
    cases d'
  have nsK:∀ {b:Addr} {m:Str->Option Value},s₁.heap.Ns b m->(Ku s₁.heap H).Ns b m:=λ{b m} ⟨o,es,ep,e,d,r⟩=>⟨o,es,ep,base_of e (noA e d),d,r⟩
  have hKb:K.In (Ku s₁.heap H):=λb o e=>base_of (KX b o e) (by
   cases q:H b with
   |none=>rfl
   |some u=>
    have e':b=a:=hA b (by rw[q];simp)
    subst e'
    rw[hK (by rw[q];simp)]at e;cases e)
  have hM:Mod K mg (Ku s₁.heap H):=⟨hKb,nsK hns,⟨mb,nsK hb,hbb⟩,let ⟨mc,h1,h2⟩:=hlim;⟨mc,nsK h1,h2⟩⟩
  have e0:Env0 P w K mg (Ku s₁.heap H) callerA [] s₁ H:=⟨rfl,hM,λb o e=>LP e,Nat.le_of_eq (SE _ _),trivial,λb hb=>absurd (show b∈([]:List Addr) from hb) (by simp),hok,.of_eq hg⟩
  refine codeAny_mono ((F _ hKb (nsK hns)).run callerA [] s₁ H ⟨[.ref a],[]⟩ [.ref a] [.ref a] _ _ hr e0 (hbind s₁ (.ref a)) (.cons rfl .nil) (hsp H hO hS)) λr s' h=>?_
  cases r with
  |error e=>exact(hCX H e s' h).elim
  |ok fl=>
   cases fl with
   |next=>exact False.elim h
   |brk=>exact False.elim h
   |cont=>exact False.elim h
   |ret u=>
    obtain⟨v,H',os,bare,un,hok',r',q⟩:=h
    have q':v=.bl true:=q
    subst q'
    obtain rfl:u=Value.bool true:=r'
    refine⟨rfl,OldK.of_keep λb o e=>?_,os,bare⟩
    cases q:H b with
    |none=>exact un.keep b o e q (by intro z;exact absurd (show b∈([]:List Addr) from z) (by simp)) (by simp)
    |some u=>
     rcases hO b with z|⟨ob,xs,z⟩
     .rw[q]at z;cases z
     .have z2:=un.frzs b ob _ z
      obtain⟨e1,_⟩:=hok b _ z
      obtain⟨e2,_⟩:=hok' b _ z2
      rw[e]at e1;cases e1
      exact e2
 cases hk:K.lookup a with
 |some o=>
  have e:=KX a o hk
  rw[ha]at e
  cases e
  refine core (λ_=>none) (λ_=>.inl rfl) (.inr ⟨_,vs.toArray,_,hk,rfl,rfl,rfl,by rw[size_toArray,lenV];exact hl,by simpa using rv⟩) (λb u z=>by have z':(none:Option HO)=some u:=z;cases z') (λb z=>absurd rfl z) λz=>absurd rfl z
 |none=>
  refine core (λb=>if b=a then some (.frz {cls:=.type "list",data:=.seq vs.toArray} (.lst (ns.map V.int))) else none) (λb=>?_) (.inl (.inr ⟨{cls:=.type "list",data:=.seq vs.toArray},if_pos rfl⟩)) (λb u z=>?_) (λb z=>?_) λ_=>hk
  .by_cases hb:b=a
   .exact .inr ⟨_,_,if_pos hb⟩
   .exact .inl (if_neg hb)
  .by_cases hb:b=a
   .have z':=(if_pos hb).symm.trans z
    cases z'
    subst hb
    exact⟨ha,by rw[length_map];exact hl,vs,_,rv,ha⟩
   .have z':=(if_neg hb).symm.trans z
    cases z'
  .by_cases hb:b=a
   .exact hb
   .exact absurd (if_neg hb) z
theorem walk_of{l:PySem.W.OpenLaw}{n:Nat}{q:Program}{loose:List Str}{XP:(Str->Option Value)->Heap->Prop}{YP:World->Heap->Prop}{d:DefRec}{K:Params->Frag}{CX:World->Vt}{sp:World->Sp}(hn:l.most=some n)(hn2:n<=sizeLine)(hdf:d.params.defaults= [])(hr:Room k callerA)(hY:∀ (w:World) (h:Heap),YP w h->(K w.params).In h)(F:∀ (w:World) (mg:Str->Option Value) (fa:Addr) (h:Heap),(K w.params).In h->h.Ns mainGlobals mg->mg d.name=some (.ref fa)->
   ∃ fd:FuncData,(∀ (s:Shared) (u:Value),BindsTo s fd ⟨[u],[]⟩ [(x,u)])/\
    ∀ base:Heap,(K w.params).In base->base.Ns mainGlobals mg->FnOk l.prog w (K w.params) mg base (CX w) k fa fd [x] (sp w))(hsp:∀ (w:World) (H:Hp) (a:Addr) (ns:List Int),ns.length<=n->YS H->SqL (K w.params) H a (ns.map V.int)->sp w [.ref a] H (λv _=>v=.bl true) λ_ _ _=>False)(hCX:∀ (w:World) (H:Hp) (s:Shared) (e:Value) (s':Shared),CX w [] H s (λ_ _ _=>False) e s'->False):
  PySem.W.WalkO q loose XP YP l.row.toRowW d [] (λf vs=>PySem.call f vs):=by
 refine Att.attach_call hn hdf λw s₀ s₁ mg mb fa o pm cd doc a vs ns G Y ho hd hcd hmg hobj hints hlen hg=>?_
 have KX:=hY w _ Y
 obtain⟨fd,hb,hF⟩:=F w mg fa _ KX G.T.g hmg
 exact YI KX G.T.g G.T.b G.T.builtins G.T.nolimit hg hobj hints (le_trans hlen hn2) hr hF hb (λH hO hS=>hsp w H a ns hlen hO hS) λH e s'=>hCX w H s₁ e s'
end L2
/- THE LAST THEOREM (shape; LID, My.* are yours):
   My.Adr: a structure of the addresses that your layer names (classes, functions); My.Txt K t: a structure (Prop) of the equations over K;
   My.txt_mk : {K} {implicit addresses ..} (e1 : nsIn K mainGlobals "law" = some (some (.ref f))) (e2 : K.lookup f = some ⟨oc, od,.func (fnOf "law" "law" params body scope dV kV doc pm an cdv ct), sl⟩) (e3 : codeIn K cdv "law" = true) .. : ∃ t, My.Txt K t
(the tactic k_is has no namespace: write k_is) -/
namespace L2
open PySem PySem.Spec PyProof.Rows
def GC(s:Stmt)(j:Nat):Stmt:=match s with
 | .ClassDef _ _ _ body _ _ _ _ _ _ _=>body.getD j (.Pass ⟨0,0,0,0⟩)
 |_=>.Pass ⟨0,0,0,0⟩
def Gb(s:Stmt):Arguments:=match s with
 | .FunctionDef _ a _ _ _ _ _ _ _ _=>a
 |_=> {posonlyargs:= [],args:= [],vararg:=none,kwonlyargs:= [],kw_defaults:= [],kwarg:=none,defaults:= []}
def Va(s:Stmt):List Stmt:=match s with
 | .FunctionDef _ _ b _ _ _ _ _ _ _=>b
 |_=> []
def Ca(s:Stmt):Scope:=match s with
 | .FunctionDef _ _ _ _ _ _ sc _ _ _=>sc
 |_=> {kind:=.function,names:= [],isGenerator:=false,isCoroutine:=false}
abbrev Al:Vt:=λ_ _ _ _ _ _=>False
abbrev E0:XK:=λ_ _ _=>False
variable{X:Cx}
theorem KS:Kk Al X E0:=λ_ _ _ _ _ _ _ h=>h.elim
structure Fun(K:Frag)(x qual:Str)(st:Stmt)(f:Addr)(fd:FuncData):Prop where
 ex:∃ (oc:Value) (od:Option Addr) (kV doc pm:Value) (an:Option Addr) (cdv ct:Value) (osl:Array (Option Value)),
  fd=fnOf x qual (Gb st) (Va st) (Ca st) .none kV doc pm an cdv ct/\K.lookup f=some ⟨oc,od,.func fd,osl⟩/\codeIn K cdv qual=true
 kp:keepIn K (.ref f)=true
variable{x qual:Str}{st:Stmt}{f:Addr}{fd:FuncData}{ps:List Str}
section
variable {P:Program}{w:World}{K:Frag}{mg:Str->Option Value}{base:Heap}
theorem Fun.ok{N:List Str}{k:Nat}{sp:Sp}(F:Fun K x qual st f fd)(S:FnScope N ps (Ca st))(len:∀ vs H Q E,sp vs H Q E->vs.length=ps.length)(hbody:∀ (cdv:Value) (A:Around) (outer:List Env) (s:Shared) (H:Hp) (vs:List V) (Q:VK) (E:XK),Room k (A.deeper (envOfC qual (Ca st) s.heap.objs.size f cdv))->sp vs H Q E->
   ∃ t,PSs (Ak Al P w K mg base N qual (Ca st) f cdv A outer s H E).nox (Va st) t/\t {nx:=λ_ H'=>Q .non H',rt:=Q} (start N vs) H):FnOk P w K mg base Al (k+1) f fd ps sp:=by
 obtain⟨oc,od,kV,doc,pm,an,cdv,ct,osl,rfl,lk,hcd⟩:=F.ex
 refine IS lk hcd S len λA outer s H vs Q E hr hsp=>?_
 obtain⟨t,h,q⟩:=hbody cdv A outer s H vs Q E hr hsp
 exact⟨t,h.nox,q⟩
theorem Fun.binds(F:Fun K x qual st f fd)(h:∀ (kV doc pm:Value) (an:Option Addr) (cdv ct:Value) (us:List Value),us.length=ps.length->bindArgs (fnOf x qual (Gb st) (Va st) (Ca st) .none kV doc pm an cdv ct) ⟨us,[]⟩=pure (ps.zip us)):Binds K fd ps []:=by
 obtain⟨oc,od,kV,doc,pm,an,cdv,ct,osl,rfl,lk,hcd⟩:=F.ex
 exact .all (h kV doc pm an cdv ct)
theorem Yb{oc:Value}{od an:Option Addr}{osl:Array (Option Value)}{kV doc pm cdv ct:Value}(l:K.lookup f=some ⟨oc,od,.func (fnOf x qual (Gb st) (Va st) (Ca st) .none kV doc pm an cdv ct),osl⟩)(c:codeIn K cdv qual=true)(k:keepIn K (.ref f)=true):Fun K x qual st f (fnOf x qual (Gb st) (Va st) (Ca st) .none kV doc pm an cdv ct):=⟨⟨oc,od,kV,doc,pm,an,cdv,ct,osl,rfl,l,c⟩,k⟩
end
theorem pv(i:Nat){pos:Pos}(hN:X.N[i]? =some x:=by rfl)(hv:Br X.env.scope x:=by first|exact Or.inl rfl|exact Or.inr (Or.inl rfl)|exact Or.inr (Or.inr rfl))(hd:(x==("__debug__":Str))=false:=by decide)(hcd:(x==("__classdict__":Str))=false:=by decide):PE X (.Name x pos) (T2 i):=Pd hN hv hd hcd
def Same(H H':Hp):Prop:=∀ b o,H b=some o->H' b=some o
theorem Same.refl(H:Hp):Same H H:=λ_ _ h=>h
variable{H:Hp}
theorem Same.trans{H1 H2:Hp}(a:Same H H1)(b:Same H1 H2):Same H H2:=λc o h=>b c o (a c o h)
theorem Same.free{H':Hp}(e:Same H H'){l:Addr}(h:H' l=Option.none):H l=Option.none:=by
 cases q:H l with
 |none=>rfl
 |some o=>
  rw[e l o q]at h
  cases h
end L2
set_option maxHeartbeats 4000000
namespace L3
open PySem PySem.Spec PyProof.Rows L2
inductive D where
 |non|bl (b:Bool)|int (i:Int)|str (x:Str)|tup (ds:List D)|lst (ds:List D)|dct (ks:List Bb) (ds:List D)|exc (c:Str) (ds:List D)|obj (c:Str) (ks:List Str) (ds:List D)
inductive Res(α:Type) where
 |ok (a:α)|ex (c:Str) (fs:List D)|stuck
variable{α β:Type}
def Res.bind(r:Res α)(k:α->Res β):Res β:=match r with
 | .ok a=>k a
 | .ex c fs=>.ex c fs
 | .stuck=>.stuck
theorem Res.bind_ok(a:α)(k:α->Res β):(Res.ok a).bind k=k a:=rfl
theorem Res.bind_ex(c:Str)(fs:List D)(k:α->Res β):(Res.ex c fs).bind k=.ex c fs:=rfl
theorem Res.bind_stuck(k:α->Res β):(Res.stuck:Res α).bind k=.stuck:=rfl
inductive Ch where
 |d (x:D)|l (ds:List D)|q (ks:List Bb) (ds:List D)
inductive Tp where
 |lst|dct (ks:List Bb)|ins (c:Str) (ks:List Str)|tup
inductive S where
 |d (x:D)|o (ds:List D)|q (ks:List Bb) (ds:List D)|w (dss:List (List D))|k (t:Tp) (cs:List Ch)
def JM:Tp->Prop
 | .tup=>False
 |_=>True
def Z3:Ch->Prop
 | .d _=>False
 |_=>True
def RO:HO->List V
 | .lst xs=>xs
 | .tup xs=>xs
 | .dK kvs=>kvs.map (·.2)
 | .ins _ _ fs=>fs.map (·.2)
 |_=> []
def TpOk(K:Frag):Tp->HO->Prop
 | .lst,.lst _=>True
 | .tup,.tup _=>True
 | .dct ks,.dK kvs=>kvs.map (·.1)=ks
 | .ins c ks,.ins C _ fs=>nsIn K mainGlobals c=some (some (.ref C))/\fs.map (·.1)=ks
 |_,_=>False
def Ow:S->Prop
 | .d _=>False
 | .k t _=>JM t
 |_=>True
def Do:HO->Prop
 | .lst _=>True
 | .dK _=>True
 | .ins _ _ _=>True
 |_=>False
abbrev Ba:=List (Option S)
abbrev Dx:=Option Addr×Bool
def Dj(a:Addr)(C:Value)(dx:Dx):Heap->Prop:=λh=>∃ o vs,h.get? a=some o/\o.cls=C/\o.dict=dx.1/\o.data=.fields vs/\(dx.2=true->vs[2]? =some .none)
def WK:D->Option V
 | .non=>some .non
 | .bl b=>some (.bl b)
 | .int i=>some (.int i)
 | .str x=>some (.str x)
 |_=>none
def ExV(H:Hp)(x:D)(v:V):Prop:=WK x=some v\/∃ ds a o xs,x=.lst ds/\v=.ref a/\H a=some (.frz o (.lst xs))/\ds.map WK=xs.map some
def ExVs(H:Hp):List D->List V->Prop
 | [],[]=>True
 |x::ds,v::vs=>ExV H x v/\ExVs H ds vs
 |_,_=>False
def ExD(H:Hp)(dx:Option Addr)(ns vs:List D):Prop:=∃ d kvs,dx=some d/\H d=some (.xd kvs)/\ns=kvs.map (λp=>D.str p.1)/\ExVs H vs (kvs.map (·.2))
def ExF0(H:Hp)(dx:Dx):List D->Prop
 | []=>True
 | .tup ns::vs=>ExD H dx.1 ns vs
 |_=>False
def ExF(H:Hp)(dx:Dx):List D->Prop
 | .non::fs=>ExF0 H dx fs
 |fs=>dx.2=true/\ExF0 H dx fs
variable{H H':Hp}
theorem ExVs.to(k:∀ b o u,H b=some (.frz o u)->H' b=some (.frz o u)):∀ {ds:List D} {vs:List V},ExVs H ds vs->ExVs H' ds vs
 | [],[],h=>h
 |_::_,_::_,⟨h,t⟩=>⟨by
   rcases h with h|⟨ds,a,o,xs,e1,e2,e3,e4⟩
   .exact .inl h
   .exact .inr ⟨ds,a,o,xs,e1,e2,k _ _ _ e3,e4⟩,t.to k⟩
 | [],_::_,h=>h.elim
 |_::_,[],h=>h.elim
theorem ExD.to{dx:Option Addr}{ns vs:List D}(k:∀ b o u,H b=some (.frz o u)->H' b=some (.frz o u))(k2:∀ b kvs,H b=some (.xd kvs)->H' b=some (.xd kvs))(h:ExD H dx ns vs):ExD H' dx ns vs:=
 let ⟨d,kvs,e1,e2,e3,e4⟩:=h
 ⟨d,kvs,e1,k2 _ _ e2,e3,e4.to k⟩
variable{dx:Dx}
theorem ExF0.to(k:∀ b o u,H b=some (.frz o u)->H' b=some (.frz o u))(k2:∀ b kvs,H b=some (.xd kvs)->H' b=some (.xd kvs)){fs:List D}(h:ExF0 H dx fs):ExF0 H' dx fs:=by
 cases fs with
 |nil=>trivial
 |cons y vs=>
  cases y with
  |tup ns=>exact ExD.to k k2 h
  |_=>exact h.elim
theorem ExF.to(k:∀ b o u,H b=some (.frz o u)->H' b=some (.frz o u))(k2:∀ b kvs,H b=some (.xd kvs)->H' b=some (.xd kvs)){fs:List D}(h:ExF H dx fs):ExF H' dx fs:=by
 cases fs with
 |nil=>exact h
 |cons y vs=>
  cases y with
  |non=>exact ExF0.to (fs:=vs) k k2 h
  |tup ns=>exact⟨h.1,ExF0.to (fs:=.tup ns::vs) k k2 h.2⟩
  |_=>exact h.2.elim
abbrev WS:=Addr->Prop
section
variable (K:Frag)(W:WS)(H:Hp)
def LR(a:Addr)(xs:List V):Prop:=(H a=some (.lst xs)/\¬ W a)\/((∃ o,H a=some (.frz o (.lst xs)))\/∃ (o:Obj) (its:Array Value) (n:Nat),K.lookup a=some o/\o.cls=.type "list"/\o.dict=none/\o.data=.seq its n/\its.size<=sizeLine/\Vals xs its.toList)
mutual
def Has:D->V->Prop
 | .non,v=>v=.non
 | .bl b,v=>v=.bl b
 | .int i,v=>v=.int i
 | .str x,v=>v=.str x
 | .tup ds,v=>∃ a xs,v=.ref a/\SqT K H a xs/\HasL ds xs
 | .lst ds,v=>∃ a xs,v=.ref a/\LR K W H a xs/\HasL ds xs
 | .dct ks ds,v=>∃ a kvs,v=.ref a/\(∃ o,H a=some (.frz o (.dK kvs)))/\kvs.map (·.1)=ks/\HasL ds (kvs.map (·.2))
 | .exc c fs,v=>∃ a C dx,v=.ref a/\nsIn K mainGlobals c=some (some C)/\H a=some (.ext (Dj a C dx))/\ExF H dx fs
 | .obj c ks ds,v=>∃ a C dx fs,v=.ref a/\nsIn K mainGlobals c=some (some (.ref C))/\H a=some (.ins C dx fs)/\¬ W a/\fs.map (·.1)=ks/\HasL ds (fs.map (·.2))
def HasL:List D->List V->Prop
 | [],xs=>xs= []
 |d::ds,xs=>∃ x r,xs=x::r/\Has d x/\HasL ds r
end
end
variable{K:Frag}{W:WS}{a:Addr}{xs:List V}
theorem LR.sq(h:LR K W H a xs):SqL K H a xs:=by
 rcases h with⟨h,_⟩|⟨o,h⟩|h
 .exact .inl (.inl h)
 .exact .inl (.inr ⟨o,h⟩)
 .exact .inr h
def Ph(W:WS)(H H':Hp):Prop:=∀ b o,H b=some o->¬ W b->H' b=some o
def WL(W:WS)(H:Hp):Prop:=∀ b,W b->∃ o,H b=some o/\Do o
theorem Same.keep(h:Same H H'):Ph W H H':=λb o e _=>h b o e
theorem Uq(k:Ph W H H')(w:WL W H)(h:SqT K H a xs):SqT K H' a xs:=by
 have nw:∀ o,H a=some o->¬ Do o->¬ W a:=λo e n z=>by
  obtain⟨o',e',m⟩:=w a z
  rw[e]at e'
  cases e'
  exact n m
 rcases h with(h|⟨o,h⟩)|h
 .exact .inl (.inl (k _ _ h (nw _ h λz=>z)))
 .exact .inl (.inr ⟨o,k _ _ h (nw _ h λz=>z)⟩)
 .exact .inr h
variable{W':WS}
theorem LR.keep(k:Ph W H H')(w:WL W H)(hw:∀ b,W' b->W b\/H b=none)(h:LR K W H a xs):LR K W' H' a xs:=by
 rcases h with⟨h,n⟩|⟨o,h⟩|h
 .refine .inl ⟨k _ _ h n,λz=>?_⟩
  rcases hw a z with z|z
  .exact n z
  .rw[h]at z;cases z
 .refine .inr (.inl ⟨o,k _ _ h λz=>?_⟩)
  obtain⟨o',e',m⟩:=w a z
  rw[h]at e';cases e';exact m
 .exact .inr (.inr h)
section
variable {K:Frag}{W W':WS}{H H':Hp}
mutual
theorem Has.keep(k:Ph W H H')(w:WL W H)(hw:∀ b,W' b->W b\/H b=none):∀ {d:D} {v:V},Has K W H d v->Has K W' H' d v
 | .non,_,h=>by rw[Has]at h ⊢;exact h
 | .bl _,_,h=>by rw[Has]at h ⊢;exact h
 | .int _,_,h=>by rw[Has]at h ⊢;exact h
 | .str _,_,h=>by rw[Has]at h ⊢;exact h
 | .tup ds,_,h=>by
  rw[Has]at h ⊢
  obtain⟨a,xs,e,q,r⟩:=h
  exact⟨a,xs,e,Uq k w q,HasL.keep k w hw r⟩
 | .lst ds,_,h=>by
  rw[Has]at h ⊢
  obtain⟨a,xs,e,q,r⟩:=h
  exact⟨a,xs,e,q.keep k w hw,HasL.keep k w hw r⟩
 | .dct ks ds,_,h=>by
  rw[Has]at h ⊢
  obtain⟨a,kvs,e,⟨o,q⟩,m,r⟩:=h
  refine⟨a,kvs,e,⟨o,k _ _ q λz=>?_⟩,m,HasL.keep k w hw r⟩
  obtain⟨o',e',m'⟩:=w a z
  rw[q]at e';cases e';exact m'
 | .exc _ _,_,h=>by
  rw[Has]at h ⊢
  obtain⟨a,C,dx,e,n,q,f⟩:=h
  have nw:∀ b o,H b=some o->¬ Do o->¬ W b:=λb o q n z=>by
   obtain⟨o',e',m'⟩:=w b z
   rw[q]at e';cases e';exact n m'
  exact⟨a,C,dx,e,n,k _ _ q (nw _ _ q λz=>z),f.to (λb o u q=>k _ _ q (nw _ _ q λz=>z)) λb kvs q=>k _ _ q (nw _ _ q λz=>z)⟩
 | .obj _ _ ds,_,h=>by
  rw[Has]at h ⊢
  obtain⟨a,C,dx,fs,e,n,q,nw,m,r⟩:=h
  refine⟨a,C,dx,fs,e,n,k _ _ q nw,λz=>?_,m,HasL.keep k w hw r⟩
  rcases hw a z with z|z
  .exact nw z
  .rw[q]at z;cases z
theorem HasL.keep(k:Ph W H H')(w:WL W H)(hw:∀ b,W' b->W b\/H b=none):∀ {ds:List D} {xs:List V},HasL K W H ds xs->HasL K W' H' ds xs
 | [],_,h=>by rw[HasL]at h ⊢;exact h
 |d::ds,_,h=>by
  rw[HasL]at h ⊢
  obtain⟨x,r,e,q,t⟩:=h
  exact⟨x,r,e,Has.keep k w hw q,HasL.keep k w hw t⟩
end
theorem Has.same{d:D}{v:V}(h:Has K W H d v)(k:Same H H')(w:WL W H):Has K W H' d v:=Has.keep (Same.keep k) w (λ_ z=>.inl z) h
theorem HasL.same{d:List D}{v:List V}(h:HasL K W H d v)(k:Same H H')(w:WL W H):HasL K W H' d v:=HasL.keep (Same.keep k) w (λ_ z=>.inl z) h
theorem HasL.length:∀ {ds:List D} {xs:List V},HasL K W H ds xs->ds.length=xs.length
 | [],_,h=>by rw[HasL]at h;rw[h];rfl
 |d::ds,_,h=>by
  rw[HasL]at h
  obtain⟨x,r,e,q,t⟩:=h
  rw[e,List.length_cons,List.length_cons,HasL.length t]
theorem HasL.get:∀ {ds:List D} {xs:List V} {i:Nat} {d:D},HasL K W H ds xs->ds[i]? =some d->∃ x,xs[i]? =some x/\Has K W H d x
 | [],_,_,_,_,e=>by simp at e
 |d::ds,_,0,_,h,e=>by
  rw[HasL]at h
  obtain⟨x,r,rfl,q,t⟩:=h
  simp at e;subst e
  exact⟨x,rfl,q⟩
 |d::ds,_,i+1,_,h,e=>by
  rw[HasL]at h
  obtain⟨x,r,rfl,q,t⟩:=h
  obtain⟨y,h1,h2⟩:=HasL.get (i:=i) t (by simpa using e)
  exact⟨y,by simpa using h1,h2⟩
theorem HasL.nil:HasL K W H [] []:=by rw[HasL]
theorem HasL.cons{d:D}{ds:List D}{x:V}{xs:List V}(h:Has K W H d x)(t:HasL K W H ds xs):HasL K W H (d::ds) (x::xs):=by rw[HasL];exact⟨x,xs,rfl,h,t⟩
theorem HasL.append:∀ {ds es:List D} {xs ys:List V},HasL K W H ds xs->HasL K W H es ys->HasL K W H (ds++es) (xs++ys)
 | [],_,_,_,h,t=>by rw[HasL]at h;subst h;exact t
 |d::ds,_,_,_,h,t=>by
  rw[HasL]at h
  obtain⟨x,r,rfl,q,s⟩:=h
  exact HasL.cons q (HasL.append s t)
theorem HasL.take:∀ {ds:List D} {xs:List V} (n:Nat),HasL K W H ds xs->HasL K W H (ds.take n) (xs.take n)
 | [],_,n,h=>by rw[HasL]at h;subst h;simp[HasL]
 |d::ds,_,0,h=>by simp[HasL]
 |d::ds,_,n+1,h=>by
  rw[HasL]at h
  obtain⟨x,r,rfl,q,s⟩:=h
  exact HasL.cons q (HasL.take n s)
theorem HasL.drop:∀ {ds:List D} {xs:List V} (n:Nat),HasL K W H ds xs->HasL K W H (ds.drop n) (xs.drop n)
 | [],_,n,h=>by rw[HasL]at h;subst h;simp[HasL]
 |d::ds,_,0,h=>h
 |d::ds,_,n+1,h=>by
  rw[HasL]at h
  obtain⟨x,r,rfl,q,s⟩:=h
  exact HasL.drop n s
theorem HasL.snoc{ds:List D}{xs:List V}{d:D}{x:V}(h:HasL K W H ds xs)(t:Has K W H d x):HasL K W H (ds++ [d]) (xs++ [x]):=h.append (HasL.cons t HasL.nil)
theorem HasL.set:∀ {ds:List D} {xs:List V} (i:Nat) {d:D} {x:V},HasL K W H ds xs->Has K W H d x->HasL K W H (ds.set i d) (xs.set i x)
 | [],_,n,_,_,h,_=>by rw[HasL]at h;subst h;simp[HasL]
 |e::ds,_,0,_,_,h,t=>by
  rw[HasL]at h
  obtain⟨y,r,rfl,q,s⟩:=h
  exact HasL.cons t s
 |e::ds,_,i+1,_,_,h,t=>by
  rw[HasL]at h
  obtain⟨y,r,rfl,q,s⟩:=h
  exact HasL.cons q (HasL.set i s t)
theorem HasL.ints{ns:List Int}:HasL K W H (ns.map D.int) (ns.map V.int):=by
 induction ns with
 |nil=>exact HasL.nil
 |cons n ns ih=>exact HasL.cons (by rw[Has]) ih
end
def ChHas(K:Frag)(H₀:Hp)(W:WS)(H:Hp):Ch->V->Prop
 | .d x,v=>Has K W H x v
 | .l ds,v=>∃ b xs,v=.ref b/\W b/\H₀ b=none/\H b=some (.lst xs)/\HasL K W H ds xs
 | .q ks ds,v=>∃ b kvs,v=.ref b/\W b/\H₀ b=none/\H b=some (.dK kvs)/\kvs.map (·.1)=ks/\HasL K W H ds (kvs.map (·.2))
def Y3(a:Addr)(cs:List Ch)(vs:List V):Prop:=∀ (i:Nat) (c:Ch) (b:Addr),cs[i]? =some c->Z3 c->vs[i]? =some (.ref b)->b≠a/\∀ (j:Nat) (c':Ch),j≠i->cs[j]? =some c'->Z3 c'->vs[j]? ≠some (.ref b)
structure FrOk(W₀:WS)(H₀:Hp)(W:WS)(H:Hp):Prop where
 ext:Same H₀ H
 sub:∀ b,W₀ b->W b
 wl:WL W H
 wl0:WL W₀ H₀
def SlotHas(K:Frag)(W₀:WS)(H₀:Hp)(W:WS)(H:Hp):S->V->Prop
 | .d x,v=>Has K W H x v
 | .o ds,v=>∃ a xs,v=.ref a/\W a/\H₀ a=none/\H a=some (.lst xs)/\HasL K W H ds xs
 | .q ks ds,v=>∃ a kvs,v=.ref a/\W a/\H₀ a=none/\H a=some (.dK kvs)/\kvs.map (·.1)=ks/\HasL K W H ds (kvs.map (·.2))
 | .w dss,v=>∃ (a:Addr) (bs:List Addr),v=.ref a/\W a/\H₀ a=none/\H a=some (.lst (bs.map V.ref))/\bs.Nodup/\a∉bs/\bs.length=dss.length/\∀ (k:Nat) (b:Addr) (ds:List D),bs[k]? =some b->dss[k]? =some ds->W b/\H₀ b=none/\∃ xs,H b=some (.lst xs)/\HasL K W H ds xs
 | .k t cs,v=>∃ (a:Addr) (ob:HO),v=.ref a/\H a=some ob/\TpOk K t ob/\(JM t->W a/\H₀ a=none)/\cs.length=(RO ob).length/\Y3 a cs (RO ob)/\∀ (j:Nat) (c:Ch) (x:V),cs[j]? =some c->(RO ob)[j]? =some x->ChHas K H₀ W H c x
def Owns(H:Hp):S->V->Addr->Prop
 | .d _,_,_=>False
 | .w _,v,b=>v=.ref b\/∃ (a:Addr) (bs:List Addr),v=.ref a/\H a=some (.lst (bs.map V.ref))/\b∈bs
 | .k t cs,v,b=>(JM t/\v=.ref b)\/∃ (a:Addr) (ob:HO) (j:Nat) (c:Ch),v=.ref a/\H a=some ob/\cs[j]? =some c/\Z3 c/\(RO ob)[j]? =some (.ref b)
 |_,v,b=>v=.ref b
structure StHas(K:Frag)(W₀:WS)(H₀:Hp)(W:WS)(H:Hp)(σ:L2.St)(δ:Ba):Prop where
 fr:FrOk W₀ H₀ W H
 len:σ.length=δ.length
 at':∀ (i:Nat) (s:S),δ[i]? =some (some s)->∃ v,σ[i]? =some (some v)/\SlotHas K W₀ H₀ W H s v
 ap:∀ (i j:Nat) (s t:S) (u v:V) (b:Addr),i≠j->δ[i]? =some (some s)->δ[j]? =some (some t)->σ[i]? =some (some u)->σ[j]? =some (some v)->Owns H s u b->¬ Owns H t v b
variable{W₀ N:WS}{H₀:Hp}{σ:L2.St}{δ:Ba}{ob:HO}{s sl so:S}{b:Addr}{i:Nat}{x:D}{ds es:List D}{ks:List Bb}{w:V}{ys:List V}
theorem WL.same(w:WL W H)(k:Same H H'):WL W H':=λb z=>let ⟨xs,e,m⟩:=w b z;⟨xs,k _ _ e,m⟩
theorem FrOk.same(f:FrOk W₀ H₀ W H)(k:Same H H'):FrOk W₀ H₀ W H':=⟨f.ext.trans k,f.sub,f.wl.same k,f.wl0⟩
theorem TpOk.mut{t:Tp}(h:TpOk K t ob)(m:JM t):Do ob:=by
 cases t<;>cases ob<;>first|exact h.elim|exact m.elim|trivial
theorem TpOk.tup{t:Tp}(h:TpOk K t ob)(m:¬ JM t):∃ xs,ob=.tup xs:=by
 cases t<;>cases ob<;>first|exact h.elim|exact(m trivial).elim|exact⟨_,rfl⟩
theorem ChHas.same{c:Ch}{v:V}(w:WL W H)(k:Same H H')(h:ChHas K H₀ W H c v):ChHas K H₀ W H' c v:=by
 cases c with
 |d x=>exact Has.same h k w
 |l ds=>
  obtain⟨a,xs,e,h1,h2,h3,h4⟩:=h
  exact⟨a,xs,e,h1,h2,k _ _ h3,h4.same k w⟩
 |q ks ds=>
  obtain⟨a,xs,e,h1,h2,h3,h4,h5⟩:=h
  exact⟨a,xs,e,h1,h2,k _ _ h3,h4,h5.same k w⟩
theorem SlotHas.same{v:V}(w:WL W H)(k:Same H H')(h:SlotHas K W₀ H₀ W H s v):SlotHas K W₀ H₀ W H' s v:=by
 cases s with
 |d x=>exact Has.same h k w
 |o ds=>
  obtain⟨a,xs,e,h1,h2,h3,h4⟩:=h
  exact⟨a,xs,e,h1,h2,k _ _ h3,h4.same k w⟩
 |q ks ds=>
  obtain⟨a,xs,e,h1,h2,h3,h4,h5⟩:=h
  exact⟨a,xs,e,h1,h2,k _ _ h3,h4,h5.same k w⟩
 |w dss=>
  obtain⟨a,bs,e,h1,h2,h3,h4,h5,h6,h7⟩:=h
  exact⟨a,bs,e,h1,h2,k _ _ h3,h4,h5,h6,λj b ds e1 e2=>let ⟨g1,g2,xs,g3,g4⟩:=h7 j b ds e1 e2;⟨g1,g2,xs,k _ _ g3,g4.same k w⟩⟩
 |k t cs=>
  obtain⟨a,ob,e,h1,h2,h3,h4,h5,h6⟩:=h
  exact⟨a,ob,e,k _ _ h1,h2,h3,h4,h5,λj c x e1 e2=>(h6 j c x e1 e2).same w k⟩
theorem Qq:∀ {bs cs:List Addr},bs.map V.ref=cs.map V.ref->bs=cs
 | [],[],_=>rfl
 | [],_::_,h=>by cases h
 |_::_,[],h=>by cases h
 |b::bs,c::cs,h=>by
  rw[map_cons,map_cons]at h
  injection h with h1 h2
  injection h1 with h1
  rw[h1,Qq h2]
theorem Owns.back{v:V}(h:SlotHas K W₀ H₀ W H s v)(k:∀ a o,v=.ref a->H a=some o->(Owns H s v a/\Do o)\/(∃ xs,o=.tup xs)->H' a=some o)(o:Owns H' s v b):Owns H s v b:=by
 cases s with
 |d x=>exact o
 |o ds=>exact o
 |q ks ds=>exact o
 |w dss=>
  rcases o with o|⟨a,bs,e,hb,m⟩
  .exact .inl o
  .obtain⟨a',bs',e',_,_,h3,_⟩:=h
   rw[e]at e';cases e'
   have:=k a _ e h3 (.inl ⟨.inl e,trivial⟩)
   rw[hb]at this
   injection this with this
   injection this with this
   rw[Qq this]at m
   exact .inr ⟨a,bs',e,h3,m⟩
 |k t cs=>
  rcases o with o|⟨a,ob,j,c,e,hb,hc,co,hj⟩
  .exact .inl o
  .obtain⟨a',ob',e',h1,h2,_⟩:=h
   rw[e]at e';cases e'
   have:=k a ob' e h1 (by
    by_cases m:JM t
    .exact .inl ⟨.inl ⟨m,e⟩,h2.mut m⟩
    .exact .inr (h2.tup m))
   rw[hb]at this;cases this
   exact .inr ⟨a,ob,j,c,e,h1,hc,co,hj⟩
theorem G5(ds:List D):Ow (.o ds):=trivial
theorem J5(ks:List Bb)(ds:List D):Ow (.q ks ds):=trivial
theorem SlotHas.mv{v:V}(w:WL W H)(kk:Ph W H H')(hw:∀ b,W' b->W b\/H b=none)(hq:∀ b o,Owns H s v b->W b->H₀ b=none->H b=some o->Do o->W' b/\H' b=some o)(h:SlotHas K W₀ H₀ W H s v):SlotHas K W₀ H₀ W' H' s v:=by
 cases s with
 |d x=>exact Has.keep kk w hw h
 |o ds=>
  obtain⟨a,xs,e,h1,h2,h3,h4⟩:=h
  obtain⟨g1,g2⟩:=hq a _ e h1 h2 h3 trivial
  exact⟨a,xs,e,g1,h2,g2,HasL.keep kk w hw h4⟩
 |q ks ds=>
  obtain⟨a,xs,e,h1,h2,h3,h4,h5⟩:=h
  obtain⟨g1,g2⟩:=hq a _ e h1 h2 h3 trivial
  exact⟨a,xs,e,g1,h2,g2,h4,HasL.keep kk w hw h5⟩
 |w dss=>
  obtain⟨a,bs,e,h1,h2,h3,h4,h5,h6,h7⟩:=h
  obtain⟨g1,g2⟩:=hq a _ (.inl e) h1 h2 h3 trivial
  refine⟨a,bs,e,g1,h2,g2,h4,h5,h6,λj b ds e1 e2=>?_⟩
  obtain⟨f1,f2,xs,f3,f4⟩:=h7 j b ds e1 e2
  obtain⟨g3,g4⟩:=hq b _ (.inr ⟨a,bs,e,h3,mem_of_getElem? e1⟩) f1 f2 f3 trivial
  exact⟨g3,f2,xs,g4,HasL.keep kk w hw f4⟩
 |k t cs=>
  obtain⟨a,ob,e,h1,h2,h3,h4,h5,h6⟩:=h
  have top:H' a=some ob/\(JM t->W' a/\H₀ a=none):=by
   by_cases m:JM t
   .obtain⟨g1,g2⟩:=hq a ob (.inl ⟨m,e⟩) (h3 m).1 (h3 m).2 h1 (h2.mut m)
    exact⟨g2,λ_=>⟨g1,(h3 m).2⟩⟩
   .refine⟨kk _ _ h1 λz=>?_,λz=>(m z).elim⟩
    obtain⟨xs,rfl⟩:=h2.tup m
    obtain⟨o',e',mo⟩:=w a z
    rw[h1]at e';cases e';exact mo
  refine⟨a,ob,e,top.1,h2,top.2,h4,h5,λj c x e1 e2=>?_⟩
  have hc:=h6 j c x e1 e2
  cases c with
  |d y=>exact Has.keep kk w hw hc
  |l ds=>
   obtain⟨b,xs,rfl,f1,f2,f3,f4⟩:=hc
   obtain⟨g1,g2⟩:=hq b _ (.inr ⟨a,ob,j,_,e,h1,e1,trivial,e2⟩) f1 f2 f3 trivial
   exact⟨b,xs,rfl,g1,f2,g2,HasL.keep kk w hw f4⟩
  |q ks ds=>
   obtain⟨b,xs,rfl,f1,f2,f3,f4,f5⟩:=hc
   obtain⟨g1,g2⟩:=hq b _ (.inr ⟨a,ob,j,_,e,h1,e1,trivial,e2⟩) f1 f2 f3 trivial
   exact⟨b,xs,rfl,g1,f2,g2,f4,HasL.keep kk w hw f5⟩
theorem SlotHas.own{v:V}(h:SlotHas K W₀ H₀ W H s v)(o:Ow s):∃ a ob,v=.ref a/\W a/\H₀ a=none/\H a=some ob/\Do ob:=by
 cases s with
 |d x=>exact o.elim
 |o ds=>
  obtain⟨a,xs,e,h1,h2,h3,h4⟩:=h
  exact⟨a,_,e,h1,h2,h3,trivial⟩
 |q ks ds=>
  obtain⟨a,xs,e,h1,h2,h3,h4,h5⟩:=h
  exact⟨a,_,e,h1,h2,h3,trivial⟩
 |w dss=>
  obtain⟨a,bs,e,h1,h2,h3,_⟩:=h
  exact⟨a,_,e,h1,h2,h3,trivial⟩
 |k t cs=>
  obtain⟨a,ob,e,h1,h2,h3,_⟩:=h
  exact⟨a,ob,e,(h3 o).1,(h3 o).2,h1,h2.mut o⟩
theorem SlotHas.owns{v:V}(h:SlotHas K W₀ H₀ W H s v)(o:Owns H s v b):W b/\H₀ b=none/\∃ ob,H b=some ob/\Do ob:=by
 cases s with
 |d x=>exact o.elim
 |o ds=>
  obtain⟨a,xs,e,h1,h2,h3,h4⟩:=h
  have o':v=.ref b:=o
  rw[e]at o';cases o'
  exact⟨h1,h2,_,h3,trivial⟩
 |q ks ds=>
  obtain⟨a,xs,e,h1,h2,h3,h4⟩:=h
  have o':v=.ref b:=o
  rw[e]at o';cases o'
  exact⟨h1,h2,_,h3,trivial⟩
 |w dss=>
  obtain⟨a,bs,e,h1,h2,h3,h4,h5,h6,h7⟩:=h
  rcases o with o|⟨a',bs',e',hb,m⟩
  .rw[e]at o;cases o
   exact⟨h1,h2,_,h3,trivial⟩
  .rw[e]at e';cases e'
   rw[h3]at hb
   injection hb with hb
   injection hb with hb
   rw[<-Qq hb]at m
   obtain⟨k,hk⟩:=List.mem_iff_getElem?.mp m
   have hl:k<dss.length:=by rw[<-h6];exact(List.getElem?_eq_some_iff.mp hk).1
   obtain⟨f1,f2,xs,f3,f4⟩:=h7 k b _ hk (getElem?_eq_getElem hl)
   exact⟨f1,f2,_,f3,trivial⟩
 |k t cs=>
  obtain⟨a,ob,e,h1,h2,h3,h4,h5,h6⟩:=h
  rcases o with⟨m,o⟩|⟨a',ob',j,c,e',hb,hc,co,hj⟩
  .rw[e]at o;cases o
   exact⟨(h3 m).1,(h3 m).2,ob,h1,h2.mut m⟩
  .rw[e]at e';cases e'
   rw[h1]at hb;cases hb
   have:=h6 j c _ hc hj
   cases c with
   |d y=>exact co.elim
   |l ds=>
    obtain⟨b',xs,e2,f1,f2,f3,f4⟩:=this
    cases e2
    exact⟨f1,f2,_,f3,trivial⟩
   |q ks ds=>
    obtain⟨b',xs,e2,f1,f2,f3,f4⟩:=this
    cases e2
    exact⟨f1,f2,_,f3,trivial⟩
theorem Ow.owns(o:Ow s):Owns H s (.ref a) a:=by
 cases s with
 |d x=>exact o.elim
 |o ds=>exact rfl
 |q ks ds=>exact rfl
 |w dss=>exact .inl rfl
 |k t cs=>exact .inl ⟨o,rfl⟩
theorem StHas.same(h:StHas K W₀ H₀ W H σ δ)(k:Same H H'):StHas K W₀ H₀ W H' σ δ:=
 ⟨h.fr.same k,h.len,λi s e=>let ⟨v,h1,h2⟩:=h.at' i s e;⟨v,h1,h2.same h.fr.wl k⟩,λi j s t u v b ij e1 e2 e3 e4 o1 o2=>by
  obtain⟨u',f1,f2⟩:=h.at' i s e1
  obtain⟨v',f3,f4⟩:=h.at' j t e2
  rw[e3]at f1;cases f1
  rw[e4]at f3;cases f3
  exact h.ap i j s t u v b ij e1 e2 e3 e4 (Owns.back f2 (λa o _ z _=>k _ _ z) o1) (Owns.back f4 (λa o _ z _=>k _ _ z) o2)⟩
theorem StHas.set{v:V}(h:StHas K W₀ H₀ W H σ δ)(q:Has K W H x v):StHas K W₀ H₀ W H (σ.set i (some v)) (δ.set i (some (.d x))):=by
 refine⟨h.fr,by simp[h.len],λj s e=>?_,λj k s1 s2 u u' a hjk e1 e2 e3 e4 os ot=>?_⟩
 .by_cases hj:i=j
  .subst hj
   rw[getElem?_set_self']at e ⊢
   cases q':δ[i]? with
   |none=>rw[q']at e;cases e
   |some z=>
    rw[q']at e
    have e':some (S.d x)=some s:=Option.some.inj e
    cases e'
    have hi:i<σ.length:=by rw[h.len];exact(List.getElem?_eq_some_iff.mp q').1
    exact⟨v,by rw[getElem?_eq_getElem hi];rfl,q⟩
  .rw[getElem?_set_ne hj]at e ⊢
   exact h.at' j s e
 .have hj:i≠j:=by
   rintro rfl
   rw[getElem?_set_self']at e1
   cases q':δ[i]? with
   |none=>rw[q']at e1;cases e1
   |some z=>rw[q']at e1;cases e1;exact os
  have hk:i≠k:=by
   rintro rfl
   rw[getElem?_set_self']at e2
   cases q':δ[i]? with
   |none=>rw[q']at e2;cases e2
   |some z=>rw[q']at e2;cases e2;exact ot
  rw[getElem?_set_ne hj]at e1 e3
  rw[getElem?_set_ne hk]at e2 e4
  exact h.ap j k s1 s2 u u' a hjk e1 e2 e3 e4 os ot
theorem StHas.ownS(h:StHas K W₀ H₀ W H σ δ)(k:Same H H')(hn:∀ b,N b->H b=none/\∃ ob,H' b=some ob/\Do ob)(q:SlotHas K W₀ H₀ (λb=>W b\/N b) H' sl (.ref a))(nw:∀ b,Owns H' sl (.ref a) b->H b=none):
  StHas K W₀ H₀ (λb=>W b\/N b) H' (σ.set i (some (.ref a))) (δ.set i (some sl)):=by
 have hw:∀ b,(W b\/N b)->W b\/H b=none:=λb z=>z.elim .inl λz=>.inr (hn b z).1
 have kk:Ph W H H':=Same.keep k
 have fr':FrOk W₀ H₀ (λb=>W b\/N b) H':=⟨h.fr.ext.trans k,λb z=>.inl (h.fr.sub b z),λb z=>z.elim (h.fr.wl.same k b) λz=>(hn b z).2,h.fr.wl0⟩
 have slot:∀ {s:S} {v:V},SlotHas K W₀ H₀ W H s v->SlotHas K W₀ H₀ (λb=>W b\/N b) H' s v:=λ{s v} z=>z.mv h.fr.wl kk hw λb o e h1 h2 h3 h4=>⟨.inl h1,k _ _ h3⟩
 have old:∀ (j:Nat) (t:S) (v:V) (b:Addr),δ[j]? =some (some t)->σ[j]? =some (some v)->Owns H' t v b->Owns H t v b/\H b≠none:=λj t v b e z o=>by
  obtain⟨v',h1,h2⟩:=h.at' j _ e
  rw[z]at h1;cases h1
  have o':=Owns.back h2 (λa o _ z _=>k _ _ z) o
  obtain⟨_,_,ob,h3,_⟩:=h2.owns o'
  exact⟨o',λz=>by rw[h3]at z;cases z⟩
 refine⟨fr',by simp[h.len],λj s e=>?_,λj l s1 s2 u u' b hjl e1 e2 e3 e4 os ot=>?_⟩
 .by_cases hj:i=j
  .subst hj
   rw[getElem?_set_self']at e ⊢
   cases q':δ[i]? with
   |none=>rw[q']at e;cases e
   |some z=>
    rw[q']at e
    have e':some sl=some s:=Option.some.inj e
    cases e'
    have hi:i<σ.length:=by rw[h.len];exact(List.getElem?_eq_some_iff.mp q').1
    exact⟨.ref a,by rw[getElem?_eq_getElem hi];rfl,q⟩
  .rw[getElem?_set_ne hj]at e ⊢
   obtain⟨v,h1,h2⟩:=h.at' j s e
   exact⟨v,h1,slot h2⟩
 .have get:∀ m:Nat,m≠i->∀ {α:Type} (l:List α) (z:α),(l.set i z)[m]? =l[m]? :=λm hm α l z=>getElem?_set_ne (Ne.symm hm)
  have self:∀ {α:Type} (l:List (Option α)) (z y:α),(l.set i (some z))[i]? =some (some y)->y=z:=λl z y e=>by
   rw[getElem?_set_self']at e
   cases q':l[i]? with
   |none=>rw[q']at e;cases e
   |some x=>rw[q']at e;cases e;rfl
  by_cases hj:j=i
  .have hl:l≠i:=λz=>hjl (hj.trans z.symm)
   rw[get l hl]at e2 e4
   subst hj
   have z1:=self _ _ _ e1
   have z2:=self _ _ _ e3
   subst z1;subst z2
   exact(old l s2 u' b e2 e4 ot).2 (nw b os)
  .rw[get j hj]at e1 e3
   by_cases hl:l=i
   .subst hl
    have z1:=self _ _ _ e2
    have z2:=self _ _ _ e4
    subst z1;subst z2
    exact(old j s1 u b e1 e3 os).2 (nw b ot)
   .rw[get l hl]at e2 e4
    exact h.ap j l s1 s2 u u' b hjl e1 e2 e3 e4 (old j s1 u b e1 e3 os).1 (old l s2 u' b e2 e4 ot).1
theorem StHas.ownG{W':WS}(h:StHas K W₀ H₀ W H σ δ)(k:Same H H')(ha:H a=none)(ha':H' a=some ob)(mo:Do ob)(q:SlotHas K W₀ H₀ (λb=>W b\/b=a) H' sl (.ref a))(nw:∀ b,Owns H' sl (.ref a) b->H b=none:=by intro b z;cases z;assumption):
  StHas K W₀ H₀ (λb=>W b\/b=a) H' (σ.set i (some (.ref a))) (δ.set i (some sl)):=
 h.ownS (N:=λb=>b=a) k (λb z=>by rw[z];exact⟨ha,ob,ha',mo⟩) q nw
theorem StHas.own(h:StHas K W₀ H₀ W H σ δ)(ha:H a=none)(q:HasL K W H ds xs):
  StHas K W₀ H₀ (λb=>W b\/b=a) (Eb H a (.lst xs)) (σ.set i (some (.ref a))) (δ.set i (some (.o ds))):=by
 have k:Same H (Eb H a (.lst xs)):=λb o e=>by rw[Da (Ka e ha)];exact e
 exact h.ownG (W':=W) k ha Ma trivial ⟨a,xs,rfl,.inr rfl,Same.free h.fr.ext ha,Ma,HasL.keep (Same.keep k) h.fr.wl (λb z=>z.elim .inl λz=>.inr (by rw[z];exact ha)) q⟩
theorem StHas.ownQ{kvs:List (Bb×V)}(h:StHas K W₀ H₀ W H σ δ)(ha:H a=none)(e:kvs.map (·.1)=ks)(q:HasL K W H ds (kvs.map (·.2))):
  StHas K W₀ H₀ (λb=>W b\/b=a) (Eb H a (.dK kvs)) (σ.set i (some (.ref a))) (δ.set i (some (.q ks ds))):=by
 have k:Same H (Eb H a (.dK kvs)):=λb o e=>by rw[Da (Ka e ha)];exact e
 exact h.ownG (W':=W) k ha Ma trivial ⟨a,kvs,rfl,.inr rfl,Same.free h.fr.ext ha,Ma,e,HasL.keep (Same.keep k) h.fr.wl (λb z=>z.elim .inl λz=>.inr (by rw[z];exact ha)) q⟩
theorem StHas.changeS(h:StHas K W₀ H₀ W H σ δ)(hi:δ[i]? =some (some so))(hs:σ[i]? =some (some w))(oc:Owns H so w a)(mo:Do ob)(q:H₀ a=none->Ph W H (Eb H a ob)->SlotHas K W₀ H₀ W (Eb H a ob) sl w)(nw:∀ b,Owns (Eb H a ob) sl w b->∀ (j:Nat) (t:S) (v:V),i≠j->δ[j]? =some (some t)->σ[j]? =some (some v)->¬ Owns H t v b):
  StHas K W₀ H₀ W (Eb H a ob) σ (δ.set i (some sl)):=by
 obtain⟨v,h1,h2⟩:=h.at' i _ hi
 rw[hs]at h1
 cases h1
 obtain⟨hW,h0,ob',h3',h4'⟩:=h2.owns oc
 have kk:Ph W H (Eb H a ob):=λb o e n=>by
  rw[Da (λz=>n (by rw[z];exact hW))];exact e
 have hw:∀ b,W b->W b\/H b=none:=λb z=>.inl z
 have fr':FrOk W₀ H₀ W (Eb H a ob):=⟨λb o e=>by rw[Da (Ka e h0)];exact h.fr.ext _ _ e,h.fr.sub,λb z=>by
  by_cases hb:b=a
  .rw[hb];exact⟨ob,Ma,mo⟩
  .rw[Da hb];exact h.fr.wl b z,h.fr.wl0⟩
 have hl:i<δ.length:=(List.getElem?_eq_some_iff.mp hi).1
 have ne:∀ (j:Nat) (s:S) (v:V) (b:Addr),i≠j->δ[j]? =some (some s)->σ[j]? =some (some v)->Owns H s v b->b≠a:=λj s v b hj e e' o z=>by
  subst z
  exact h.ap i j _ _ _ _ b hj hi e hs e' oc o
 refine⟨fr',by simp[h.len],λj s e=>?_,λj l s1 s2 u u' b hjl e1 e2 e3 e4 os ot=>?_⟩
 .by_cases hj:i=j
  .subst hj
   rw[getElem?_set_self hl]at e
   cases e
   exact⟨w,hs,q h0 kk⟩
  .rw[getElem?_set_ne hj]at e
   obtain⟨v,h1,h2⟩:=h.at' j s e
   exact⟨v,h1,h2.mv h.fr.wl kk hw λb o e1 h1' _ h3' _=>⟨h1',by rw[Da (ne j s v b hj e h1 e1)];exact h3'⟩⟩
 .have own:∀ (m:Nat) (t:S) (x:V),i≠m->(δ.set i (some sl))[m]? =some (some t)->σ[m]? =some (some x)->Owns (Eb H a ob) t x b->δ[m]? =some (some t)/\Owns H t x b:=λm t x hm e e' o=>by
   rw[getElem?_set_ne hm]at e
   obtain⟨v,h1,h2⟩:=h.at' m t e
   rw[e']at h1;cases h1
   refine⟨e,Owns.back h2 (λc o ec z y=>?_) o⟩
   rcases y with⟨y,_⟩|⟨xs,y⟩
   .rw[Da (ne m _ _ c hm e e' y)];exact z
   .rw[Da (λq=>by rw[q,h3']at z;cases z;rw[y]at h4';exact h4')];exact z
  by_cases hj:i=j
  .subst hj
   rw[getElem?_set_self hl]at e1;cases e1
   rw[hs]at e3;cases e3
   obtain⟨g2,o2⟩:=own l s2 u' hjl e2 e4 ot
   exact nw b os l s2 u' hjl g2 e4 o2
  .obtain⟨g1,o1⟩:=own j s1 u hj e1 e3 os
   by_cases hm:i=l
   .subst hm
    rw[getElem?_set_self hl]at e2;cases e2
    rw[hs]at e4;cases e4
    exact nw b ot j s1 u hj g1 e3 o1
   .obtain⟨g2,o2⟩:=own l s2 u' hm e2 e4 ot
    exact h.ap j l s1 s2 u u' b hjl g1 g2 e3 e4 o1 o2
theorem StHas.changeG(h:StHas K W₀ H₀ W H σ δ)(oo:Ow so)(hi:δ[i]? =some (some so))(hs:σ[i]? =some (some (.ref a)))(mo:Do ob)(hW:W a)(q:H₀ a=none->Ph W H (Eb H a ob)->SlotHas K W₀ H₀ W (Eb H a ob) sl (.ref a))(ol:Ow sl)(nw:∀ b,Owns (Eb H a ob) sl (.ref a) b->Owns H so (.ref a) b:=by intro b z;exact z):
  StHas K W₀ H₀ W (Eb H a ob) σ (δ.set i (some sl)):=
 h.changeS hi hs oo.owns mo q λb o j t v hj e e'=>h.ap i j _ _ _ _ b hj hi e hs e' (nw b o)
theorem StHas.change(h:StHas K W₀ H₀ W H σ δ)(hi:δ[i]? =some (some (.o ds)))(hs:σ[i]? =some (some (.ref a)))(ha:H a=some (.lst xs))(hW:W a)(q:HasL K W H es ys):
  StHas K W₀ H₀ W (Eb H a (.lst ys)) σ (δ.set i (some (.o es))):=
 h.changeG (G5 ds) hi hs trivial hW (λh0 kk=>⟨a,ys,rfl,hW,h0,Ma,HasL.keep kk h.fr.wl (λb z=>.inl z) q⟩) (G5 es)
theorem StHas.changeQ{ks':List Bb}{kvs':List (Bb×V)}(h:StHas K W₀ H₀ W H σ δ)(hi:δ[i]? =some (some (.q ks ds)))(hs:σ[i]? =some (some (.ref a)))(hW:W a)(e:kvs'.map (·.1)=ks')(q:HasL K W H es (kvs'.map (·.2))):
  StHas K W₀ H₀ W (Eb H a (.dK kvs')) σ (δ.set i (some (.q ks' es))):=
 h.changeG (J5 ks ds) hi hs trivial hW (λh0 kk=>⟨a,kvs',rfl,hW,h0,Ma,e,HasL.keep kk h.fr.wl (λb z=>.inl z) q⟩) (J5 ks' es)
theorem StHas.freezeS(h:StHas K W₀ H₀ W H σ δ)(hi:δ[i]? =some (some so))(hs:σ[i]? =some (some w))(oN:∀ b,N b->Owns H so w b)(hd:Has K (λb=>W b/\¬ N b) H x w):StHas K W₀ H₀ (λb=>W b/\¬ N b) H σ (δ.set i (some (.d x))):=by
 obtain⟨v,h1,h2⟩:=h.at' i _ hi
 rw[hs]at h1
 cases h1
 have kk:Ph W H H:=λ_ _ e _=>e
 have hw:∀ b,(W b/\¬ N b)->W b\/H b=none:=λb z=>.inl z.1
 have hl:i<δ.length:=(List.getElem?_eq_some_iff.mp hi).1
 refine⟨⟨h.fr.ext,λb z=>⟨h.fr.sub b z,λe=>?_⟩,λb z=>h.fr.wl b z.1,h.fr.wl0⟩,by simp[h.len],λj s e=>?_,λj l s1 s2 u u' b hjl e1 e2 e3 e4 os ot=>?_⟩
 .obtain⟨ys,z',_⟩:=h.fr.wl0 _ z
  rw[(h2.owns (oN _ e)).2.1]at z';cases z'
 .by_cases hj:i=j
  .subst hj
   rw[getElem?_set_self hl]at e
   cases e
   exact⟨_,hs,hd⟩
  .rw[getElem?_set_ne hj]at e
   obtain⟨v,g1,g2⟩:=h.at' j s e
   exact⟨v,g1,g2.mv h.fr.wl kk hw λb o e1 h1' _ h3' _=>⟨⟨h1',λz=>h.ap i j _ _ _ _ b hj hi e hs g1 (oN b z) e1⟩,h3'⟩⟩
 .have hj:i≠j:=by
   rintro rfl
   rw[getElem?_set_self hl]at e1;cases e1;exact os
  have hk:i≠l:=by
   rintro rfl
   rw[getElem?_set_self hl]at e2;cases e2;exact ot
  rw[getElem?_set_ne hj]at e1
  rw[getElem?_set_ne hk]at e2
  exact h.ap j l s1 s2 u u' b hjl e1 e2 e3 e4 os ot
theorem StHas.freezeG(h:StHas K W₀ H₀ W H σ δ)(oo:Ow so)(hi:δ[i]? =some (some so))(hs:σ[i]? =some (some (.ref a)))(hd:Has K (λb=>W b/\b≠a) H x (.ref a)):StHas K W₀ H₀ (λb=>W b/\b≠a) H σ (δ.set i (some (.d x))):=
 h.freezeS (N:=λb=>b=a) hi hs (λb z=>by rw[z];exact oo.owns) hd
theorem StHas.freezeH(h:StHas K W₀ H₀ W H σ δ)(oo:Ow so)(hi:δ[i]? =some (some so))(hs:σ[i]? =some (some (.ref a)))(hd:Has K (λb=>W b/\b≠a) (Eb H a ob) x (.ref a)):StHas K W₀ H₀ (λb=>W b/\b≠a) (Eb H a ob) σ (δ.set i (some (.d x))):=by
 obtain⟨v,h1,h2⟩:=h.at' i _ hi
 obtain⟨b,o1,e',hW,h0,h3,mo1⟩:=h2.own oo
 rw[hs]at h1
 cases h1
 cases e'
 have kk:Ph W H (Eb H a ob):=λb o e n=>by rw[Da (λz=>n (by rw[z];exact hW))];exact e
 have hw:∀ b,(W b/\b≠a)->W b\/H b=none:=λb z=>.inl z.1
 have hl:i<δ.length:=(List.getElem?_eq_some_iff.mp hi).1
 refine⟨⟨λb o e=>by rw[Da (Ka e h0)];exact h.fr.ext _ _ e,λb z=>⟨h.fr.sub b z,λe=>?_⟩,λb z=>by rw[Da z.2];exact h.fr.wl b z.1,h.fr.wl0⟩,by simp[h.len],λj s e=>?_,λj l s1 s2 u u' b hjl e1 e2 e3 e4 os ot=>?_⟩
 .subst e
  obtain⟨ys,z',_⟩:=h.fr.wl0 _ z
  rw[h0]at z';cases z'
 .by_cases hj:i=j
  .subst hj
   rw[getElem?_set_self hl]at e
   cases e
   exact⟨.ref a,hs,hd⟩
  .rw[getElem?_set_ne hj]at e
   obtain⟨v,g1,g2⟩:=h.at' j s e
   exact⟨v,g1,g2.mv h.fr.wl kk hw λb o e1 h1' _ h3' _=>(λhba=>⟨⟨h1',hba⟩,by rw[Da hba];exact h3'⟩) (λz=>by subst z;exact h.ap i j _ _ _ _ b hj hi e hs g1 oo.owns e1)⟩
 .have hj:i≠j:=by
   rintro rfl
   rw[getElem?_set_self hl]at e1;cases e1;exact os
  have hk:i≠l:=by
   rintro rfl
   rw[getElem?_set_self hl]at e2;cases e2;exact ot
  rw[getElem?_set_ne hj]at e1
  rw[getElem?_set_ne hk]at e2
  have back:∀ (m:Nat) (t:S) (x:V),i≠m->δ[m]? =some (some t)->σ[m]? =some (some x)->Owns (Eb H a ob) t x b->Owns H t x b:=λm t x hm e e' o=>by
   obtain⟨v,h1,h2⟩:=h.at' m t e
   rw[e']at h1;cases h1
   refine Owns.back h2 (λc o ec z y=>?_) o
   rcases y with⟨y,_⟩|⟨xs,y⟩
   .rw[Da (λq=>by subst q;exact h.ap i m _ _ _ _ c hm hi e hs e' oo.owns y)];exact z
   .rw[Da (λq=>by rw[q,h3]at z;cases z;rw[y]at mo1;exact mo1)];exact z
  exact h.ap j l s1 s2 u u' b hjl e1 e2 e3 e4 (back j s1 u hj e1 e3 os) (back l s2 u' hk e2 e4 ot)
abbrev XW:=Str->List D->Hp->Prop
section
variable (K:Frag)(xw:XW)
def RE(W:WS)(H:Hp)(r:Res D)(Q:VK):Prop:=match r with
 | .ok d=>∀ v H',Same H H'->Has K W H' d v->Q v H'
 | .ex c fs=>∀ H',Same H H'->xw c fs H'
 | .stuck=>False
def HasT(W:WS)(H:Hp)(d:D)(v:V):Prop:=Has K W H d v\/∃ ds a xs,d=.lst ds/\v=.ref a/\H a=some (.lst xs)/\HasL K W H ds xs
def RP(W:WS)(H:Hp)(r:Res D)(Q:VK):Prop:=match r with
 | .ok d=>∀ v H',Same H H'->HasT K W H' d v->Q v H'
 | .ex c fs=>∀ H',Same H H'->xw c fs H'
 | .stuck=>False
def RF(W:WS)(H:Hp)(r:Res (List D))(Q:VK):Prop:=match r with
 | .ok ds=>∀ a xs H1,Same H H1->H1 a=none->HasL K W H1 ds xs->Q (.ref a) (Eb H1 a (.lst xs))
 | .ex c fs=>∀ H',Same H H'->xw c fs H'
 | .stuck=>False
def RT(H:Hp)(r:Res Bool)(Q:Bool->Hp->Prop):Prop:=match r with
 | .ok b=>∀ H',Same H H'->Q b H'
 | .ex c fs=>∀ H',Same H H'->xw c fs H'
 | .stuck=>False
def RA(W:WS)(H:Hp)(r:Res (List D))(Q:List V->Hp->Prop):Prop:=match r with
 | .ok ds=>∀ vs H',Same H H'->HasL K W H' ds vs->Q vs H'
 | .ex c fs=>∀ H',Same H H'->xw c fs H'
 | .stuck=>False
def QS(f:Ba->Res D):TE:=λσ H Q=>∃ W₀ H₀ W δ,StHas K W₀ H₀ W H σ δ/\RE K xw W H (f δ) Q
def NR(f:Ba->Res D):TE:=λσ H Q=>∃ W₀ H₀ W δ,StHas K W₀ H₀ W H σ δ/\RP K xw W H (f δ) Q
def X5(f:Ba->Res (List D)):TE:=λσ H Q=>∃ W₀ H₀ W δ,StHas K W₀ H₀ W H σ δ/\RF K xw W H (f δ) Q
def QY(f:Ba->Res Bool):TT:=λσ H Q=>∃ W₀ H₀ W δ,StHas K W₀ H₀ W H σ δ/\RT xw H (f δ) Q
def W5(f:Ba->Res (List D)):TA:=λσ H Q=>∃ W₀ H₀ W δ,StHas K W₀ H₀ W H σ δ/\RA K xw W H (f δ) Q
end
def DE(X:Cx)(xw:XW)(e:Expr)(f:Ba->Res D):Prop:=PE X e (QS X.K xw f)
def DP(X:Cx)(xw:XW)(e:Expr)(f:Ba->Res D):Prop:=PE X e (NR X.K xw f)
def DF(X:Cx)(xw:XW)(e:Expr)(f:Ba->Res (List D)):Prop:=PE X e (X5 X.K xw f)
def DT(X:Cx)(xw:XW)(e:Expr)(f:Ba->Res Bool):Prop:=PT X e (QY X.K xw f)
def DW(X:Cx)(xw:XW)(e:Expr)(f:Ba->Res Bool):Prop:=PW X e (QY X.K xw f)
def DA(X:Cx)(xw:XW)(es:List Expr)(f:Ba->Res (List D)):Prop:=PA X es (W5 X.K xw f)
variable{X:Cx}{e:Expr}
theorem PE.weak{t t':TE}(h:PE X e t)(k:∀ σ H Q,t' σ H Q->t σ H Q):PE X e t':=λpins s σ H Q I q=>h pins s σ H Q I (k σ H Q q)
variable{t':TT}
theorem PT.weak{t:TT}(h:PT X e t)(k:∀ σ H Q,t' σ H Q->t σ H Q):PT X e t':=λpins s σ H Q I q=>h pins s σ H Q I (k σ H Q q)
theorem PW.weak{t:TT}(h:PW X e t)(k:∀ σ H Q,t' σ H Q->t σ H Q):PW X e t':=λwh pins s σ H Q I q=>h wh pins s σ H Q I (k σ H Q q)
theorem PA.weak{e:List Expr}{t t':TA}(h:PA X e t)(k:∀ σ H Q,t' σ H Q->t σ H Q):PA X e t':=λps pins s σ H Q I q=>h ps pins s σ H Q I (k σ H Q q)
variable{i:Int}{xw:XW}{Q:VK}{d:D}
theorem RE.same{r:Res D}(h:RE K xw W H r Q)(k:Same H H'):RE K xw W H' r Q:=by
 cases r with
 |ok d=>exact λv H2 k2 q=>h v H2 (k.trans k2) q
 |ex c fs=>exact λH2 k2=>h H2 (k.trans k2)
 |stuck=>exact h
theorem RF.same{r:Res (List D)}(h:RF K xw W H r Q)(k:Same H H'):RF K xw W H' r Q:=by
 cases r with
 |ok d=>exact λa xs H1 k1 n q=>h a xs H1 (k.trans k1) n q
 |ex c fs=>exact λH2 k2=>h H2 (k.trans k2)
 |stuck=>exact h
theorem RT.same{r:Res Bool}{Q:Bool->Hp->Prop}(h:RT xw H r Q)(k:Same H H'):RT xw H' r Q:=by
 cases r with
 |ok d=>exact λH2 k2=>h H2 (k.trans k2)
 |ex c fs=>exact λH2 k2=>h H2 (k.trans k2)
 |stuck=>exact h
theorem HasT.same{v:V}(h:HasT K W H d v)(k:Same H H')(w:WL W H):HasT K W H' d v:=by
 rcases h with h|⟨ds,a,xs,h1,h2,h3,h4⟩
 .exact .inl (h.same k w)
 .exact .inr ⟨ds,a,xs,h1,h2,k _ _ h3,h4.same k w⟩
theorem Has.top{v:V}(h:Has K W H d v):HasT K W H d v:=.inl h
theorem HasT.int{v:V}(h:HasT K W H (.int i) v):v=.int i:=by
 rcases h with h|⟨ds,a,xs,h1,_⟩
 .rw[Has]at h;exact h
 .cases h1
theorem HasT.bl{i:Bool}{v:V}(h:HasT K W H (.bl i) v):v=.bl i:=by
 rcases h with h|⟨ds,a,xs,h1,_⟩
 .rw[Has]at h;exact h
 .cases h1
theorem HasT.str{i:Str}{v:V}(h:HasT K W H (.str i) v):v=.str i:=by
 rcases h with h|⟨ds,a,xs,h1,_⟩
 .rw[Has]at h;exact h
 .cases h1
theorem HasT.non{v:V}(h:HasT K W H .non v):v=.non:=by
 rcases h with h|⟨ds,a,xs,h1,_⟩
 .rw[Has]at h;exact h
 .cases h1
theorem HasT.tup{v:V}(h:HasT K W H (.tup ds) v):∃ a xs,v=.ref a/\SqT K H a xs/\HasL K W H ds xs:=by
 rcases h with h|⟨ds,a,xs,h1,_⟩
 .rw[Has]at h;exact h
 .cases h1
theorem HasT.lst{v:V}(h:HasT K W H (.lst ds) v):∃ a xs,v=.ref a/\SqL K H a xs/\HasL K W H ds xs:=by
 rcases h with h|⟨ds,a,xs,h1,h2,h3,h4⟩
 .rw[Has]at h
  obtain⟨a,xs,e,q,r⟩:=h
  exact⟨a,xs,e,q.sq,r⟩
 .cases h1
  exact⟨a,xs,h2,.of h3,h4⟩
def Oz(scope:Scope)(env:Env):List (Str×Addr):=scope.names.foldl (λcs y=>if y.2== .free then(match env.cells.lookup y.1 with|some a=>(y.1,a)::cs|none=>cs) else cs) []
variable{env:Env}
theorem TM(names:List (Str×NameKind)):∀ (cs:List (Str×Addr)),(∀ y∈names,y.2=.free->∃ c,env.cells.lookup y.1=some c)->
  (forIn names cs (λ(y:Str×NameKind) (r:List (Str×Addr))=>(do
   if(y.2==NameKind.free)=true then do
    let a <-cellOf env y.1
    pure (ForInStep.yield ((y.1,a)::r))
   else pure (ForInStep.yield r):Sem (ForInStep (List (Str×Addr))))))=(pure (names.foldl (λcs y=>if y.2== .free then(match env.cells.lookup y.1 with|some a=>(y.1,a)::cs|none=>cs) else cs) cs):Sem _):=by
 induction names with
 |nil=>intro cs _;rfl
 |cons y r ih=>
  intro cs h
  have h':∀ y∈r,y.2=.free->∃ c,env.cells.lookup y.1=some c:=λz hz=>h z (mem_cons_of_mem _ hz)
  rw[List.forIn_cons,foldl_cons]
  by_cases hk:y.2=.free
  .obtain⟨c,hc⟩:=h y mem_cons_self hk
   have hb:(y.2==NameKind.free)=true:=by rw[hk];rfl
   simp only[hb,if_true,cellOf,hc,pure_bind]
   exact ih _ h'
  .have hb:(y.2==NameKind.free)=false:=by simpa using hk
   simp only[hb,false_eq_true,if_false,pure_bind]
   exact ih _ h'
variable{scope:Scope}
theorem QB(h:∀ y∈scope.names,y.2=.free->∃ c,env.cells.lookup y.1=some c):closureFor scope env=pure (Oz scope env):=by
 unfold closureFor Oz
 exact(congrArg (λz=>z >>= λr=>pure r) (TM scope.names [] h)).trans (by simp)
theorem DH(names:List (Str×NameKind)):∀ (cs:List (Str×Addr)),(∀ x c,cs.lookup x=some c->env.cells.lookup x=some c)->
  ∀ x c,(names.foldl (λcs y=>if y.2== .free then(match env.cells.lookup y.1 with|some a=>(y.1,a)::cs|none=>cs) else cs) cs).lookup x=some c->env.cells.lookup x=some c:=by
 induction names with
 |nil=>intro cs h;exact h
 |cons y r ih=>
  intro cs h
  rw[foldl_cons]
  refine ih _ ?_
  split
  .split
   .rename_i a ha
    intro x c e
    rw[lookup_cons]at e
    by_cases hx:x=y.1
    .have:(x==y.1)=true:=by rw[hx];simp
     rw[this]at e
     have e':a=c:=Option.some.inj e
     rw[hx,ha,e']
    .have:(x==y.1)=false:=by simpa using hx
     rw[this]at e
     exact h x c e
   .exact h
  .exact h
theorem Mw(names:List (Str×NameKind)):∀ (cs:List (Str×Addr)) (x:Str),((∃ c,cs.lookup x=some c)\/((x,NameKind.free)∈names/\∃ c,env.cells.lookup x=some c))->
  ∃ c,(names.foldl (λcs y=>if y.2== .free then(match env.cells.lookup y.1 with|some a=>(y.1,a)::cs|none=>cs) else cs) cs).lookup x=some c:=by
 induction names with
 |nil=>
  intro cs x h
  rcases h with h|⟨h,_⟩
  .exact h
  .simp at h
 |cons y r ih=>
  intro cs x h
  rw[foldl_cons]
  refine ih _ x ?_
  rcases h with⟨c,h⟩|⟨h,c,hc⟩
  .left
   split
   .split
    .rename_i a ha
     rw[lookup_cons]
     cases hx:x==y.1 with
     |true=>exact⟨a,rfl⟩
     |false=>exact⟨c,h⟩
    .exact⟨c,h⟩
   .exact⟨c,h⟩
  .rcases mem_cons.mp h with h|h
   .left
    subst h
    simp only[beq_self_eq_true,if_true,hc]
    exact⟨c,by rw[lookup_cons];simp⟩
   .exact .inr ⟨h,c,hc⟩
theorem Fk{g:Str->NameKind->NameKind}:∀ (l:List (Str×NameKind)) (x:Str),(l.map λy=>(y.1,g y.1 y.2)).lookup x=(l.lookup x).map (g x)
 | [],_=>rfl
 |y::r,x=>by
  rw[map_cons,lookup_cons,lookup_cons]
  cases hx:x==y.1 with
  |true=>
   have:x=y.1:=by simpa using hx
   rw[this];rfl
  |false=>exact Fk r x
theorem Ve(scope:Scope)(env:Env)(x:Str):(relabel scope env).names.lookup x=(scope.names.lookup x).map λk=>if(k== .free&&env.scope.kind== .function&&env.kindOf x==some .cell) then .cell else k:=by
 have e:(relabel scope env).names=scope.names.map λy=>(y.1,(λn k=>if(k==NameKind.free&&env.scope.kind== .function&&env.kindOf n==some .cell) then NameKind.cell else k) y.1 y.2):=by
  unfold relabel
  refine List.map_congr_left λy _=>?_
  obtain⟨n,k⟩:=y
  dsimp only
  split<;>rfl
 rw[e]
 exact Fk (g:=λn k=>if(k==NameKind.free&&env.scope.kind== .function&&env.kindOf n==some .cell) then NameKind.cell else k) scope.names x
theorem CH(names:List (Str×NameKind)):∀ (cs:List (Str×Addr)) (x:Str) (c:Addr),(names.foldl (λcs y=>if y.2== .free then(match env.cells.lookup y.1 with|some a=>(y.1,a)::cs|none=>cs) else cs) cs).lookup x=some c->cs.lookup x=some c\/(x,NameKind.free)∈names:=by
 induction names with
 |nil=>intro cs x c h;exact .inl h
 |cons y r ih=>
  intro cs x c h
  rw[foldl_cons]at h
  rcases ih _ x c h with h|h
  .by_cases hf:y.2=.free
   .by_cases hx:x=y.1
    .right;subst hx;rw[<-hf];exact mem_cons_self
    .left
     have hb:(y.2==NameKind.free)=true:=by rw[hf];rfl
     have hxb:(x==y.1)=false:=by simpa using hx
     simp only[hb,if_true]at h
     split at h
     .rw[lookup_cons,hxb]at h;exact h
     .exact h
   .left
    have hb:(y.2==NameKind.free)=false:=by simpa using hf
    simp only[hb,false_eq_true,if_false]at h
    exact h
  .exact .inr (mem_cons_of_mem _ h)
theorem PB:∀ (names:List (Str×NameKind)) (n:Nat) (acc:List (Str×Addr)) (x:Str) (c:Addr),(cellsFrom n names acc).lookup x=some c->acc.lookup x=some c\/(n<=c/\(x,NameKind.cell)∈names)
 | [],_,_,_,_,h=>.inl h
 |(y,k)::r,n,acc,x,c,h=>by
  unfold cellsFrom at h
  by_cases hk:(k== .cell)=true
  .rw[if_pos hk]at h
   have hk':k=.cell:=by simpa using hk
   rcases PB r (n+1) _ x c h with h|⟨h1,h2⟩
   .rw[lookup_cons]at h
    cases hx:x==y with
    |true=>
     rw[hx]at h
     have e:n=c:=Option.some.inj h
     have ex:x=y:=by simpa using hx
     subst ex;subst hk'
     exact .inr ⟨by omega,mem_cons_self⟩
    |false=>rw[hx]at h;exact .inl h
   .exact .inr ⟨by omega,mem_cons_of_mem _ h2⟩
  .rw[if_neg hk]at h
   rcases PB r n acc x c h with h|⟨h1,h2⟩
   .exact .inl h
   .exact .inr ⟨h1,mem_cons_of_mem _ h2⟩
theorem Nz:∀ (names:List (Str×NameKind)) (n:Nat) (acc:List (Str×Addr)) (x:Str),(x,NameKind.cell)∉names->(cellsFrom n names acc).lookup x=acc.lookup x
 | [],_,_,_,_=>rfl
 |(y,k)::r,n,acc,x,h=>by
  have hr:(x,NameKind.cell)∉r:=λz=>h (mem_cons_of_mem _ z)
  unfold cellsFrom
  by_cases hk:(k== .cell)=true
  .rw[if_pos hk,Nz r (n+1) _ x hr,lookup_cons]
   have hk':k=.cell:=by simpa using hk
   have hx:(x==y)=false:=by
    cases hx:x==y with
    |false=>rfl
    |true=>
     have ex:x=y:=by simpa using hx
     subst ex;subst hk'
     exact absurd mem_cons_self h
   rw[hx]
  .rw[if_neg hk];exact Nz r n acc x hr
theorem Mz:∀ (names:List (Str×NameKind)) (n:Nat) (acc:List (Str×Addr)),(∀ x y c,acc.lookup x=some c->acc.lookup y=some c->x=y)->(∀ x c,acc.lookup x=some c->c<n)->
  ∀ x y c,(cellsFrom n names acc).lookup x=some c->(cellsFrom n names acc).lookup y=some c->x=y
 | [],_,_,h,_=>h
 |(z,k)::r,n,acc,h,hb=>by
  unfold cellsFrom
  by_cases hk:(k== .cell)=true
  .rw[if_pos hk]
   refine Mz r (n+1) _ (λx y c e1 e2=>?_) λx c e=>?_
   .rw[lookup_cons]at e1 e2
    cases hx:x==z with
    |true=>
     rw[hx]at e1
     have ec:n=c:=Option.some.inj e1
     have ex:x=z:=by simpa using hx
     cases hy:y==z with
     |true=>
      have ey:y=z:=by simpa using hy
      rw[ex,ey]
     |false=>
      rw[hy]at e2
      have:=hb y c e2
      rw[<-ec]at this
      exact absurd this (lt_irrefl _)
    |false=>
     rw[hx]at e1
     cases hy:y==z with
     |true=>
      rw[hy]at e2
      have ec:n=c:=Option.some.inj e2
      have:=hb x c e1
      rw[<-ec]at this
      exact absurd this (lt_irrefl _)
     |false=>rw[hy]at e2;exact h x y c e1 e2
   .rw[lookup_cons]at e
    cases hx:x==z with
    |true=>
     rw[hx]at e
     have ec:n=c:=Option.some.inj e
     rw[<-ec]
     exact Nat.lt_succ_self _
    |false=>rw[hx]at e;exact Nat.lt_succ_of_lt (hb x c e)
  .rw[if_neg hk];exact Mz r n acc h hb
theorem Eu:∀ (names:List (Str×NameKind)) (h:Heap) (acc:List (Str×Addr)),(∀ x c,acc.lookup x=some c->∃ v,h.IsCell c v)->∀ x c,(cellsFrom h.objs.size names acc).lookup x=some c->∃ v,(pushCells h names).IsCell c v
 | [],_,_,hc=>hc
 |(z,k)::r,h,acc,hc=>by
  unfold cellsFrom pushCells
  by_cases hk:(k== .cell)=true
  .rw[if_pos hk,if_pos hk]
   have:=Eu r (h.push {cls:=.type "cell",data:=.cell none}) ((z,h.objs.size)::acc) λx c e=>by
    rw[lookup_cons]at e
    cases hx:x==z with
    |true=>
     rw[hx]at e
     have ec:h.objs.size=c:=Option.some.inj e
     subst ec
     exact⟨none,_,get?_push_size _ rfl,rfl⟩
    |false=>
     rw[hx]at e
     obtain⟨v,q⟩:=hc x c e
     exact⟨v,q.keeps λb o e=>get?_push_of_some _ e⟩
   rw[size_push]at this
   exact this
  .rw[if_neg hk,if_neg hk];exact Eu r h acc hc
def UD(scope:Scope)(env:Env)(C:Addr):List (Str×Addr):=cellsFrom (C+1) scope.names (Oz scope env)
variable{s:Shared}{A:Around}{E:Value->Shared->Prop}{qual:Str}
theorem En{M:Model}{globals:Addr}{cl:List (Str×Addr)}{Q:Env->Shared->Prop}(hQ:Q {scope:=scope,locals:=s.heap.objs.size,globals:=globals,cells:=cellsFrom (s.heap.objs.size+1) scope.names cl,qual:=qual,func:=none,code:=env.code,frame:=env.frame,builtins:=env.builtins}
   {s with heap:=pushCells (s.heap.push {cls:=.type "dict",data:=.dict #[]}) scope.names}):
  wpAny M A (newFunctionEnv scope globals cl [] qual none .none (some env)) Q E s:=by
 simp only[newFunctionEnv,Option.isSome_some,if_true]
 refine wpAny_bind (wpAny_alloc ?_)
 refine wpAny_bind (wpAny_layCells _ (λname kind cells=>by cases hkc:kind==NameKind.cell<;>simp[hkc]) _ _ _ _ ?_)
 rw[show({s with heap:=s.heap.push {cls:=.type "dict",data:=.dict #[]}}:Shared).heap.objs.size=s.heap.objs.size+1 from size_push ..]
 refine wpAny_bind ?_
 rw[List.forIn_nil]
 exact wpAny_pure (wpAny_pure hQ)
theorem IA{h:Heap}{names:List (Str×NameKind)}:(pushCells (h.push {cls:=.type "dict",data:=.dict #[]}) names).Ns h.objs.size λ_=>none:=(Heap.Ns.new h (.type "dict")).keeps (pushCells_keeps _ _)
def Lb(X:Cx)(scope:Scope)(Nc Nx:List Str)(C:Addr)(fp:List Addr)(pins:List (Addr×Obj))(s:Shared)(H:Hp):Cx:=
 {X with N:=Nc++Nx,s₀:=s,H₀:=H,env:=compEnvC scope (UD scope X.env C) C X.env,outer:=X.stack,stack:=X.stack,ex:=fp,fn:=λx=>scope.names.lookup x==some .cell,pn:=X.pn++pins,xe:=λ_ _=>False}
structure CompOk(X:Cx)(scope:Scope)(Nc Nx:List Str):Prop where
 kind:scope.kind=.function
 one:∀ y∈scope.names,scope.names.lookup y.1=some y.2
 free:∀ y∈scope.names,y.2=.free->X.env.kindOf y.1=some .cell\/X.env.kindOf y.1=some .free
 same:Nx.length=X.N.length
 dis:∀ p∈Nx.zip X.N,(p.1=p.2/\scope.names.lookup p.2≠some .local/\scope.names.lookup p.2≠some .cell)\/scope.names.lookup p.1=none
variable{x:Str}{Nc Nx:List Str}{k:NameKind}{pins:List (Addr×Obj)}{fp:List Addr}
theorem CompOk.loc(c:CompOk X scope Nc Nx):∀ y∈scope.names,y.2=.local->scope.names.lookup y.1=some .local:=λy hy h=>by rw[c.one y hy,h]
theorem CompOk.old(c:CompOk X scope Nc Nx)(h:scope.names.lookup x=some k)(hk:k≠ .cell):(x,NameKind.cell)∉scope.names:=λz=>by
 have:=c.one _ z
 rw[h]at this
 exact hk (Option.some.inj this)
theorem CompOk.cells(c:CompOk X scope Nc Nx)(ok:X.Ok):∀ y∈scope.names,y.2=.free->∃ a,X.env.cells.lookup y.1=some a:=λy hy hf=>ok.has y.1 (c.free y hy hf)
theorem Ff(h:(Oz scope X.env).lookup x=some a):X.env.cells.lookup x=some a:=DH scope.names [] (λ_ _ e=>by simp at e) x a h
theorem Cu(C:Addr)(h:(UD scope X.env C).lookup x=some a):X.env.cells.lookup x=some a\/(C<a/\(x,NameKind.cell)∈scope.names):=by
 rcases PB _ _ _ x a h with h|⟨h1,h2⟩
 .exact .inl (Ff h)
 .exact .inr ⟨h1,h2⟩
theorem BH(c:CompOk X scope Nc Nx)(C:Addr)(hx:scope.names.lookup x=some .cell)(h:(UD scope X.env C).lookup x=some a):C<a:=by
 rcases PB _ _ _ x a h with h|⟨h1,_⟩
 .rcases CH scope.names [] x a h with h|h
  .simp at h
  .have:=c.one _ h
   rw[hx]at this
   cases this
 .exact h1
theorem Kw(c:CompOk X scope Nc Nx)(C:Addr)(hx:scope.names.lookup x=some k)(hk:k≠ .cell):(UD scope X.env C).lookup x=(Oz scope X.env).lookup x:=Nz _ _ _ x (c.old hx hk)
theorem II{tk:Nat}(c:CompOk X scope Nc Nx)(I:Inv X pins σ H s)(hf:∀ b∈fp,Jk X pins H b/\b<s.heap.objs.size):
  Inv (Lb X scope Nc Nx s.heap.objs.size fp pins s H) [] (replicate Nc.length none++σ) H {s with heap:=pushCells (s.heap.push {cls:=.type "dict",data:=.dict #[]}) scope.names,toks:=tk}:=by
 have hn:(pushCells (s.heap.push {cls:=.type "dict",data:=.dict #[]}) scope.names).Ns s.heap.objs.size λ_=>none:=IA
 have hk:∀ b o,s.heap.get? b=some o->(pushCells (s.heap.push {cls:=.type "dict",data:=.dict #[]}) scope.names).get? b=some o:=λb o e=>pushCells_keeps _ _ _ _ (get?_push_of_some _ e)
 have cellLt:∀ x a,X.env.cells.lookup x=some a->a<s.heap.objs.size:=λx a e=>by
  obtain⟨v,q⟩:=I.cell x a e
  exact q.lt
 have hokind:(compEnvC scope (UD scope X.env s.heap.objs.size) s.heap.objs.size X.env).scope.kind=.function:=c.kind
 have kinds:∀ x,((relabel scope X.env).names.lookup x=some .cell\/(relabel scope X.env).names.lookup x=some .free)->scope.names.lookup x=some .cell\/scope.names.lookup x=some .free:=λx hx'=>by
  rw[Ve]at hx'
  cases q:scope.names.lookup x with
  |none=>rw[q]at hx';simp at hx'
  |some k=>
   rw[q]at hx'
   by_cases hkf:k=.free
   .rw[hkf];exact .inr rfl
   .have hb:(k==NameKind.free)=false:=by simpa using hkf
    simp only[map_some,hb,Bool.false_and,false_eq_true,if_false]at hx'
    exact hx'
 refine⟨⟨I.ok.mod,hokind,I.ok.glob,I.ok.blt,le_refl _,?_,λx hx=>?_,λx a hx e=>?_,I.ok.hd,I.ok.frames,.inl rfl,λb hb=>⟨?_,λx a e=>?_⟩,I.bs,le_trans I.ok.bsz I.sz,λb o e hb=>?_,λb hb=>?_,I.stack,I.stkFree⟩,
  rfl,I.bare,Un.kept hk,⟨_,hn,λi x v h1 h2 h3=>?_⟩,?_,I.hok.fresh (le_refl _),λx a e=>?_,λp hp=>?_,I.hok.kept hk,?_⟩
 .exact Mz scope.names _ _ (λx y a h1 h2=>I.ok.inj x y a (Ff h1) (Ff h2)) λx a h=>Nat.lt_succ_of_lt (cellLt x a (Ff h))
 .rcases kinds x hx with hc|hfree
  .exact isSome_iff_exists.mp (cellsFrom_some scope.names _ _ (.inl hc))
  .have hm:=PySem.mem_of_lookup hfree
   obtain⟨a,e⟩:=Mw (env:=X.env) scope.names [] x (.inr ⟨hm,c.cells I.ok _ hm rfl⟩)
   exact⟨a,(Kw c _ hfree (by decide)).trans e⟩
 .have hx':(scope.names.lookup x==some NameKind.cell)=true:=hx
  exact le_of_lt (BH c _ (by simpa using hx') e)
 .exact ne_of_lt (hf b hb).2
 .rcases Cu _ e with e|⟨e,_⟩
  .exact(hf b hb).1.2.2.2.2.1 x a e
  .have:=(hf b hb).2
   exact ne_of_gt (lt_trans this e)
 .obtain⟨_,hb2⟩:=I.bs b o e
  rcases(hf b hb).1.2.2.2.1 with z|z
  .exact I.ok.noex b o e z
  .exact absurd (lt_of_lt_of_le (lt_size e) (le_trans I.ok.bsz z)) (lt_irrefl _)
 .intro z
  rcases mem_cons.mp (I.stkSub b z) with q|q
  .exact(hf b hb).1.2.1 q
  .exact(hf b hb).1.2.2.1 q
 .have hi:Nc.length<=i:=by
   refine Nat.le_of_not_lt λq=>?_
   rw[List.getElem?_append_left (by simpa using q),List.getElem?_replicate]at h2
   split at h2<;>cases h2
  have h1':Nx[i-Nc.length]? =some x:=by
   have z:(Nc++Nx)[i]? =some x:=h1
   rw[List.getElem?_append_right hi]at z;exact z
  have h2':σ[i-Nc.length]? =some (some v):=by
   rw[List.getElem?_append_right (by simpa using hi),length_replicate]at h2;exact h2
  have h3':(relabel scope X.env).names.lookup x=some .local\/(relabel scope X.env).names.lookup x=some .cell\/(relabel scope X.env).names.lookup x=some .free:=h3
  have hz:i-Nc.length<X.N.length:=by
   rw[<-c.same]
   refine Nat.lt_of_not_le λq=>?_
   rw[List.getElem?_eq_none q]at h1';cases h1'
  have hd2:=c.dis (x,X.N[i-Nc.length]'hz) (mem_of_getElem? (i:=i-Nc.length) (by
   rw[List.getElem?_zip_eq_some]
   exact⟨h1',getElem?_eq_getElem hz⟩))
  have hd3:X.N[i-Nc.length]? =some x/\scope.names.lookup x≠some .local/\scope.names.lookup x≠some .cell:=by
   rcases hd2 with⟨q1,q2⟩|q
   .have q1':x=X.N[i-Nc.length]'hz:=q1
    have q2':scope.names.lookup (X.N[i-Nc.length]'hz)≠some .local/\scope.names.lookup (X.N[i-Nc.length]'hz)≠some .cell:=q2
    rw[<-q1']at q2'
    exact⟨by rw[getElem?_eq_getElem hz,<-q1'],q2'⟩
   .exfalso
    have q':scope.names.lookup x=none:=q
    rw[Ve,q']at h3'
    simp at h3'
  obtain⟨h1',hnl,hnc⟩:=hd3
  have hfree:scope.names.lookup x=some .free:=by
   rcases h3' with z|z
   .rw[Ve]at z
    cases q:scope.names.lookup x with
    |none=>rw[q]at z;simp at z
    |some k=>
     rw[q]at z
     by_cases hkf:k=.free
     .rw[hkf]
     .have hb:(k==NameKind.free)=false:=by simpa using hkf
      simp only[map_some,hb,Bool.false_and,false_eq_true,if_false]at z
      rw[q]at hnl;exact absurd z hnl
   .rcases kinds x z with z|z
    .exact absurd z hnc
    .exact z
  have hm:=PySem.mem_of_lookup hfree
  have hkx:=c.free _ hm rfl
  obtain⟨mX,hnX,hl⟩:=I.loc
  obtain⟨u,r,l⟩:=hl _ x v h1' h2' (hkx.elim (λz=>.inr (.inl z)) λz=>.inr (.inr z))
  refine⟨u,r,?_⟩
  rcases l with⟨z,_⟩|⟨_,a,e,z⟩
  .have z':X.env.kindOf x=some .local:=z
   rcases hkx with q|q<;> · rw[z']at q;cases q
  .obtain⟨a',e'⟩:=Mw (env:=X.env) scope.names [] x (.inr ⟨hm,c.cells I.ok _ hm rfl⟩)
   have ea:a'=a:=by
    have:=Ff (X:=X) e'
    rw[e]at this
    exact(Option.some.inj this).symm
   subst ea
   refine .inr ⟨?_,a',(Kw c _ hfree (by decide)).trans e',?_⟩
   .show(relabel scope X.env).names.lookup x=some .cell\/(relabel scope X.env).names.lookup x=some .free
    rw[Ve,hfree]
    simp only[map_some]
    split
    .exact .inl rfl
    .exact .inr rfl
   .obtain⟨o,ho,hd⟩:=z
    exact⟨o,hk _ _ ho,hd⟩
 .have q:=Eu scope.names (s.heap.push {cls:=.type "dict",data:=.dict #[]}) (Oz scope X.env) λx a e=>by
   obtain⟨v,z⟩:=I.cell x a (Ff e)
   exact⟨v,z.keeps λb o e=>get?_push_of_some _ e⟩
  rw[size_push]at q
  exact q
 .rcases Cu _ e with e|⟨e,_⟩
  .exact I.freeC x a e
  .exact I.hok.fresh (le_of_lt e)
 .have hp':p∈X.pn++pins:=by
   have z:p∈(X.pn++pins)++ []:=hp
   rwa [append_nil]at z
  obtain⟨e,n,ne,nf,d⟩:=I.pin p hp'
  refine⟨hk _ _ e,n,ne_of_lt (lt_size e),λz=>?_,d⟩
  rcases mem_cons.mp (I.stkSub p.1 z) with q|q
  .exact ne q
  .exact nf q
 .show _=(Nc++Nx).length
  rw[length_append,length_append,length_replicate,I.len,c.same]
theorem Fx{σ':L2.St}{s':Shared}{h'':Heap}(I:Inv X pins σ H s)(hf:∀ b∈fp,Jk X pins H b)(J:Inv (Lb X scope Nc Nx s.heap.objs.size fp pins s H) [] σ' H' s')(hs:SameBut s.heap.objs.size s'.heap h''):Inv X pins σ H' {s' with heap:=h''}:=by
 have u:Un (Fh X.stack) fp H H' s.heap s'.heap:=J.base
 have hC:H' s.heap.objs.size=none:=J.free
 have keep:∀ b o,b≠s.heap.objs.size->s'.heap.get? b=some o->h''.get? b=some o:=λb o hb e=>by rw[hs.2 b hb];exact e
 have lt:∀ b o,s.heap.get? b=some o->b≠s.heap.objs.size:=λb o e=>ne_of_lt (lt_size e)
 refine I.call' (s':= {s' with heap:=h''}) (ch:=fp) J.os ⟨λb o e n h1 h2=>keep b o (lt b o e) (u.keep b o e n h1 h2),λb o e n h1 h2=>?_,u.free,λb o e h1=>?_,u.tups,u.frzs,u.tbls⟩ (λb o e=>?_) J.bare λb hb=>?_
 .obtain⟨sl,q⟩:=u.slot b o e n h1 h2
  exact⟨sl,keep b _ (lt b o e) q⟩
 .obtain⟨o',q⟩:=u.there b o e h1
  exact⟨o',keep b _ (lt b o e) q⟩
 .refine(J.hok b o e).stay (λc v hc q=>keep c v (λz=>?_) q) (λ_ q=>q) λ_ _ q=>q
  subst z
  rcases hc with z|z
  .rw[<-z,hC]at e;cases e
  .rw[hC]at z;cases z
 .exact⟨(hf b hb).2.2.2.1,(hf b hb).2.1,(hf b hb).2.2.2.2.1,(hf b hb).2.2.2.2.2⟩
variable{w:World}{elt iter:Expr}{ifs:List Expr}{pos:Pos}
theorem Nw{prog:Program}{R:Result->Shared->Prop}{target:Expr}{it acc:Value}(I:Nat->Shared->Prop)(turn:∀ n s,I n s->wpAny (model prog w) A (pyNext it) (λr s₁=>match r with
   |none=>R (.ok .next) s₁
   |some v=>wpAny (model prog w) A (letOwnedTupleGo target it v) (λ_ s₁'=>wpAny (model prog w) A (assign target env v) (λ_ s₂=>
     wpAny (model prog w) A (forIn ifs true λc r=>if r=true then do let ok <-isTrue c env (eval c env);pure (ForInStep.yield ok) else pure (ForInStep.yield r)) (λok s₃=>
      if ok=true then wpAny (model prog w) A (eval elt env) (λx s₄=>
       wpAny (model prog w) A (call (.builtin "list.append") [acc,x]) (λ_ s₅=>∃ m,m<n/\I m s₅) (λ_ _=>False) s₄) (λ_ _=>False) s₃
      else ∃ m,m<n/\I m s₃) (λ_ _=>False) s₂) (λ_ _=>False) s₁') (λ_ _=>False) s₁) (λ_ _=>False) s)(n:Nat)(h:I n s):
  codeAny (model prog w) A (.compLoop (.ListComp elt [⟨target,iter,ifs,0⟩] scope pos) 0 it acc env) R s:=by
 refine codeAny_loop rfl I (λn s hI=>?_) n h
 show wpAny _ A ((compTurn (.ListComp elt [⟨target,iter,ifs,0⟩] scope pos) 0 it acc env).onRaise (λx=>do noteFrame x env;theTreesLotGoes x)) _ _ s
 refine wpAny_noted ?_
 rw[compTurn_list]
 refine wpAny_bind (wpAny_standAt (wpAny_bind (wpAny_mono (turn n s hI) (λr s₁ h₁=>?_) λ_ _ h'=>h'.elim)))
 cases r with
 |none=>exact wpAny_pure h₁
 |some v=>
  refine wpAny_bind (wpAny_mono h₁ (λ_ s₁' h₁'=>wpAny_bind (wpAny_mono h₁' (λ_ s₂ h₂=>wpAny_bind (wpAny_mono h₂ (λok s₃ h₃=>?_) λ_ _ h'=>h'.elim)) λ_ _ h'=>h'.elim)) λ_ _ h'=>h'.elim)
  cases ok with
  |false=>exact wpAny_pure ⟨rfl,h₃⟩
  |true=>
   exact wpAny_bind (wpAny_bind (wpAny_mono h₃ (λx s₄ h₄=>wpAny_bind (wpAny_mono h₄ (λ_ s₅ h₅=>wpAny_pure (wpAny_pure ⟨rfl,h₅⟩)) λ_ _ h'=>h'.elim)) λ_ _ h'=>h'.elim))
def JZ(X:Cx)(ifs:List Expr)(t:TT):Prop:=
 ∀ (pins:List (Addr×Obj)) (s:Shared) (σ:L2.St) (H:Hp) (Q:Bool->Hp->Prop),Inv X pins σ H s->t σ H Q->
  wpAny (model X.prog X.w) X.A (forIn ifs true λc r=>if r=true then do let ok <-isTrue c X.env (eval c X.env);pure (ForInStep.yield ok) else pure (ForInStep.yield r)) (TP X pins σ Q) X.xe s
def N6:TT:=λ_ H Q=>Q true H
theorem TQ:JZ X [] N6:=λ_ s σ H Q I h=>wpAny_tests_nil ⟨H,I,h⟩
variable{c:Expr}
theorem UQ{t:TT}(h:PT X c t):JZ X [c] t:=λpins s σ H Q I q=>wpAny_tests_one (h pins s σ H Q I q)
def BL(n:Nat)(wi:TI)(g:TG)(tt:TT)(te:TE):TE:=λσ H Q=>wi σ H λJ H1=>∀ a,H1 a=none->∃ W:Nat->Nat->List V->L2.St->Hp->Prop,(∃ m,W 0 m [] (replicate n none++σ) (Eb H1 a (.lst [])))/\
 ∀ i m xs σ' H,W i m xs σ' H->H a=some (.lst xs)/\((J.stop i H/\Q (.ref a) H)\/(J.go i H/\∀ x H',J.yld i H x H'->g x σ' H' λσ2 H2=>tt σ2 H2 λb H3=>
  if b=true then te σ2 H3 λy H4=>H4 a=some (.lst xs)/\xs.length<sizeLine/\∃ m',m'<m/\W (i+1) m' (xs++ [y]) σ2 (Eb H4 a (.lst (xs++ [y]))) else ∃ m',m'<m/\W (i+1) m' xs σ2 H3))
variable{tg:Expr}{H1:Hp}{py spos:Pos}
section
variable {wi:TI}{g:TG}{tt:TT}{te:TE}
theorem Pp(c:CompOk X scope Nc Nx)(hcalm:X.calm=true)(hY:∀ (C:Addr) (fp:List Addr) (pins:List (Addr×Obj)) (s:Shared) (H:Hp),PG (Lb X scope Nc Nx C fp pins s H) tg g/\JZ (Lb X scope Nc Nx C fp pins s H) ifs tt/\PE (Lb X scope Nc Nx C fp pins s H) elt te){s2:Shared}{it:Addr}{tn:Nat->Heap->Prop}{J:It}{Q:V->Hp->Prop}{RR:Value->Addr->Result->Shared->Prop}(I:Inv X pins σ H1 s2)(T:Turn X.prog X.w X.K tg J fp it tn)(st:tn 0 s2.heap)(hf:∀ b∈fp,Jk X pins H1 b)(h:∀ a,H1 a=none->∃ W:Nat->Nat->List V->L2.St->Hp->Prop,(∃ m,W 0 m [] (replicate Nc.length none++σ) (Eb H1 a (.lst [])))/\
 ∀ i m xs σ' H,W i m xs σ' H->H a=some (.lst xs)/\((J.stop i H/\Q (.ref a) H)\/(J.go i H/\∀ x H',J.yld i H x H'->g x σ' H' λσ2 H2=>tt σ2 H2 λb H3=>
  if b=true then te σ2 H3 λy H4=>H4 a=some (.lst xs)/\xs.length<sizeLine/\∃ m',m'<m/\W (i+1) m' (xs++ [y]) σ2 (Eb H4 a (.lst (xs++ [y]))) else ∃ m',m'<m/\W (i+1) m' xs σ2 H3)))(hRR:∀ a H' σ' s' s3,Inv X pins σ (Eb H1 a (.lst [])) s3->(∀ b∈fp,Jk X pins (Eb H1 a (.lst [])) b)->Inv (Lb X scope Nc Nx s3.heap.objs.size fp pins s3 (Eb H1 a (.lst []))) [] σ' H' s'->Q (.ref a) H'->RR (.ref a) s3.heap.objs.size (.ok .next) s'):
  wpAny (model X.prog X.w) X.A (newList []) (λacc s₃=>wpAny (model X.prog X.w) X.A (newFunctionEnv scope X.env.globals (Oz scope X.env) [] X.env.qual none .none (some X.env)) (λcenv s₄=>
   codeAny (model X.prog X.w) X.A (.compStart (.ListComp elt [⟨tg,iter,ifs,0⟩] scope pos) 0 (.ref it) acc {cenv with scope:=relabel scope X.env}) (RR acc cenv.locals) s₄) E s₃) E s2:=by
 have hfree:H1 s2.heap.objs.size=none:=I.hok.fresh (le_refl _)
 refine wpAny_newObj_type (En ?_)
 dsimp only
 generalize ea:s2.heap.objs.size=a at hfree
 have I3:Inv X pins σ (Eb H1 a (.lst [])) {s2 with heap:=s2.heap.push {cls:=.type "list",dict:=none,data:=.seq ([]:List Value).toArray},toks:=s2.toks}:=by
  subst ea
  exact I.laid (t':=s2.toks) (λb u e=>get?_push_of_some _ e) (le_refl _) ⟨zero_le _,[],_,.nil,get?_push_size _ rfl⟩
 generalize eS:({s2 with heap:=s2.heap.push {cls:=.type "list",dict:=none,data:=.seq ([]:List Value).toArray},toks:=s2.toks}:Shared)=s3 at I3
 have e3h:s3.heap=s2.heap.push {cls:=.type "list",dict:=none,data:=.seq ([]:List Value).toArray}:=by rw[<-eS]
 have obj0:=T.obj 0 _ st
 have hf3:∀ b∈fp,Jk X pins (Eb H1 a (.lst [])) b:=λb hb=>by
  obtain⟨o,e,_⟩:=obj0 b hb
  have:b≠a:=by rw[<-ea];exact ne_of_lt (lt_size e)
  exact⟨by rw[Da this];exact(hf b hb).1,(hf b hb).2⟩
 have up:∀ b o,s2.heap.get? b=some o->s3.heap.get? b=some o:=λb o e=>by rw[e3h];exact get?_push_of_some _ e
 have hf3':∀ b∈fp,Jk X pins (Eb H1 a (.lst [])) b/\b<s3.heap.objs.size:=λb hb=>⟨hf3 b hb,by
  obtain⟨o,e,_⟩:=obj0 b hb
  exact lt_size (up b o e)⟩
 have eC:(s2.heap.push {cls:=.type "list",dict:=none,data:=.seq ([]:List Value).toArray}).objs.size=s3.heap.objs.size:=by rw[e3h]
 generalize eh:pushCells ((s2.heap.push {cls:=.type "list",dict:=none,data:=.seq ([]:List Value).toArray}).push {cls:=.type "dict",data:=.dict #[]}) scope.names=h₁
 have hk4:∀ b o,s3.heap.get? b=some o->h₁.get? b=some o:=λb o e=>by
  rw[<-eh,<-e3h]
  exact pushCells_keeps _ _ _ _ (get?_push_of_some _ e)
 have I4:=II (tk:=s2.toks) c I3 hf3'
 have e4:({s3 with heap:=pushCells (s3.heap.push {cls:=.type "dict",data:=.dict #[]}) scope.names,toks:=s2.toks}:Shared)= {s2 with heap:=h₁}:=by rw[<-eh,<-eS]
 rw[e4]at I4
 obtain⟨W,⟨m0,w0⟩,turn⟩:=h a hfree
 obtain⟨hg,htt,hte⟩:=hY s3.heap.objs.size fp pins s3 (Eb H1 a (.lst []))
 have loop:codeAny (model X.prog X.w) X.A (.compLoop (.ListComp elt [⟨tg,iter,ifs,0⟩] scope pos) 0 (.ref it) (.ref a) (compEnvC scope (UD scope X.env s3.heap.objs.size) s3.heap.objs.size X.env)) (RR (.ref a) s3.heap.objs.size) {s2 with heap:=h₁}:=by
  refine Nw (λn s'=>∃ i xs σ' H',Inv (Lb X scope Nc Nx s3.heap.objs.size fp pins s3 (Eb H1 a (.lst []))) [] σ' H' s'/\tn i s'.heap/\(∀ b∈fp,H' b=none)/\W i n xs σ' H') ?_ m0
   ⟨0,[],_,_,I4,T.keep _ _ _ st λb _ o e=>hk4 b o (up b o e),λb hb=>(hf3 b hb).1,w0⟩
  rintro n s5 ⟨i,xs,σ5,H5,I5,st5,fr5,w5⟩
  have stat:∀ {H':Hp},(∀ b∈fp,H' b=none)->∀ b∈fp,Jk (Lb X scope Nc Nx s3.heap.objs.size fp pins s3 (Eb H1 a (.lst []))) [] H' b:=λ{H'} hn b hb=>by
   obtain⟨_,f1,f2,f3,f4,f5⟩:=hf3 b hb
   refine⟨hn b hb,ne_of_lt (hf3' b hb).2,λz=>?_,.inl hb,λx cc e=>(Cu _ e).elim (λe=>f4 x cc e) λe=>ne_of_gt (lt_trans (hf3' b hb).2 e.1),λp hp=>f5 p ?_⟩
   .rcases mem_cons.mp (I3.stkSub b z) with q|q
    .exact f1 q
    .exact f2 q
   .have z:p∈(X.pn++pins)++ []:=hp
    rwa [append_nil]at z
  obtain⟨hxs,alt⟩:=turn i n xs σ5 H5 w5
  rcases alt with⟨stop,qn⟩|⟨go,step⟩
  .refine wpAny_mono (T.done (Lb X scope Nc Nx s3.heap.objs.size fp pins s3 (Eb H1 a (.lst []))) rfl rfl rfl hcalm i [] s5 σ5 H5 (λ_ _=>False) I5 (stat fr5) st5 stop) (λr s6 ⟨hr,I6⟩=>?_) λ_ _ z=>z
   subst hr
   exact hRR a H5 σ5 s6 s3 I3 hf3 I6 qn
  .refine wpAny_mono (T.item (Lb X scope Nc Nx s3.heap.objs.size fp pins s3 (Eb H1 a (.lst []))) rfl rfl rfl hcalm i [] s5 σ5 H5 (λ_ _=>False) I5 (stat fr5) st5 go) (λr s6 ⟨u,hr,h6⟩=>?_) λ_ _ z=>z
   subst hr
   refine wpAny_mono h6 (λ_ s7 ⟨x,H7,I7,r7,y7,st7,fr7⟩=>?_) λ_ _ z=>z
   have I7':=I7.pinned (stat fr7) (T.obj _ _ st7)
   have fin:∀ {σ9:L2.St} {H9:Hp} {s9:Shared},Inv (Lb X scope Nc Nx s3.heap.objs.size fp pins s3 (Eb H1 a (.lst []))) ([]++Pq fp s7.heap) σ9 H9 s9->Inv (Lb X scope Nc Nx s3.heap.objs.size fp pins s3 (Eb H1 a (.lst []))) [] σ9 H9 s9/\tn (i+1) s9.heap/\(∀ b∈fp,H9 b=none):=λ{σ9 H9 s9} I9=>by
    refine⟨I9.unpinned,T.keep _ _ _ st7 λb hb o e=>(I9.pin (b,o) (mem_append_right _ (mem_append_right _ (Ui hb e)))).1,λb hb=>?_⟩
    obtain⟨o,e,d⟩:=T.obj _ _ st7 b hb
    exact(I9.pin (b,o) (mem_append_right _ (mem_append_right _ (Ui hb e)))).2.1
   refine wpAny_mono (hg _ s7 σ5 H7 x u _ I7' r7 (step x H7 y7)) (λ_ s8 ⟨σ8,H8,I8,q8⟩=>?_) λ_ _ z=>z
   refine wpAny_mono (htt _ s8 σ8 H8 _ I8 q8) (λb s9 ⟨H9,I9,q9⟩=>?_) λ_ _ z=>z
   cases b with
   |false=>
    obtain⟨m',hm,w9⟩:=q9
    obtain⟨J1,J2,J3⟩:=fin I9
    exact⟨m',hm,i+1,xs,σ8,H9,J1,J2,J3,w9⟩
   |true=>
    refine wpAny_mono (hte _ s9 σ8 H9 _ I9 q9) (λy s10 ⟨v,H10,I10,r10,q10⟩=>?_) λ_ _ z=>z
    obtain⟨e10,hl10,m',hm,w10⟩:=q10
    refine wpAny_mono (Xs (X:=Lb X scope Nc Nx s3.heap.objs.size fp pins s3 (Eb H1 a (.lst []))) _ s10 σ8 H10 (.ref a) [v] (.ref a) [y] (λ_ H'=>H'=Eb H10 a (.lst (xs++ [v]))) I10 rfl (.cons r10 .nil) ⟨a,xs,v,rfl,rfl,e10,hl10,rfl⟩) (λ_ s11 ⟨_,H11,I11,_,q11⟩=>?_) λ_ _ z=>z
    subst q11
    obtain⟨J1,J2,J3⟩:=fin I11
    exact⟨m',hm,i+1,xs++ [v],σ8,_,J1,J2,J3,w10⟩
 have st4:tn 0 h₁:=T.keep _ _ _ st λb _ o e=>hk4 b o (up b o e)
 rw[e3h]at loop
 subst ea
 exact codeAny_compStart_list loop (T.self _ 0 _ _ _ st4 loop)
theorem CQ(c:CompOk X scope Nc Nx)(hcalm:X.calm=true)(hi:PI X tg iter wi)(hY:∀ (C:Addr) (fp:List Addr) (pins:List (Addr×Obj)) (s:Shared) (H:Hp),PG (Lb X scope Nc Nx C fp pins s H) tg g/\JZ (Lb X scope Nc Nx C fp pins s H) ifs tt/\PE (Lb X scope Nc Nx C fp pins s H) elt te)(hs:∀ x,foldedSetIterable iter X.env x=pure x:=by intro _;rfl):
  PE X (.ListComp elt [⟨tg,iter,ifs,0⟩] scope pos) (BL Nc.length wi g tt te):=by
 intro pins s σ H Q I h
 rw[eval_ListComp]
 refine wpAny_comprehension_free (use:=none) rfl hs (QB (c.cells I.ok)) c.kind c.loc (thn (hi pins s σ H _ I h) λv s1 h1=>thn h1 λitv s2 h2=>?_)
 obtain⟨it,fp,tn,J,H2,rfl,I2,T,st2,f2,q⟩:=h2
 refine Pp (Q:=Q) (RR:=λacc C=>compPost (model X.prog X.w) X.A X.xe none (EP X pins σ Q) acc C) c hcalm hY I2 T st2 f2 q ?_
 intro a H' σ' s' s3 I3 hf3 IY qa
 obtain⟨m,hn,_⟩:=IY.loc
 exact⟨m,hn,λh' hs'=>⟨.ref a,H',Fx I3 hf3 IY hs',rfl,qa⟩⟩
theorem SQ{i:Nat}{y:Str}(c:CompOk X scope Nc Nx)(hcalm:X.calm=true)(hi:PI X tg iter wi)(hY:∀ (C:Addr) (fp:List Addr) (pins:List (Addr×Obj)) (s:Shared) (H:Hp),PG (Lb X scope Nc Nx C fp pins s H) tg g/\JZ (Lb X scope Nc Nx C fp pins s H) ifs tt/\PE (Lb X scope Nc Nx C fp pins s H) elt te)(hN:X.N.Nodup)(hiN:X.N[i]? =some y)(hx:Ez X.env.scope y)(hsw:swapsWith (.ListComp elt [⟨tg,iter,ifs,0⟩] scope pos) (some (.Name y py)) spos.line X.env=pure true:=by rfl)(hf:X.fn y=true\/X.env.scope.names.lookup y=some .local:=by first|exact .inl rfl|exact .inr rfl|assumption)(hs:∀ x,foldedSetIterable iter X.env x=pure x:=by intro _;rfl):
  PS X (.Assign [.Name y py] (.ListComp elt [⟨tg,iter,ifs,0⟩] scope pos) spos) (PY (BL Nc.length wi g tt te) (Xw i)):=by
 intro pins s σ H Dn I h
 rw[exec_Assign_Name_used _ _ _ _ hsw]
 refine wpAny_bind (wpAny_standAt (wpAny_bind ?_))
 show wpAny _ X.A (do let _ <-comprehension (.ListComp elt [⟨tg,iter,ifs,0⟩] scope pos) scope X.env _ (newList []) false (eval iter X.env) (some (assign (.Name y py) X.env))) _ _ s
 refine wpAny_bind (wpAny_mono (wpAny_comprehension_free (use:=some (assign (.Name y py) X.env)) (Q:=λ_ s'=>SP X pins Dn .next s') rfl hs (QB (c.cells I.ok)) c.kind c.loc
  (thn (hi pins s σ H _ I h) λv s1 h1=>thn h1 λitv s2 h2=>?_)) (λ_ s' hq=>wpAny_pure (wpAny_pure hq)) λ_ _ e=>e)
 obtain⟨it,fp,tn,J,H2,rfl,I2,T,st2,f2,q⟩:=h2
 refine Pp (Q:=λx H1=>Xw i x σ H1 Dn.nx) (RR:=λacc C=>compPost (model X.prog X.w) X.A X.xe (some (assign (.Name y py) X.env)) (λ_ s'=>SP X pins Dn .next s') acc C) c hcalm hY I2 T st2 f2 q ?_
 intro a H' σ' s' s3 I3 hf3 IY qa
 obtain⟨m,⟨o,es,ep,ho,hod,hrest⟩,_⟩:=IY.loc
 have ho':s'.heap.get? s3.heap.objs.size=some o:=ho
 have IX:Inv X pins σ H' s':=Fx I3 hf3 IY (h'':=s'.heap) (SameBut.refl _ _)
 have hC0:H' s3.heap.objs.size=none:=IY.free
 have ncell:∀ v,o.data≠ .cell v:=λv z=>by rw[hod]at z;cases z
 have hL:s3.heap.objs.size≠X.env.locals:=ne_of_gt I3.lt
 have IX':Inv X (pins++ [(s3.heap.objs.size,o)]) σ H' s':=IX.pins_of λp hp=>(mem_append.mp hp).elim (λz=>IX.pin p (mem_append_right _ z)) λz=>by
  have e:p=(s3.heap.objs.size,o):=by simpa using z
  subst e
  exact⟨ho',hC0,hL,I3.nofs (le_refl _),ncell⟩
 have hcells:∀ x cc,X.env.cells.lookup x=some cc->cc≠s3.heap.objs.size:=λx cc e z=>by
  obtain⟨v,q⟩:=I3.cell x cc e
  exact absurd q.lt (by rw[z];exact lt_irrefl _)
 show wpAny _ X.A (assign (.Name y py) X.env (.ref a)) _ _ s'
 refine wpAny_assign_Name (Dm IX' hN hiN hx (v:=.ref a) rfl (λs5 I5=>?_) hf)
 have p5:=I5.pin (s3.heap.objs.size,o) (mem_append_right _ (mem_append_right _ (by simp)))
 refine⟨m,⟨o,es,ep,p5.1,hod,hrest⟩,λh' hs'=>⟨_,H',?_,qa⟩⟩
 have I5':=I5.unpinned
 exact I5'.turned (t':=s5.toks) (it:=s3.heap.objs.size) (λb ob hb e=>by rw[hs'.2 b hb];exact e) hC0 hL (.inr I3.sz) hcells λp hp z=>absurd (lt_size (I3.pin p hp).1) (by rw[z];exact lt_irrefl _)
end
open SeqAt
mutual
def Me:D->D->Bool
 | .non,.non=>true
 | .bl a,.bl b=>a==b
 | .int a,.int b=>a==b
 | .str a,.str b=>a==b
 | .bl a,.int b=>(if a then 1 else 0)==b
 | .int a,.bl b=>a==(if b then 1 else 0)
 | .tup a,.tup b=>Km a b
 | .lst a,.lst b=>Km a b
 |_,_=>false
def Km:List D->List D->Bool
 | [],[]=>true
 |a::as,b::bs=>Me a b&&Km as bs
 |_,_=>false
end
def Xb:Nat->D->Bool
 |_,.non=>true
 |_,.bl _=>true
 |_,.int _=>true
 |_,.str _=>true
 |n+1,.tup ds=>ds.all (Xb n)
 |n+1,.lst ds=>ds.all (Xb n)
 |_,_=>false
theorem Rm:∀ (as bs:List D),as.length=bs.length->Km as bs=(range as.length).all λj=>Me (as.getD j .non) (bs.getD j .non)
 | [],[],_=>by simp[Km]
 |a::as,b::bs,h=>by
  rw[Km,List.length_cons,List.range_succ_eq_map,all_cons,List.all_map,Rm as bs (by simpa using h)]
  rfl
 | [],_::_,h=>by simp at h
 |_::_,[],h=>by simp at h
theorem Gu:∀ (as bs:List D),as.length≠bs.length->Km as bs=false
 | [],[],h=>absurd rfl h
 |a::as,b::bs,h=>by rw[Km,Gu as bs (by simpa using h),Bool.and_false]
 | [],_::_,h=>by simp[Km]
 |_::_,[],h=>by simp[Km]
variable{n j:Nat}{its:List Value}
theorem Has.notup{W:WS}{H:Hp}{K:Frag}(I:Inv X pins σ H s)(h1:SqL X.K H a xs)(h2:SqT X.K H a ys):False:=by
 obtain⟨its,_,⟨o,n,e,c,_⟩,_⟩:=I.list h1
 obtain⟨its',_,⟨o',e',c',_⟩,_⟩:=I.tuple h2
 rw[e]at e';cases e'
 rw[c]at c'
 exact absurd c' (by simp)
theorem HasT.ref{x:V}(h:HasT K W H d x)(hs:Xb n d=true):
  (d=.non/\x=.non)\/(∃ b,d=.bl b/\x=.bl b)\/(∃ b,d=.int b/\x=.int b)\/(∃ b,d=.str b/\x=.str b)\/
  (∃ ds a xs m,n=m+1/\d=.tup ds/\x=.ref a/\SqT K H a xs/\HasL K W H ds xs/\∀ y∈ds,Xb m y=true)\/
  (∃ ds a xs m,n=m+1/\d=.lst ds/\x=.ref a/\SqL K H a xs/\HasL K W H ds xs/\∀ y∈ds,Xb m y=true):=by
 cases d with
 |non=>exact .inl ⟨rfl,h.non⟩
 |bl b=>exact .inr (.inl ⟨b,rfl,h.bl⟩)
 |int b=>exact .inr (.inr (.inl ⟨b,rfl,h.int⟩))
 |str b=>exact .inr (.inr (.inr (.inl ⟨b,rfl,h.str⟩)))
 |tup ds=>
  obtain⟨a,xs,e,q,r⟩:=h.tup
  cases n with
  |zero=>simp[Xb]at hs
  |succ m=>
   rw[Xb,all_eq_true]at hs
   exact .inr (.inr (.inr (.inr (.inl ⟨ds,a,xs,m,rfl,rfl,e,q,r,hs⟩))))
 |lst ds=>
  obtain⟨a,xs,e,q,r⟩:=h.lst
  cases n with
  |zero=>simp[Xb]at hs
  |succ m=>
   rw[Xb,all_eq_true]at hs
   exact .inr (.inr (.inr (.inr (.inr ⟨ds,a,xs,m,rfl,rfl,e,q,r,hs⟩))))
 |dct k ds=>cases n<;>simp[Xb]at hs
 |exc k ds=>cases n<;>simp[Xb]at hs
 |obj c k ds=>cases n<;>simp[Xb]at hs
theorem PH(I:Inv X pins σ H s):∀ (n:Nat) {d e:D} {x:V},HasT X.K W H d x->HasT X.K W H e x->Xb n d=true->Xb n e=true->Me d e=true:=by
 intro n
 induction n with
 |zero=>
  intro d e x h1 h2 s1 s2
  rcases h1.ref s1 with⟨rfl,rfl⟩|⟨b,rfl,rfl⟩|⟨b,rfl,rfl⟩|⟨b,rfl,rfl⟩|⟨_,_,_,m,z,_⟩|⟨_,_,_,m,z,_⟩<;>
  rcases h2.ref s2 with⟨rfl,e2⟩|⟨c,rfl,e2⟩|⟨c,rfl,e2⟩|⟨c,rfl,e2⟩|⟨_,_,_,m',z',_⟩|⟨_,_,_,m',z',_⟩<;>first|(cases z;done)|(cases z';done)|(cases e2;done)|(cases e2;simp[Me])
 |succ n ih=>
  have lists:∀ {ds es:List D} {xs:List V},HasL X.K W H ds xs->HasL X.K W H es xs->(∀ y∈ds,Xb n y=true)->(∀ y∈es,Xb n y=true)->Km ds es=true:=by
   intro ds
   induction ds with
   |nil=>
    intro es xs h1 h2 _ _
    have e1:=h1.length
    have e2:=h2.length
    cases es with
    |nil=>simp[Km]
    |cons=>simp at e1 e2;omega
   |cons d ds ih2=>
    intro es xs h1 h2 g1 g2
    rw[HasL]at h1
    obtain⟨x,r,rfl,q,t⟩:=h1
    cases es with
    |nil=>rw[HasL]at h2;cases h2
    |cons e es=>
     rw[HasL]at h2
     obtain⟨x',r',ee,q',t'⟩:=h2
     cases ee
     rw[Km,ih (.inl q) (.inl q') (g1 d mem_cons_self) (g2 e mem_cons_self),ih2 t t' (λy hy=>g1 y (mem_cons_of_mem _ hy)) λy hy=>g2 y (mem_cons_of_mem _ hy)]
     rfl
  intro d e x h1 h2 s1 s2
  rcases h1.ref s1 with⟨rfl,rfl⟩|⟨b,rfl,rfl⟩|⟨b,rfl,rfl⟩|⟨b,rfl,rfl⟩|⟨ds,a,xs,m,z,rfl,rfl,q,r,g⟩|⟨ds,a,xs,m,z,rfl,rfl,q,r,g⟩<;>
  rcases h2.ref s2 with⟨rfl,e2⟩|⟨c,rfl,e2⟩|⟨c,rfl,e2⟩|⟨c,rfl,e2⟩|⟨es,a',ys,m',z',rfl,e2,q',r',g'⟩|⟨es,a',ys,m',z',rfl,e2,q',r',g'⟩<;>first|(cases e2;done)|(cases e2;simp[Me];done)|skip
  .cases e2
   cases z;cases z'
   have:=I.tuple_inj q q'
   subst this
   rw[Me];exact lists r r' g g'
  .cases e2
   exact(Has.notup (K:=X.K) (W:=W) (H:=H) I q' q).elim
  .cases e2
   exact(Has.notup (K:=X.K) (W:=W) (H:=H) I q q').elim
  .cases e2
   cases z;cases z'
   have:=I.list_inj q q'
   subst this
   rw[Me];exact lists r r' g g'
theorem Po(h:j<ds.length):ds[j]? =some (ds.getD j .non):=by
 rw[List.getD_eq_getElem?_getD,getElem?_eq_getElem h];rfl
theorem JD(r:Vals xs its){x:V}(e:xs[j]? =some x)(h:j<its.toArray.size):RelV x its.toArray[j]:=by
 obtain⟨u,h1,h2⟩:=r.get e
 have:its.toArray[j]? =some u:=by simpa using h1
 rw[Array.getElem?_eq_getElem h]at this
 cases this
 exact h2
theorem Cq(n:Nat)(ih:∀ {d e:D} {x y:V} {v u:Value},HasT X.K W H d x->HasT X.K W H e y->RelV x v->RelV y u->Xb n d=true->Xb n e=true->EqAt A s v u (Me d e)){its':List Value}(r:HasL X.K W H ds xs)(r':HasL X.K W H es ys)(v:Vals xs its)(v':Vals ys its')(g:∀ y∈ds,Xb n y=true)(g':∀ y∈es,Xb n y=true):
  ∀ j (h1:j<its.toArray.size) (h2:j<its'.toArray.size),EqAt A s its.toArray[j] its'.toArray[j] (Me (ds.getD j .non) (es.getD j .non)):=by
 intro j h1 h2
 have l1:j<ds.length:=by rw[r.length,v.length];simpa using h1
 have l2:j<es.length:=by rw[r'.length,v'.length];simpa using h2
 obtain⟨x,e1,q1⟩:=r.get (Po l1)
 obtain⟨y,e2,q2⟩:=r'.get (Po l2)
 exact ih (.inl q1) (.inl q2) (JD v e1 h1) (JD v' e2 h2) (g _ (mem_of_getElem? (Po l1))) (g' _ (mem_of_getElem? (Po l2)))
theorem HasT.view(I:Inv X pins σ H s){x:V}{v:Value}(h:HasT X.K W H d x)(rx:RelV x v)(hs:Xb n d=true):
  (d=.non/\v=.none)\/(∃ b,d=.bl b/\v=.bool b)\/(∃ b t,d=.int b/\v=.int b t)\/(∃ b t,d=.str b/\v=.str b t)\/
  (∃ ds a xs its m,n=m+1/\d=.tup ds/\x=.ref a/\v=.ref a/\HasL X.K W H ds xs/\Vals xs its/\s.heap.IsTuple a its.toArray/\∀ y∈ds,Xb m y=true)\/
  (∃ ds a xs its m,n=m+1/\d=.lst ds/\x=.ref a/\v=.ref a/\HasL X.K W H ds xs/\Vals xs its/\s.heap.IsList a its.toArray/\∀ y∈ds,Xb m y=true):=by
 rcases h.ref hs with⟨rfl,rfl⟩|⟨b,rfl,rfl⟩|⟨b,rfl,rfl⟩|⟨b,rfl,rfl⟩|⟨ds,a,xs,m,z,rfl,rfl,q,r,g⟩|⟨ds,a,xs,m,z,rfl,rfl,q,r,g⟩
 .exact .inl ⟨rfl,rx⟩
 .exact .inr (.inl ⟨b,rfl,rx⟩)
 .obtain⟨t,e⟩:=rx
  exact .inr (.inr (.inl ⟨b,t,rfl,e⟩))
 .obtain⟨t,e⟩:=rx
  exact .inr (.inr (.inr (.inl ⟨b,t,rfl,e⟩)))
 .obtain⟨its,rv,p,_⟩:=I.tuple q
  exact .inr (.inr (.inr (.inr (.inl ⟨ds,a,xs,its,m,z,rfl,rfl,rx,r,rv,p,g⟩))))
 .obtain⟨its,rv,p,_⟩:=I.list q
  exact .inr (.inr (.inr (.inr (.inr ⟨ds,a,xs,its,m,z,rfl,rfl,rx,r,rv,p.isList,g⟩))))
theorem OH(I:Inv X pins σ H s):∀ (n:Nat) (A:Around) {d e:D} {x y:V} {v u:Value},A.units+n<cLine->HasT X.K W H d x->HasT X.K W H e y->RelV x v->RelV y u->Xb n d=true->Xb n e=true->
  EqAt A s v u (Me d e)/\RcAt A s v u (Me d e)/\RcNeAt A s v u (!Me d e):=by
 intro n
 induction n with
 |zero=>
  intro A d e x y v u hu h1 h2 rx ry s1 s2
  rcases h1.view I rx s1 with⟨rfl,rfl⟩|⟨b,rfl,rfl⟩|⟨b,t,rfl,rfl⟩|⟨b,t,rfl,rfl⟩|⟨_,_,_,_,m,z,_⟩|⟨_,_,_,_,m,z,_⟩<;>
  rcases h2.view I ry s2 with⟨rfl,rfl⟩|⟨c,rfl,rfl⟩|⟨c,t',rfl,rfl⟩|⟨c,t',rfl,rfl⟩|⟨_,_,_,_,m',z',_⟩|⟨_,_,_,_,m',z',_⟩<;>first|(cases z;done)|(cases z';done)|skip
  .exact⟨EqAt.same _,RcAt.none_none,RcNeAt.none_none⟩
  .exact⟨EqAt.none_bool _,RcAt.none_bool _,RcNeAt.none_bool _⟩
  .exact⟨EqAt.none_int _ _,RcAt.none_int _ _,RcNeAt.none_int _ _⟩
  .exact⟨EqAt.none_str _ _,RcAt.none_str _ _,RcNeAt.none_str _ _⟩
  .exact⟨EqAt.bool_none _,RcAt.bool_none _,RcNeAt.bool_none _⟩
  .exact⟨EqAt.bool_bool _ _,RcAt.bool_bool _ _,RcNeAt.bool_bool _ _⟩
  .exact⟨EqAt.bool_int _ _ _,RcAt.bool_int _ _ _,RcNeAt.bool_int _ _ _⟩
  .exact⟨EqAt.bool_str _ _ _,RcAt.bool_str _ _ _,RcNeAt.bool_str _ _ _⟩
  .exact⟨EqAt.int_none _ _,RcAt.int_none _ _,RcNeAt.int_none _ _⟩
  .exact⟨EqAt.int_bool _ _ _,RcAt.int_bool _ _ _,RcNeAt.int_bool _ _ _⟩
  .exact⟨EqAt.int_int _ _ _ _,RcAt.int_int _ _ _ _,RcNeAt.int_int _ _ _ _⟩
  .exact⟨EqAt.int_str _ _ _ _,RcAt.int_str _ _ _ _,RcNeAt.int_str _ _ _ _⟩
  .exact⟨EqAt.str_none _ _,RcAt.str_none _ _,RcNeAt.str_none _ _⟩
  .exact⟨EqAt.str_bool _ _ _,RcAt.str_bool _ _ _,RcNeAt.str_bool _ _ _⟩
  .exact⟨EqAt.str_int _ _ _ _,RcAt.str_int _ _ _ _,RcNeAt.str_int _ _ _ _⟩
  .exact⟨EqAt.str_str _ _ _ _,RcAt.str_str _ _ _ _,RcNeAt.str_str _ _ _ _⟩
 |succ n ih=>
  intro A d e x y v u hu h1 h2 rx ry s1 s2
  have hu0:A.units<cLine:=by omega
  have hu1:A.in1.units+n<cLine:=by show A.units+1+n<cLine;omega
  have same:=λ(ee:x=y)=>PH I (n+1) h1 (ee▸h2) s1 s2
  rcases h1.view I rx s1 with⟨rfl,rfl⟩|⟨b,rfl,rfl⟩|⟨b,t,rfl,rfl⟩|⟨b,t,rfl,rfl⟩|⟨ds,a,xs,its,m,z,rfl,rfl,rfl,r,rv,p,g⟩|⟨ds,a,xs,its,m,z,rfl,rfl,rfl,r,rv,p,g⟩<;>
  rcases h2.view I ry s2 with⟨rfl,rfl⟩|⟨c,rfl,rfl⟩|⟨c,t',rfl,rfl⟩|⟨c,t',rfl,rfl⟩|⟨es,a',ys,its',m',z',rfl,rfl,rfl,r',rv',p2,g'⟩|⟨es,a',ys,its',m',z',rfl,rfl,rfl,r',rv',p2,g'⟩
  all_goals first|cases z|skip
  all_goals first|cases z'|skip
  .exact⟨EqAt.same _,RcAt.none_none,RcNeAt.none_none⟩
  .exact⟨EqAt.none_bool _,RcAt.none_bool _,RcNeAt.none_bool _⟩
  .exact⟨EqAt.none_int _ _,RcAt.none_int _ _,RcNeAt.none_int _ _⟩
  .exact⟨EqAt.none_str _ _,RcAt.none_str _ _,RcNeAt.none_str _ _⟩
  .exact⟨EqAt.none_tuple p2 hu0,RcAt.none_tuple p2 hu0,RcNeAt.none_tuple p2 hu0⟩
  .exact⟨EqAt.none_list p2 hu0,RcAt.none_list p2 hu0,RcNeAt.none_list p2 hu0⟩
  .exact⟨EqAt.bool_none _,RcAt.bool_none _,RcNeAt.bool_none _⟩
  .exact⟨EqAt.bool_bool _ _,RcAt.bool_bool _ _,RcNeAt.bool_bool _ _⟩
  .exact⟨EqAt.bool_int _ _ _,RcAt.bool_int _ _ _,RcNeAt.bool_int _ _ _⟩
  .exact⟨EqAt.bool_str _ _ _,RcAt.bool_str _ _ _,RcNeAt.bool_str _ _ _⟩
  .exact⟨EqAt.bool_tuple _ p2 hu0,RcAt.bool_tuple _ p2 hu0,RcNeAt.bool_tuple _ p2 hu0⟩
  .exact⟨EqAt.bool_list _ p2 hu0,RcAt.bool_list _ p2 hu0,RcNeAt.bool_list _ p2 hu0⟩
  .exact⟨EqAt.int_none _ _,RcAt.int_none _ _,RcNeAt.int_none _ _⟩
  .exact⟨EqAt.int_bool _ _ _,RcAt.int_bool _ _ _,RcNeAt.int_bool _ _ _⟩
  .exact⟨EqAt.int_int _ _ _ _,RcAt.int_int _ _ _ _,RcNeAt.int_int _ _ _ _⟩
  .exact⟨EqAt.int_str _ _ _ _,RcAt.int_str _ _ _ _,RcNeAt.int_str _ _ _ _⟩
  .exact⟨EqAt.int_tuple _ _ p2 hu0,RcAt.int_tuple _ _ p2 hu0,RcNeAt.int_tuple _ _ p2 hu0⟩
  .exact⟨EqAt.int_list _ _ p2 hu0,RcAt.int_list _ _ p2 hu0,RcNeAt.int_list _ _ p2 hu0⟩
  .exact⟨EqAt.str_none _ _,RcAt.str_none _ _,RcNeAt.str_none _ _⟩
  .exact⟨EqAt.str_bool _ _ _,RcAt.str_bool _ _ _,RcNeAt.str_bool _ _ _⟩
  .exact⟨EqAt.str_int _ _ _ _,RcAt.str_int _ _ _ _,RcNeAt.str_int _ _ _ _⟩
  .exact⟨EqAt.str_str _ _ _ _,RcAt.str_str _ _ _ _,RcNeAt.str_str _ _ _ _⟩
  .exact⟨EqAt.str_tuple _ _ p2 hu0,RcAt.str_tuple _ _ p2 hu0,RcNeAt.str_tuple _ _ p2 hu0⟩
  .exact⟨EqAt.str_list _ _ p2 hu0,RcAt.str_list _ _ p2 hu0,RcNeAt.str_list _ _ p2 hu0⟩
  .exact⟨EqAt.tuple_none p hu0,RcAt.tuple_none p hu0,RcNeAt.tuple_none p hu0⟩
  .exact⟨EqAt.tuple_bool _ p hu0,RcAt.tuple_bool _ p hu0,RcNeAt.tuple_bool _ p hu0⟩
  .exact⟨EqAt.tuple_int _ _ p hu0,RcAt.tuple_int _ _ p hu0,RcNeAt.tuple_int _ _ p hu0⟩
  .exact⟨EqAt.tuple_str _ _ p hu0,RcAt.tuple_str _ _ p hu0,RcNeAt.tuple_str _ _ p hu0⟩
  .have he:=Cq (A:=A.in1) n (λh1 h2 rx ry s1 s2=>(ih A.in1 hu1 h1 h2 rx ry s1 s2).1) r r' rv rv' g g'
   have l1:its.toArray.size=ds.length:=by rw[size_toArray,<-rv.length,r.length]
   have l2:its'.toArray.size=es.length:=by rw[size_toArray,<-rv'.length,r'.length]
   have ee:((range (min its.toArray.size its'.toArray.size)).all (λj=>Me (ds.getD j .non) (es.getD j .non))&&its.toArray.size==its'.toArray.size)=Me (.tup ds) (.tup es):=by
    rw[Me,l1,l2]
    by_cases hl:ds.length=es.length
    .rw[Rm ds es hl,<-hl];simp
    .rw[Gu ds es hl];simp[hl]
   have rc:=RcAt.tuples p p2 hu0 he
   rw[ee]at rc
   refine⟨?_,rc,?_⟩
   .by_cases ha:a=a'
    .subst ha
     rw[same rfl]
     exact EqAt.same _
    .exact EqAt.of_refs ha rc
   .have rn:=RcNeAt.tuples p p2 hu0 he
    rw[ee]at rn
    exact rn
  .exact⟨EqAt.tuple_list p p2 hu0,RcAt.tuple_list p p2 hu0,RcNeAt.tuple_list p p2 hu0⟩
  .exact⟨EqAt.list_none p hu0,RcAt.list_none p hu0,RcNeAt.list_none p hu0⟩
  .exact⟨EqAt.list_bool _ p hu0,RcAt.list_bool _ p hu0,RcNeAt.list_bool _ p hu0⟩
  .exact⟨EqAt.list_int _ _ p hu0,RcAt.list_int _ _ p hu0,RcNeAt.list_int _ _ p hu0⟩
  .exact⟨EqAt.list_str _ _ p hu0,RcAt.list_str _ _ p hu0,RcNeAt.list_str _ _ p hu0⟩
  .exact⟨EqAt.list_tuple p p2 hu0,RcAt.list_tuple p p2 hu0,RcNeAt.list_tuple p p2 hu0⟩
  .have he:=Cq (A:=A.in1) n (λh1 h2 rx ry s1 s2=>(ih A.in1 hu1 h1 h2 rx ry s1 s2).1) r r' rv rv' g g'
   have l1:its.toArray.size=ds.length:=by rw[size_toArray,<-rv.length,r.length]
   have l2:its'.toArray.size=es.length:=by rw[size_toArray,<-rv'.length,r'.length]
   have both:RcAt A s (.ref a) (.ref a') (Me (.lst ds) (.lst es))/\RcNeAt A s (.ref a) (.ref a') (!Me (.lst ds) (.lst es)):=by
    by_cases hl:ds.length=es.length
    .have hsz:its.toArray.size=its'.toArray.size:=by rw[l1,l2,hl]
     have rc:=RcAt.lists p p2 hsz hu0 he
     have rn:=RcNeAt.lists p p2 hsz hu0 he
     rw[l1,<-Rm ds es hl]at rc rn
     rw[Me]
     exact⟨rc,rn⟩
    .have hsz:(its.toArray.size != its'.toArray.size)=true:=by rw[l1,l2];simpa using hl
     rw[Me,Gu ds es hl]
     exact⟨RcAt.lists_lengths p p2 hsz hu0,RcNeAt.lists_lengths p p2 hsz hu0⟩
   refine⟨?_,both⟩
   by_cases ha:a=a'
   .subst ha
    rw[same rfl]
    exact EqAt.same _
   .exact EqAt.of_refs ha both.1
theorem RE.int(h:RE K xw W H (.ok (.int i)) Q):Q (.int i) H:=h _ H (Same.refl H) (by rw[Has])
theorem RE.bl{i:Bool}(h:RE K xw W H (.ok (.bl i)) Q):Q (.bl i) H:=h _ H (Same.refl H) (by rw[Has])
theorem RE.str{i:Str}(h:RE K xw W H (.ok (.str i)) Q):Q (.str i) H:=h _ H (Same.refl H) (by rw[Has])
theorem RE.non(h:RE K xw W H (.ok .non) Q):Q .non H:=h _ H (Same.refl H) (by rw[Has])
theorem Vd{o:HO}(h:H a=none):Same H (Eb H a o):=λb u e=>by rw[Da (Ka e h)];exact e
theorem RE.newT{p:Addr}(h:RE K xw W H (.ok (.tup ds)) Q)(w:WL W H)(hp:H p=none)(q:HasL K W H ds xs):Q (.ref p) (Eb H p (.tup xs)):=
 h _ _ (Vd hp) (by rw[Has];exact⟨p,xs,rfl,.of Ma,q.same (Vd hp) w⟩)
theorem IP(w:WL W H)(h:H a=none):¬ W a:=λz=>by
 obtain⟨xs,e,_⟩:=w a z
 rw[h]at e;cases e
variable{a b:Expr}{es:List Expr}{R:V->Hp->Prop}{o:CmpOp}{fa fb f:Ba->Res D}{ga:Ba->Res Bool}{lo hi:Option Expr}{fl fh:Ba->Res (Option Int)}{p2:Pos}{op:D->D->Res D}
section
variable {fc:Ba->Res D}
theorem DE.p(h:DE X xw e f):DP X xw e f:=PE.weak h λσ H Q ⟨W₀,H₀,W,δ,st,q⟩=>⟨W₀,H₀,W,δ,st,by
 cases hf:f δ with
 |ok d=>rw[hf]at q;exact λv H' k h=>q v H' k (.inl h)
 |ex c fs=>rw[hf]at q;exact q
 |stuck=>rw[hf]at q;exact q⟩
theorem DF.de{f:Ba->Res (List D)}(h:DF X xw e f):DE X xw e (λδ=>(f δ).bind λds=>.ok (.lst ds)):=PE.weak h λσ H Q ⟨W₀,H₀,W,δ,st,q⟩=>⟨W₀,H₀,W,δ,st,by
 dsimp only at q
 cases hf:f δ with
 |ok d=>
  rw[hf]at q
  refine λa xs H1 k n r=>q _ _ (k.trans (Vd n)) ?_
  have w1:=st.fr.wl.same k
  rw[Has]
  exact⟨a,xs,rfl,.inl ⟨Ma,IP w1 n⟩,r.same (Vd n) w1⟩
 |ex c fs=>rw[hf]at q;exact q
 |stuck=>rw[hf]at q;exact q⟩
def Fa(i:Nat)(δ:Ba):Res D:=match δ[i]? with
 |some (some (.d x))=>.ok x
 |_=>.stuck
def Ea(i:Nat)(δ:Ba):Res D:=match δ[i]? with
 |some (some (.d x))=>.ok x
 |some (some (.o ds))=>.ok (.lst ds)
 |_=>.stuck
theorem DU(i:Nat)(hN:X.N[i]? =some x:=by rfl)(hv:Br X.env.scope x:=by first|exact Or.inl rfl|exact Or.inr (Or.inl rfl)|exact Or.inr (Or.inr rfl))(hd:(x==("__debug__":Str))=false:=by decide)(hcd:(x==("__classdict__":Str))=false:=by decide):DE X xw (.Name x pos) (Fa i):=PE.weak (Pd hN hv hd hcd) λσ H Q ⟨W₀,H₀,W,δ,st,q⟩=>by
 unfold Fa at q
 split at q
 .rename_i d h
  obtain⟨v,e,r⟩:=st.at' i _ h
  exact⟨v,e,q v H (Same.refl H) r⟩
 .exact q.elim
theorem JU(i:Nat)(hN:X.N[i]? =some x:=by rfl)(hv:Br X.env.scope x:=by first|exact Or.inl rfl|exact Or.inr (Or.inl rfl)|exact Or.inr (Or.inr rfl))(hd:(x==("__debug__":Str))=false:=by decide)(hcd:(x==("__classdict__":Str))=false:=by decide):DP X xw (.Name x pos) (Ea i):=PE.weak (Pd hN hv hd hcd) λσ H Q ⟨W₀,H₀,W,δ,st,q⟩=>by
 unfold Ea at q
 split at q
 .rename_i d h
  obtain⟨v,e,r⟩:=st.at' i _ h
  exact⟨v,e,q v H (Same.refl H) (.inl r)⟩
 .rename_i ds h
  obtain⟨v,e,a,xs,r1,r2,r3,r4,r5⟩:=st.at' i _ h
  exact⟨v,e,q v H (Same.refl H) (.inr ⟨ds,a,xs,rfl,r1,r4,r5⟩)⟩
 .exact q.elim
theorem UT{j}:DE X xw (.Constant (.int i) j pos) (λ_=>.ok (.int i)):=PE.weak XJ λσ H Q ⟨_,_,_,_,_,q⟩=>q.int
theorem C0{i:Bool}{j}:DE X xw (.Constant (.bool i) j pos) (λ_=>.ok (.bl i)):=PE.weak E1 λσ H Q ⟨_,_,_,_,_,q⟩=>q.bl
theorem AU{i:Str}{j}:DE X xw (.Constant (.str i) j pos) (λ_=>.ok (.str i)):=PE.weak EK λσ H Q ⟨_,_,_,_,_,q⟩=>q.str
theorem YT{j}:DE X xw (.Constant .none j pos) (λ_=>.ok .non):=PE.weak FX λσ H Q ⟨_,_,_,_,_,q⟩=>q.non
def G4(X:Cx)(xw:XW)(r:R2)(op:D->D->Res D):Prop:=∀ (W:WS) (H:Hp) (d e:D) (v u:V) (Q:VK),WL W H->HasT X.K W H d v->HasT X.K W H e u->RE X.K xw W H (op d e) Q->r v u H Q
theorem Mj{R:V->V->Hp->Prop}(st:StHas X.K W₀ H₀ W H σ δ)(q:RE X.K xw W H ((fa δ).bind λx=>(fb δ).bind λy=>op x y) Q)(h:∀ H2 d e v u,Same H H2->WL W H2->HasT X.K W H2 d v->HasT X.K W H2 e u->fa δ= .ok d->fb δ= .ok e->RE X.K xw W H2 (op d e) Q->R v u H2):
  NR X.K xw fa σ H λx H1=>NR X.K xw fb σ H1 λy H2=>R x y H2:=by
 refine⟨W₀,H₀,W,δ,st,?_⟩
 cases h1:fa δ with
 |stuck=>rw[h1]at q;exact q
 |ex c fs=>rw[h1]at q;exact q
 |ok d=>
  rw[h1]at q
  intro v H1 k1 hv
  refine⟨W₀,H₀,W,δ,st.same k1,?_⟩
  have q':RE X.K xw W H ((fb δ).bind λy=>op d y) Q:=q
  cases h2:fb δ with
  |stuck=>rw[h2]at q';exact q'
  |ex c fs=>rw[h2]at q';exact λH2 k2=>q' H2 (k1.trans k2)
  |ok e=>
   rw[h2]at q'
   intro u H2 k2 hu
   have q2:RE X.K xw W H (op d e) Q:=q'
   exact h H2 d e v u (k1.trans k2) (st.fr.wl.same (k1.trans k2)) (hv.same k2 (st.fr.wl.same k1)) hu h1 h2 (q2.same (k1.trans k2))
theorem Nk{o:Operator}{r:R2}(ho:OpR X (binaryOp o) r)(hr:G4 X xw r op)(ha:DP X xw a fa)(hb:DP X xw b fb):
  DE X xw (.BinOp a o b pos) (λδ=>(fa δ).bind λx=>(fb δ).bind λy=>op x y):=
 PE.weak (MS ho ha hb) λσ H Q ⟨W₀,H₀,W,δ,st,q⟩=>Mj st q λH2 d e v u k w hv hu _ _ q2=>hr W H2 d e v u Q w hv hu q2
theorem TJ:OpR X (binaryOp .Add) (λx y H Q=>∃ a b ys,x=.ref a/\y=.ref b/\SqT X.K H a []/\SqT X.K H b ys/\Q (.ref b) H):=by
 intro pins s σ H x y v u Q I rx ry h
 obtain⟨a,b,ys,rfl,rfl,ha,hb,q⟩:=h
 cases rx
 cases ry
 obtain⟨its,r1,p1,_⟩:=I.tuple ha
 obtain⟨its2,r2,p2,_⟩:=I.tuple hb
 have e0:its= []:=r1.nil_iff.mpr rfl
 subst e0
 obtain⟨⟨cls,dd,data,sl⟩,ho,hc,n,hd⟩:=id p1
 obtain⟨⟨cls2,dd2,data2,sl2⟩,ho2,hc2,n2,hd2⟩:=id p2
 simp only at hc hd hc2 hd2
 subst hc hd hc2 hd2
 exact concat_meets ⟨_,ho,rfl⟩ ⟨_,ho2,rfl⟩ noFill_tuple_add seq_tuple_add PySem.F.slot_tuple_add PySem.F.entry_tuple_add (PySem.F.args_tuple_add_2 _ _)
   (tuple_addW0 a b _ its2.toArray n n2 dd dd2 sl sl2 (by simp)) ⟨ho,ho2,⟨.ref b,H,I,rfl,q⟩⟩
def Ad:D->D->Res D
 | .int i,.int j=>.ok (.int (i+j))
 | .str x,.str y=>@ite (Res D) (x.length+y.length<=sizeLine) (propDecidable _) (.ok (.str (x++y))) .stuck
 | .tup xs,.tup ys=>@ite (Res D) (xs.length+ys.length<=sizeLine) (propDecidable _) (.ok (.tup (xs++ys))) .stuck
 |_,_=>.stuck
theorem QT(ha:DP X xw a fa)(hb:DP X xw b fb):DE X xw (.BinOp a .Add b pos) (λδ=>(fa δ).bind λx=>(fb δ).bind λy=>Ad x y):=by
 refine Nk ((NW.or LA).or (TJ.or OP)) (λW H d e v u Q w hv hu q=>?_) ha hb
 unfold Ad at q
 split at q
 .exact .inl (.inl ⟨_,_,hv.int,hu.int,q.int⟩)
 .split at q
  .rename_i hz
   exact .inl (.inr ⟨_,_,hv.str,hu.str,hz,q.str⟩)
  .exact q.elim
 .rename_i ds es
  split at q
  .rename_i hz
   obtain⟨a1,xs,e1,s1,r1⟩:=hv.tup
   obtain⟨a2,ys,e2,s2,r2⟩:=hu.tup
   by_cases hx:xs= []
   .subst hx
    have hd:ds= []:=by
     have:=r1.length
     exact List.eq_nil_of_length_eq_zero (by simpa using this)
    subst hd
    refine .inr (.inl ⟨a1,a2,ys,e1,e2,s1,s2,q _ H (Same.refl H) ?_⟩)
    rw[Has];exact⟨a2,ys,rfl,s2,r2⟩
   .refine .inr (.inr ⟨a1,a2,xs,ys,e1,e2,s1,s2,hx,by rw[<-r1.length,<-r2.length];exact hz,λhy=>?_,λ_ p hp=>q.newT w hp (r1.append r2)⟩)
    subst hy
    have he:es= []:=by
     have:=r2.length
     exact List.eq_nil_of_length_eq_zero (by simpa using this)
    subst he
    refine q _ H (Same.refl H) ?_
    rw[Has,append_nil];exact⟨a1,xs,rfl,s1,r1⟩
  .exact q.elim
 .exact q.elim
def Em:D->D->Res D
 | .int i,.int j=>.ok (.int (i-j))
 |_,_=>.stuck
theorem BU(ha:DP X xw a fa)(hb:DP X xw b fb):DE X xw (.BinOp a .Sub b pos) (λδ=>(fa δ).bind λx=>(fb δ).bind λy=>Em x y):=by
 refine Nk WW (λW H d e v u Q w hv hu q=>?_) ha hb
 unfold Em at q
 split at q
 .exact⟨_,_,hv.int,hu.int,q.int⟩
 .exact q.elim
def Mc:D->D->Res D
 | .int i,.int j=>@ite (Res D) (0<j) (propDecidable _) (.ok (.int (i%j))) .stuck
 |_,_=>.stuck
theorem WT(ha:DP X xw a fa)(hb:DP X xw b fb):DE X xw (.BinOp a .Mod b pos) (λδ=>(fa δ).bind λx=>(fb δ).bind λy=>Mc x y):=by
 refine Nk RW (λW H d e v u Q w hv hu q=>?_) ha hb
 unfold Mc at q
 split at q
 .split at q
  .rename_i hj
   exact⟨_,_,hv.int,hu.int,hj,q.int⟩
  .exact q.elim
 .exact q.elim
def Te:D->D->Res D
 | .int i,.int j=>@ite (Res D) (0<j/\j<1073741824) (propDecidable _) (.ok (.int (i / j))) .stuck
 |_,_=>.stuck
theorem AN(ha:DP X xw a fa)(hb:DP X xw b fb):DE X xw (.BinOp a .FloorDiv b pos) (λδ=>(fa δ).bind λx=>(fb δ).bind λy=>Te x y):=by
 refine Nk PP (λW H d e v u Q w hv hu q=>?_) ha hb
 unfold Te at q
 split at q
 .split at q
  .rename_i hj
   exact⟨_,_,hv.int,hu.int,hj,q.int⟩
  .exact q.elim
 .exact q.elim
def WF:D->D->Res D
 | .int i,.int j=>@ite (Res D) (0<=j/\j<=1000/\i.natAbs<2^64) (propDecidable _) (.ok (.int (i^j.toNat))) .stuck
 |_,_=>.stuck
theorem ZT(ha:DP X xw a fa)(hb:DP X xw b fb):DE X xw (.BinOp a .Pow b pos) (λδ=>(fa δ).bind λx=>(fb δ).bind λy=>WF x y):=by
 refine Nk VW (λW H d e v u Q w hv hu q=>?_) ha hb
 unfold WF at q
 split at q
 .split at q
  .rename_i hj
   exact⟨_,_,hv.int,hu.int,⟨hj.1,by omega,hj.2.2⟩,q.int⟩
  .exact q.elim
 .exact q.elim
def W0:D->D->Res D
 | .int i,.int j=>@ite (Res D) ((-(2^64)<i/\i<2^64)\/(-(2^64)<j/\j<2^64)) (propDecidable _) (.ok (.int (i*j))) .stuck
 |_,_=>.stuck
def A5:D->Res D
 | .int i=>.ok (.int (-i))
 |_=>.stuck
theorem Ai{op:D->Res D}(st:StHas X.K W₀ H₀ W H σ δ)(q:RE X.K xw W H ((fa δ).bind op) Q)(h:∀ H2 d v,Same H H2->WL W H2->StHas X.K W₀ H₀ W H2 σ δ->HasT X.K W H2 d v->fa δ= .ok d->RE X.K xw W H2 (op d) Q->R v H2):
  NR X.K xw fa σ H λx H1=>R x H1:=by
 refine⟨W₀,H₀,W,δ,st,?_⟩
 cases h1:fa δ with
 |stuck=>rw[h1]at q;exact q
 |ex c fs=>rw[h1]at q;exact q
 |ok d=>
  rw[h1]at q
  intro v H1 k1 hv
  exact h H1 d v k1 (st.fr.wl.same k1) (st.same k1) hv h1 (RE.same (r:=op d) q k1)
def Cj(d e:D):Res D:=if(Xb 40 d&&Xb 40 e)=true then .ok (.bl (Me d e)) else .stuck
def Jq(d e:D):Res D:=if(Xb 40 d&&Xb 40 e)=true then .ok (.bl (!Me d e)) else .stuck
def ZO:D->D->Res D
 | .int i,.int j=>.ok (.bl (decide (i<j)))
 |_,_=>.stuck
def V0:D->D->Res D
 | .int i,.int j=>.ok (.bl (decide (i<=j)))
 |_,_=>.stuck
def BI:D->D->Res D
 | .int i,.int j=>.ok (.bl (decide (j<i)))
 |_,_=>.stuck
def K7:D->D->Res D
 | .int i,.int j=>.ok (.bl (decide (j<=i)))
 |_,_=>.stuck
structure CmpR(X:Cx)(xw:XW)(o:CmpOp)(op:D->D->Res D):Prop where
 ex:∃ r,OpR X (compareOp o) r/\G4 X xw r op
 bl:∀ d e z,op d e=.ok z->∃ k,z=.bl k
 nm:o≠ .In/\o≠ .NotIn
theorem OW(hu:X.A.units+40<cLine):OpR X (compareOp .Eq) (λx y H Q=>∃ W d e,HasT X.K W H d x/\HasT X.K W H e y/\Xb 40 d=true/\Xb 40 e=true/\Q (.bl (Me d e)) H):=by
 intro pins s σ H x y v u Q I rx ry h
 obtain⟨W,d,e,h1,h2,s1,s2,q⟩:=h
 exact(OH I 40 X.A hu h1 h2 rx ry s1 s2).2.1 _ _ _ _ ⟨.bl _,H,I,rfl,q⟩
theorem UW(hu:X.A.units+40<cLine):OpR X (compareOp .NotEq) (λx y H Q=>∃ W d e,HasT X.K W H d x/\HasT X.K W H e y/\Xb 40 d=true/\Xb 40 e=true/\Q (.bl (!Me d e)) H):=by
 intro pins s σ H x y v u Q I rx ry h
 obtain⟨W,d,e,h1,h2,s1,s2,q⟩:=h
 exact(OH I 40 X.A hu h1 h2 rx ry s1 s2).2.2 _ _ _ _ ⟨.bl _,H,I,rfl,q⟩
theorem Lp(hu:X.A.units+40<cLine):CmpR X xw .Eq Cj:=⟨⟨_,OW hu,λW H d e v u Q w hv hu q=>by
  unfold Cj at q
  split at q
  .rename_i hs
   rw[and_eq_true]at hs
   exact⟨W,d,e,hv,hu,hs.1,hs.2,q.bl⟩
  .exact q.elim⟩,λd e z h=>by unfold Cj at h;split at h<;>cases h;exact⟨_,rfl⟩,by decide,by decide⟩
theorem VG(hu:X.A.units+40<cLine):CmpR X xw .NotEq Jq:=⟨⟨_,UW hu,λW H d e v u Q w hv hu q=>by
  unfold Jq at q
  split at q
  .rename_i hs
   rw[and_eq_true]at hs
   exact⟨W,d,e,hv,hu,hs.1,hs.2,q.bl⟩
  .exact q.elim⟩,λd e z h=>by unfold Jq at h;split at h<;>cases h;exact⟨_,rfl⟩,by decide,by decide⟩
theorem B0:CmpR X xw .Lt ZO:=⟨⟨_,D1,λW H d e v u Q w hv hu q=>by
  unfold ZO at q
  split at q
  .exact⟨_,_,hv.int,hu.int,q.bl⟩
  .exact q.elim⟩,λd e z h=>by unfold ZO at h;split at h<;>cases h;exact⟨_,rfl⟩,by decide,by decide⟩
theorem SM:CmpR X xw .Gt BI:=⟨⟨_,B1,λW H d e v u Q w hv hu q=>by
  unfold BI at q
  split at q
  .exact⟨_,_,hv.int,hu.int,q.bl⟩
  .exact q.elim⟩,λd e z h=>by unfold BI at h;split at h<;>cases h;exact⟨_,rfl⟩,by decide,by decide⟩
def Aq(d:D):Res D:=match d with
 | .non=>.ok (.bl true)
 |_=>.ok (.bl false)
theorem HasT.isN{v:V}(h:HasT K W H d v)(hd:d≠ .non):v≠ .non:=by
 rintro rfl
 rcases h with h|⟨ds,a,xs,h1,h2,_⟩
 .cases d with
  |non=>exact hd rfl
  |bl b=>rw[Has]at h;cases h
  |int b=>rw[Has]at h;cases h
  |str b=>rw[Has]at h;cases h
  |tup b=>rw[Has]at h;obtain⟨_,_,z,_⟩:=h;cases z
  |lst b=>rw[Has]at h;obtain⟨_,_,z,_⟩:=h;cases z
  |dct k b=>rw[Has]at h;obtain⟨_,_,z,_⟩:=h;cases z
  |exc k b=>rw[Has]at h;obtain⟨_,_,_,z,_⟩:=h;cases z
  |obj c k b=>rw[Has]at h;obtain⟨_,_,_,_,z,_⟩:=h;cases z
 .cases h2
theorem ST(hc:CmpR X xw o op)(ha:DP X xw a fa)(hb:DP X xw b fb):DE X xw (.Compare a [o] [b] pos) (λδ=>(fa δ).bind λx=>(fb δ).bind λy=>op x y):=by
 obtain⟨⟨r,ho,hr⟩,_,h1,h2⟩:=hc
 exact PE.weak (QC ho ha hb (MJ b h1 h2)) λσ H Q ⟨W₀,H₀,W,δ,st,q⟩=>Mj st q λH2 d e v u k w hv hu _ _ q2=>hr W H2 d e v u Q w hv hu q2
def Nn:D->Res Bool
 | .bl k=>.ok k
 |_=>.stuck
theorem DE.t_of(ht:PT X e (tB (QS X.K xw f))):DT X xw e (λδ=>(f δ).bind Nn):=PT.weak ht λσ H Q ⟨W₀,H₀,W,δ,st,q⟩=>by
 dsimp only at q
 refine⟨W₀,H₀,W,δ,st,?_⟩
 cases h1:f δ with
 |stuck=>rw[h1]at q;exact q
 |ex c fs=>rw[h1]at q;exact q
 |ok d=>
  rw[h1]at q
  intro v H1 k1 hv
  have q':RT xw H (Nn d) Q:=q
  unfold Nn at q'
  split at q'
  .rw[Has]at hv
   exact⟨_,hv,q' H1 k1⟩
  .exact q'.elim
theorem DE.t(h:DE X xw e f)(he:∀ whole,isTrue e X.env whole=(do let v <-whole;standAt e.pos;holding [v] (truthy v)):=by intro _;rfl):DT X xw e (λδ=>(f δ).bind Nn):=DE.t_of (RX h he)
theorem PU(hc:CmpR X xw o op)(ha:DP X xw a fa)(hb:DP X xw b fb):DT X xw (.Compare a [o] [b] pos) (λδ=>((fa δ).bind λx=>(fb δ).bind λy=>op x y).bind Nn):=by
 obtain⟨⟨r,ho,hr⟩,_,h1,h2⟩:=hc
 refine DE.t_of (f:=λδ=>(fa δ).bind λx=>(fb δ).bind λy=>op x y) (PT.weak (Xo ho ha hb (MJ b h1 h2)) λσ H Q q=>?_)
 obtain⟨W₀,H₀,W,δ,st,q⟩:=q
 exact Mj st q λH2 d e v u k w hv hu _ _ q2=>hr W H2 d e v u _ w hv hu q2
theorem QU{j pos'}(ha:DP X xw a fa):DT X xw (.Compare a [.Is] [.Constant .none j pos'] pos) (λδ=>((fa δ).bind Aq).bind Nn):=
 DE.t_of (f:=λδ=>(fa δ).bind Aq) (PT.weak (LK (ZW ha)) λσ H Q q=>by
  obtain⟨W₀,H₀,W,δ,st,q⟩:=q
  exact Ai st q λH2 d v k w st2 hv _ q2=>by
   unfold Aq at q2
   split at q2
   .rw[hv.non];exact q2.bl
   .rename_i hd
    rw[decide_eq_false (hv.isN hd)];exact q2.bl)
theorem DW.t{g:Ba->Res Bool}(h:DW X xw e g):DT X xw e g:=PW.pt h
def Np(op op':D->D->Res D)(x y:D)(z:Res D):Res D:=(op x y).bind λk=>match k with
 | .bl true=>z.bind λw=>op' y w
 | .bl false=>.ok (.bl false)
 |_=>.stuck
def AT(x:Res Bool)(y:Res Bool):Res Bool:=x.bind λk=>if k=true then y else .ok false
def D5(x:Res Bool)(y:Res Bool):Res Bool:=x.bind λk=>if k=true then .ok true else y
variable {gb:Ba->Res Bool}{rest:List Expr}
theorem An{k:Bool->Res Bool}{Q:Bool->Hp->Prop}{R:Bool->Hp->Prop}(st:StHas X.K W₀ H₀ W H σ δ)(q:RT xw H ((ga δ).bind k) Q)(h:∀ H2 c,Same H H2->StHas X.K W₀ H₀ W H2 σ δ->ga δ= .ok c->RT xw H2 (k c) Q->R c H2):QY X.K xw ga σ H R:=by
 refine⟨W₀,H₀,W,δ,st,?_⟩
 cases h1:ga δ with
 |stuck=>rw[h1]at q;exact q
 |ex c fs=>rw[h1]at q;exact q
 |ok c=>
  rw[h1]at q
  exact λH1 k1=>h H1 c k1 (st.same k1) h1 (RT.same (r:=k c) q k1)
theorem UN(ha:DT X xw a ga):DW X xw (.BoolOp .And [a] pos) ga:=VQ ha
theorem VU(ha:DT X xw a ga):DW X xw (.BoolOp .Or [a] pos) ga:=UX ha
theorem UU(ha:DT X xw a ga)(hb:DW X xw (.BoolOp .And (b::rest) pos) gb):DW X xw (.BoolOp .And (a::b::rest) pos) (λδ=>AT (ga δ) (gb δ)):=
 PW.weak (TX ha hb) λσ H Q ⟨W₀,H₀,W,δ,st,q⟩=>An st q λH2 c k st2 _ q2=>by
  cases c with
  |true=>rw[if_pos rfl]at q2 ⊢;exact⟨W₀,H₀,W,δ,st2,q2⟩
  |false=>rw[if_neg Bool.false_ne_true]at q2 ⊢;exact q2 H2 (Same.refl _)
theorem J0(ha:DT X xw a ga)(hb:DW X xw (.BoolOp .Or (b::rest) pos) gb):DW X xw (.BoolOp .Or (a::b::rest) pos) (λδ=>D5 (ga δ) (gb δ)):=
 PW.weak (O1 ha hb) λσ H Q ⟨W₀,H₀,W,δ,st,q⟩=>An st q λH2 c k st2 _ q2=>by
  cases c with
  |true=>rw[if_pos rfl]at q2 ⊢;exact q2 H2 (Same.refl _)
  |false=>rw[if_neg Bool.false_ne_true]at q2 ⊢;exact⟨W₀,H₀,W,δ,st2,q2⟩
theorem RU(ha:DT X xw a ga):DT X xw (.UnaryOp .Not a pos) (λδ=>(ga δ).bind λk=>.ok (!k)):=
 PT.weak (QX ha) λσ H Q ⟨W₀,H₀,W,δ,st,q⟩=>An st q λH2 c k st2 _ q2=>q2 H2 (Same.refl _)
def XZ(x:Res D)(y:Res D):Res D:=x.bind λk=>match k with
 | .bl true=>y
 | .bl false=>.ok (.bl false)
 |_=>.stuck
def V6(x:Res D)(y:Res D):Res D:=x.bind λk=>match k with
 | .bl true=>.ok (.bl true)
 | .bl false=>y
 |_=>.stuck
def B5:D->Res D
 | .bl k=>.ok (.bl (!k))
 |_=>.stuck
theorem Zs{op:D->Res D}(st:StHas X.K W₀ H₀ W H σ δ)(q:RE X.K xw W H ((fa δ).bind op) Q)(h:∀ H2 d v,Same H H2->WL W H2->StHas X.K W₀ H₀ W H2 σ δ->Has X.K W H2 d v->fa δ= .ok d->RE X.K xw W H2 (op d) Q->R v H2):
  QS X.K xw fa σ H λx H1=>R x H1:=by
 refine⟨W₀,H₀,W,δ,st,?_⟩
 cases h1:fa δ with
 |stuck=>rw[h1]at q;exact q
 |ex c fs=>rw[h1]at q;exact q
 |ok d=>
  rw[h1]at q
  intro v H1 k1 hv
  exact h H1 d v k1 (st.fr.wl.same k1) (st.same k1) hv h1 (RE.same (r:=op d) q k1)
variable {fs:Ba->Res (List D)}
theorem OT:DA X xw [] (λ_=>.ok []):=PA.weak Nh λσ H Q ⟨W₀,H₀,W,δ,st,q⟩=>q [] H (Same.refl H) HasL.nil
def TB(x:Res D)(r:Res (List D)):Res (List D):=x.bind λd=>r.bind λds=>.ok (d::ds)
theorem XM(ha:DE X xw a fa)(hr:DA X xw es fs)(hs:starEach (a::es) X.env=(false,eval a X.env)::starEach es X.env:=by rfl):DA X xw (a::es) (λδ=>TB (fa δ) (fs δ)):=
 PA.weak (Hd ha hr hs) λσ H Q ⟨W₀,H₀,W,δ,st,q⟩=>by
  refine⟨W₀,H₀,W,δ,st,?_⟩
  unfold TB at q
  dsimp only at q
  cases h1:fa δ with
  |stuck=>rw[h1]at q;exact q
  |ex c fs=>rw[h1]at q;exact q
  |ok d=>
   rw[h1]at q
   intro v H1 k1 hv
   refine⟨W₀,H₀,W,δ,st.same k1,?_⟩
   have q':RA X.K xw W H ((fs δ).bind λds=>.ok (d::ds)) Q:=q
   cases h2:fs δ with
   |stuck=>rw[h2]at q';exact q'
   |ex c gs=>rw[h2]at q';exact λH2 k2=>q' H2 (k1.trans k2)
   |ok ds=>
    rw[h2]at q'
    intro vs H2 k2 hvs
    have q2:RA X.K xw W H (.ok (d::ds)) Q:=q'
    exact q2 (v::vs) H2 (k1.trans k2) (HasL.cons (hv.same k2 (st.fr.wl.same k1)) hvs)
theorem Qh{op:List D->Res D}{R:List V->Hp->Prop}(st:StHas X.K W₀ H₀ W H σ δ)(q:RE X.K xw W H ((fs δ).bind op) Q)(h:∀ H2 ds vs,Same H H2->WL W H2->StHas X.K W₀ H₀ W H2 σ δ->HasL X.K W H2 ds vs->fs δ= .ok ds->RE X.K xw W H2 (op ds) Q->R vs H2):
  W5 X.K xw fs σ H λx H1=>R x H1:=by
 refine⟨W₀,H₀,W,δ,st,?_⟩
 cases h1:fs δ with
 |stuck=>rw[h1]at q;exact q
 |ex c gs=>rw[h1]at q;exact q
 |ok d=>
  rw[h1]at q
  intro v H1 k1 hv
  exact h H1 d v k1 (st.fr.wl.same k1) (st.same k1) hv h1 (RE.same (r:=op d) q k1)
def Cf(ds:List D):Res D:=@ite (Res D) (ds.length<=1000) (propDecidable _) (.ok (.tup ds)) .stuck
theorem Hx:(1000:Nat)<=sizeLine:=by rw[sizeLine_eq];decide
theorem CU{x1}(h:DA X xw es fs):DE X xw (.Tuple es x1 pos) (λδ=>(fs δ).bind Cf):=
 PE.weak (FK h) λσ H Q ⟨W₀,H₀,W,δ,st,q⟩=>Qh st q λH2 ds vs k w st2 hv _ q2=>by
  unfold Cf at q2
  split at q2
  .rename_i hz
   exact⟨by rw[<-hv.length];exact le_trans hz Hx,λp hp=>q2.newT w hp hv⟩
  .exact q2.elim
def Bf(ds:List D):Res (List D):=@ite (Res (List D)) (ds.length<=1000) (propDecidable _) (.ok ds) .stuck
theorem FU(h:DA X xw es fs):DF X xw (.List es pos) (λδ=>(fs δ).bind Bf):=
 PE.weak (EX h) λσ H Q ⟨W₀,H₀,W,δ,st,q⟩=>by
  dsimp only at q
  refine⟨W₀,H₀,W,δ,st,?_⟩
  cases h1:fs δ with
  |stuck=>rw[h1]at q;exact q
  |ex c gs=>rw[h1]at q;exact q
  |ok ds=>
   rw[h1]at q
   intro vs H1 k1 hv
   have q':RF X.K xw W H (Bf ds) Q:=q
   unfold Bf at q'
   split at q'
   .rename_i hz
    exact⟨by rw[<-hv.length];exact le_trans hz Hx,λp hp=>q' p vs H1 k1 hp hv⟩
   .exact q'.elim
def Pg:D->D->Res D
 | .tup ds,.int i=>match Zv ds i with
  |some d=>.ok d
  |none=>.stuck
 | .lst ds,.int i=>match Zv ds i with
  |some d=>.ok d
  |none=>.stuck
 | .str z,.int i=>@ite (Res D) (z.length<=sizeLine) (propDecidable _) (match Zv z.cps.toList i with
  |some c=>.ok (.str ⟨#[c]⟩)
  |none=>.stuck) .stuck
 |_,_=>.stuck
theorem JB(r:HasL K W H ds xs)(h:Zv ds i=some d):∃ x,Zv xs i=some x/\Has K W H d x:=by
 unfold Zv at h ⊢
 rw[r.length]at h
 cases e:PV xs.length i with
 |none=>rw[e]at h;cases h
 |some j=>
  rw[e]at h
  obtain⟨x,h1,h2⟩:=r.get (show ds[j]? =some d from h)
  exact⟨x,h1,h2⟩
theorem D0(ha:DP X xw a fa)(hb:DP X xw b fb)(hs:Cl b:=by intro _ _;rfl):DE X xw (.Subscript a b pos) (λδ=>(fa δ).bind λx=>(fb δ).bind λy=>Pg x y):=
 PE.weak (F1 QV ha hb hs) λσ H Q ⟨W₀,H₀,W,δ,st,q⟩=>Mj st q λH2 d e v u k w hv hu _ _ q2=>by
  unfold Pg at q2
  split at q2
  .split at q2
   .rename_i d' hd
    obtain⟨p,xs,e1,sq,r⟩:=hv.tup
    obtain⟨x,h1,h2⟩:=JB r hd
    exact .inr (.inl ⟨p,xs,_,x,e1,hu.int,sq,h1,q2 x H2 (Same.refl _) h2⟩)
   .exact q2.elim
  .split at q2
   .rename_i d' hd
    obtain⟨p,xs,e1,sq,r⟩:=hv.lst
    obtain⟨x,h1,h2⟩:=JB r hd
    exact .inl ⟨p,xs,_,x,e1,hu.int,sq,h1,q2 x H2 (Same.refl _) h2⟩
   .exact q2.elim
  .split at q2
   .rename_i hz
    split at q2
    .rename_i cc hc
     exact .inr (.inr ⟨_,_,cc,hv.str,hu.int,hz,hc,q2.str⟩)
    .exact q2.elim
   .exact q2.elim
  .exact q2.elim
def DO(X:Cx)(xw:XW)(e:Option Expr)(f:Ba->Res (Option Int)):Prop:=PO X e (λσ H Q=>∃ W₀ H₀ W δ,StHas X.K W₀ H₀ W H σ δ/\match f δ with
 | .ok o=>∀ H',Same H H'->Q o H'
 | .ex c fs=>∀ H',Same H H'->xw c fs H'
 | .stuck=>False)
theorem PO.weak{X:Cx}{e:Option Expr}{t t':TO}(h:PO X e t)(k:∀ σ H Q,t' σ H Q->t σ H Q):PO X e t':=λpins s σ H Q I q=>h pins s σ H Q I (k σ H Q q)
theorem JN:DO X xw none (λ_=>.ok none):=PO.weak PQ λσ H Q ⟨_,_,_,_,_,q⟩=>q H (Same.refl H)
def Et:D->Res (Option Int)
 | .int i=>.ok (some i)
 |_=>.stuck
theorem KN(h:DE X xw e f):DO X xw (some e) (λδ=>(f δ).bind Et):=PO.weak (QQ h) λσ H Q ⟨W₀,H₀,W,δ,st,q⟩=>by
 dsimp only at q
 refine⟨W₀,H₀,W,δ,st,?_⟩
 cases h1:f δ with
 |stuck=>rw[h1]at q;exact q
 |ex c fs=>rw[h1]at q;exact q
 |ok d=>
  rw[h1]at q
  intro v H1 k1 hv
  cases d with
  |int i=>rw[Has]at hv;exact⟨i,hv,q H1 k1⟩
  |_=>exact q.elim
def cutD(xs:List D)(lo hi:Option Int):List D:=(xs.drop (HT.sIx xs.length 0 lo)).take (HT.sIx xs.length xs.length hi-HT.sIx xs.length 0 lo)
theorem WM(r:HasL K W H ds xs)(lo hi:Option Int):HasL K W H (cutD ds lo hi) (VD xs lo hi):=by
 unfold cutD VD
 rw[r.length]
 exact(r.drop _).take _
def whole(n:Nat)(lo hi:Option Int):Prop:=HT.sIx n 0 lo=0/\HT.sIx n n hi=n
instance {n:Nat}{lo hi:Option Int}:Decidable (whole n lo hi):=inferInstanceAs (Decidable (_/\_))
theorem IR{op:D->Option Int->Option Int->Res α}{R:V->Option Int->Option Int->Hp->Prop}{G:Hp->Res α->Prop}(st:StHas X.K W₀ H₀ W H σ δ)(hex:∀ H c gs,G H (.ex c gs)->∀ H',Same H H'->xw c gs H')(hst:∀ H,G H .stuck->False)(hG:∀ H H' r,Same H H'->G H r->G H' r)(q:G H ((fa δ).bind λx=>(fl δ).bind λl=>(fh δ).bind λu=>op x l u))(h:∀ H2 d v l u,Same H H2->WL W H2->HasT X.K W H2 d v->G H2 (op d l u)->R v l u H2):
  NR X.K xw fa σ H λx H1=>(λσ H Q=>∃ W₀ H₀ W δ,StHas X.K W₀ H₀ W H σ δ/\match fl δ with
 | .ok o=>∀ H',Same H H'->Q o H'
 | .ex c fs=>∀ H',Same H H'->xw c fs H'
 | .stuck=>False:TO) σ H1 λl H2=>(λσ H Q=>∃ W₀ H₀ W δ,StHas X.K W₀ H₀ W H σ δ/\match fh δ with
 | .ok o=>∀ H',Same H H'->Q o H'
 | .ex c fs=>∀ H',Same H H'->xw c fs H'
 | .stuck=>False:TO) σ H2 λu H3=>R x l u H3:=by
 refine⟨W₀,H₀,W,δ,st,?_⟩
 cases h1:fa δ with
 |stuck=>rw[h1]at q;exact hst _ q
 |ex c fs=>rw[h1]at q;exact hex _ _ _ q
 |ok d=>
  rw[h1]at q
  intro v H1 k1 hv
  refine⟨W₀,H₀,W,δ,st.same k1,?_⟩
  have q':G H ((fl δ).bind λl=>(fh δ).bind λu=>op d l u):=q
  cases h2:fl δ with
  |stuck=>rw[h2]at q';exact hst _ q'
  |ex c fs=>rw[h2]at q';exact λH2 k2=>hex _ _ _ q' H2 (k1.trans k2)
  |ok l=>
   rw[h2]at q'
   intro H2 k2
   refine⟨W₀,H₀,W,δ,(st.same k1).same k2,?_⟩
   have q2:G H ((fh δ).bind λu=>op d l u):=q'
   cases h3:fh δ with
   |stuck=>rw[h3]at q2;exact hst _ q2
   |ex c fs=>rw[h3]at q2;exact λH3 k3=>hex _ _ _ q2 H3 ((k1.trans k2).trans k3)
   |ok u=>
    rw[h3]at q2
    intro H3 k3
    have w1:=st.fr.wl.same k1
    exact h H3 d v l u ((k1.trans k2).trans k3) (st.fr.wl.same ((k1.trans k2).trans k3)) (hv.same (k2.trans k3) w1) (hG _ _ _ ((k1.trans k2).trans k3) q2)
def OS(d:D)(lo hi:Option Int):Res (List D):=match d with
 | .lst ds=>.ok (cutD ds lo hi)
 |_=>.stuck
theorem GU(ha:DP X xw a fa)(hl:DO X xw lo fl)(hh:DO X xw hi fh):DF X xw (.Subscript a (.Slice lo hi none p2) pos) (λδ=>(fa δ).bind λx=>(fl δ).bind λl=>(fh δ).bind λu=>OS x l u):=
 PE.weak (AK HR ha hl hh) λσ H Q ⟨W₀,H₀,W,δ,st,q⟩=>IR (G:=λH r=>RF X.K xw W H r Q) st (λ_ _ _ q=>q) (λ_ q=>q) (λ_ _ _ k q=>RF.same q k) q λH2 d v l u k w hv q2=>by
  unfold OS at q2
  split at q2
  .obtain⟨a1,xs,e1,sq,r⟩:=hv.lst
   exact⟨a1,xs,e1,sq,λp hp=>q2 p _ H2 (Same.refl _) hp (WM r l u)⟩
  .exact q2.elim
end
inductive Out where
 |nx (δ:Ba)|rt (d:D)|bk (δ:Ba)|ct (δ:Ba)|ex (c:Str) (fs:List D)|stuck
structure Step(W:WS)(H:Hp)(W':WS)(H':Hp):Prop where
 keep:Ph W H H'
 new:∀ b,W' b->W b\/H b=none
variable{W1:WS}{H2:Hp}
section
variable {W2:WS}
theorem Step.refl:Step W H W H:=⟨λ_ _ e _=>e,λ_ z=>.inl z⟩
theorem Step.same(k:Same H H1):Step W H W H1:=⟨Same.keep k,λ_ z=>.inl z⟩
theorem Step.trans(a:Step W H W1 H1)(b:Step W1 H1 W2 H2):Step W H W2 H2:=by
 refine⟨λc o e n=>b.keep c o (a.keep c o e n) λz=>?_,λc z=>?_⟩
 .rcases a.new c z with q|q
  .exact n q
  .rw[e]at q;cases q
 .rcases b.new c z with q|q
  .exact a.new c q
  .by_cases hw:W c
   .exact .inl hw
   .right
    cases e:H c with
    |none=>rfl
    |some o=>rw[a.keep c o e hw]at q;cases q
end
section
variable (K:Frag)(xw:XW)
def RS(W₀:WS)(H₀:Hp)(W:WS)(H:Hp)(o:Out)(Dn:Ends):Prop:=match o with
 | .nx δ=>∀ W' H' σ,Step W H W' H'->StHas K W₀ H₀ W' H' σ δ->Dn.nx σ H'
 | .bk δ=>∀ W' H' σ,Step W H W' H'->StHas K W₀ H₀ W' H' σ δ->Dn.bk σ H'
 | .ct δ=>∀ W' H' σ,Step W H W' H'->StHas K W₀ H₀ W' H' σ δ->Dn.ct σ H'
 | .rt d=>∀ v H',Same H₀ H'->Has K W₀ H' d v->Dn.rt v H'
 | .ex c fs=>∀ H',Same H₀ H'->xw c fs H'
 | .stuck=>False
def CL(g:Ba->Out):TS:=λDn σ H=>∃ W₀ H₀ W δ,StHas K W₀ H₀ W H σ δ/\RS K xw W₀ H₀ W H (g δ) Dn
end
def DS(X:Cx)(xw:XW)(st:Stmt)(g:Ba->Out):Prop:=PS X st (CL X.K xw g)
def KG(X:Cx)(xw:XW)(sts:List Stmt)(g:Ba->Out):Prop:=PSs X sts (CL X.K xw g)
variable{t':TS}{st:Stmt}
theorem PS.weak{t:TS}(h:PS X st t)(k:∀ Dn σ H,t' Dn σ H->t Dn σ H):PS X st t':=λpins s σ H Dn I q=>h pins s σ H Dn I (k Dn σ H q)
theorem PSs.weak{st:List Stmt}{t:TS}(h:PSs X st t)(k:∀ Dn σ H,t' Dn σ H->t Dn σ H):PSs X st t':=λpins s σ H Dn I q=>h pins s σ H Dn I (k Dn σ H q)
variable{Dn:Ends}
section
variable {o:Out}
theorem RS.step(h:RS K xw W₀ H₀ W H o Dn)(k:Step W H W1 H1):RS K xw W₀ H₀ W1 H1 o Dn:=by
 cases o with
 |nx δ=>exact λW' H' σ k' st=>h W' H' σ (k.trans k') st
 |bk δ=>exact λW' H' σ k' st=>h W' H' σ (k.trans k') st
 |ct δ=>exact λW' H' σ k' st=>h W' H' σ (k.trans k') st
 |rt d=>exact h
 |ex c fs=>exact h
 |stuck=>exact h
end
def Rl(r:Res α)(k:α->Out):Out:=match r with
 | .ok a=>k a
 | .ex c fs=>.ex c fs
 | .stuck=>.stuck
def Wk(o:Out)(g:Ba->Out):Out:=match o with
 | .nx δ=>g δ
 |o=>o
variable{vs:List V}{k:Nat}{g:Ba->Out}{pos':Pos}{ff fi:Ba->Res (List D)}
section
variable {sts:List Stmt}{g1 g2:Ba->Out}
theorem QN:KG X xw [] .nx:=PSs.weak TC λDn σ H ⟨W₀,H₀,W,δ,st,q⟩=>q W H σ Step.refl st
theorem LH(h1:DS X xw st g1)(h2:KG X xw sts g2):KG X xw (st::sts) (λδ=>Wk (g1 δ) g2):=PSs.weak (Wl h1 h2) λDn σ H ⟨W₀,H₀,W,δ,st,q⟩=>by
 refine⟨W₀,H₀,W,δ,st,?_⟩
 dsimp only at q
 cases h:g1 δ with
 |nx δ'=>
  rw[h]at q
  exact λW' H' σ' k st'=>⟨W₀,H₀,W',δ',st',RS.step (o:=g2 δ') q k⟩
 |bk δ'=>rw[h]at q;exact q
 |ct δ'=>rw[h]at q;exact q
 |rt d=>rw[h]at q;exact q
 |ex c fs=>rw[h]at q;exact q
 |stuck=>rw[h]at q;exact q
theorem RN(h1:DS X xw st g1):KG X xw [st] g1:=Jv h1
theorem Fi{k:D->Out}(st:StHas X.K W₀ H₀ W H σ δ)(q:RS X.K xw W₀ H₀ W H (Rl (f δ) k) Dn)(h:∀ H2 d v,StHas X.K W₀ H₀ W H2 σ δ->Has X.K W H2 d v->RS X.K xw W₀ H₀ W H2 (k d) Dn->R v H2):QS X.K xw f σ H R:=by
 refine⟨W₀,H₀,W,δ,st,?_⟩
 cases h1:f δ with
 |stuck=>rw[h1]at q;exact q
 |ex c fs=>rw[h1]at q;exact λH' k'=>q H' (st.fr.ext.trans k')
 |ok d=>
  rw[h1]at q
  exact λv H1 k1 hv=>h H1 d v (st.same k1) hv (RS.step (o:=k d) q (Step.same k1))
theorem NN(he:DE X xw e f)(hs:swapsWith e none pos.line X.env=pure false:=by rfl):DS X xw (.Expr e pos) (λδ=>Rl (f δ) λ_=>.nx δ):=PS.weak (Vl he hs) λDn σ H ⟨W₀,H₀,W,δ,st,q⟩=>
 Fi st q λH2 d v st2 hv q2=>q2 W H2 σ Step.refl st2
theorem NU(he:DE X xw e f):DS X xw (.Return (some e) pos) (λδ=>Rl (f δ) λd=>.rt d):=PS.weak (IK he) λDn σ H ⟨W₀,H₀,W,δ,st,q⟩=>
 Fi st q λH2 d v st2 hv q2=>q2 v H2 st2.fr.ext (Has.keep (λ_ _ e _=>e) st2.fr.wl (λb z=>.inl (st2.fr.sub b z)) hv)
theorem PN(i:Nat)(hN:X.N[i]? =some x:=by rfl)(hv:Br X.env.scope x:=by first|exact Or.inl rfl|exact Or.inr (Or.inl rfl)|exact Or.inr (Or.inr rfl))(hd:(x==("__debug__":Str))=false:=by decide)(hcd:(x==("__classdict__":Str))=false:=by decide):DS X xw (.Return (some (.Name x pos')) pos) (λδ=>Rl (Ea i δ) λd=>.rt d):=PS.weak (IK (Pd hN hv hd hcd)) λDn σ H ⟨W₀,H₀,W,δ,st,q⟩=>by
 have up:∀ b,W₀ b->W b\/H b=none:=λb z=>.inl (st.fr.sub b z)
 unfold Ea at q
 dsimp only at q
 split at q
 .rename_i d h
  obtain⟨v,e,r⟩:=st.at' i _ h
  exact⟨v,e,q v H st.fr.ext (Has.keep (λ_ _ e _=>e) st.fr.wl up r)⟩
 .rename_i ds h
  obtain⟨v,e,a,xs,r1,r2,r3,r4,r5⟩:=st.at' i _ h
  refine⟨v,e,q v H st.fr.ext ?_⟩
  rw[Has]
  refine⟨a,xs,r1,.inl ⟨r4,λz=>?_⟩,HasL.keep (λ_ _ e _=>e) st.fr.wl up r5⟩
  obtain⟨ys,z',_⟩:=st.fr.wl0 a z
  rw[r3]at z';cases z'
 .exact q.elim
theorem OU(i:Nat)(hN:X.N.Nodup)(he:DE X xw e f)(hi:X.N[i]? =some x:=by rfl)(hx:Ez X.env.scope x:=by first|exact Or.inl rfl|exact Or.inr rfl)(hs:swapsWith e (some (.Name x pos')) pos.line X.env=pure false:=by rfl)(hf:X.fn x=true\/X.env.scope.names.lookup x=some .local:=by first|exact .inl rfl|exact .inr rfl|assumption):DS X xw (.Assign [.Name x pos'] e pos) (λδ=>Rl (f δ) λd=>.nx (δ.set i (some (.d d)))):=
 PS.weak (Iv hN hi hx he hs hf) λDn σ H ⟨W₀,H₀,W,δ,st,q⟩=>Fi st q λH2 d v st2 hv q2=>q2 W H2 _ Step.refl (st2.set hv)
theorem Vx{i:Nat}(st:StHas X.K W₀ H₀ W H σ δ)(q:RS X.K xw W₀ H₀ W H (Rl (ff δ) λds=>.nx (δ.set i (some (.o ds)))) Dn):
  X5 X.K xw ff σ H λx H1=>Xw i x σ H1 Dn.nx:=by
 refine⟨W₀,H₀,W,δ,st,?_⟩
 cases h1:ff δ with
 |stuck=>rw[h1]at q;exact q
 |ex c fs=>rw[h1]at q;exact λH' k'=>q H' (st.fr.ext.trans k')
 |ok ds=>
  rw[h1]at q
  intro a xs H1 k n r
  have st1:=(st.same k).own (i:=i) n r
  refine q _ _ _ ⟨λb o e nb=>?_,λb z=>z.elim .inl λz=>.inr (by rw[z];exact Same.free k n)⟩ st1
  rw[Da (Ka (k b o e) n)];exact k b o e
theorem MU(i:Nat)(hN:X.N.Nodup)(he:DF X xw e ff)(hi:X.N[i]? =some x:=by rfl)(hx:Ez X.env.scope x:=by first|exact Or.inl rfl|exact Or.inr rfl)(hs:swapsWith e (some (.Name x pos')) pos.line X.env=pure false:=by rfl)(hf:X.fn x=true\/X.env.scope.names.lookup x=some .local:=by first|exact .inl rfl|exact .inr rfl|assumption):DS X xw (.Assign [.Name x pos'] e pos) (λδ=>Rl (ff δ) λds=>.nx (δ.set i (some (.o ds)))):=
 PS.weak (Iv hN hi hx he hs hf) λDn σ H ⟨W₀,H₀,W,δ,st,q⟩=>Vx st q
def T0(c:Res Bool)(a b:Out):Out:=Rl c λk=>if k=true then a else b
variable {as bs:List Stmt}
theorem G0(hc:DT X xw c ga)(ha:KG X xw as g1)(hb:KG X xw bs g2):DS X xw (.If c as bs pos) (λδ=>T0 (ga δ) (g1 δ) (g2 δ)):=PS.weak (M1 hc ha hb) λDn σ H ⟨W₀,H₀,W,δ,st,q⟩=>by
 refine⟨W₀,H₀,W,δ,st,?_⟩
 unfold T0 at q
 dsimp only at q
 cases h1:ga δ with
 |stuck=>rw[h1]at q;exact q
 |ex c fs=>rw[h1]at q;exact λH' k'=>q H' (st.fr.ext.trans k')
 |ok k=>
  rw[h1]at q
  intro H1 k1
  have q':RS X.K xw W₀ H₀ W H (if k=true then g1 δ else g2 δ) Dn:=q
  cases k with
  |true=>rw[if_pos rfl]at q' ⊢;exact⟨W₀,H₀,W,δ,st.same k1,q'.step (Step.same k1)⟩
  |false=>rw[if_neg Bool.false_ne_true]at q' ⊢;exact⟨W₀,H₀,W,δ,st.same k1,q'.step (Step.same k1)⟩
def Q3(K:Frag)(t:D->Ba->Res Ba):TG:=λv σ H Q=>∃ W₀ H₀ W δ d,StHas K W₀ H₀ W H σ δ/\Has K W H d v/\match t d δ with
 | .ok δ'=>∀ σ',StHas K W₀ H₀ W H σ' δ'->Q σ' H
 |_=>False
def DG(X:Cx)(tg:Expr)(t:D->Ba->Res Ba):Prop:=PG X tg (Q3 X.K t)
theorem PG.weak{X:Cx}{tg:Expr}{t t':TG}(h:PG X tg t)(k:∀ v σ H Q,t' v σ H Q->t v σ H Q):PG X tg t':=λpins s σ H v u Q I r q=>h pins s σ H v u Q I r (k v σ H Q q)
def Hb(i:Nat)(d:D)(δ:Ba):Res Ba:=.ok (δ.set i (some (.d d)))
theorem FN(i:Nat)(hN:X.N.Nodup)(hi:X.N[i]? =some x:=by rfl)(hx:Ez X.env.scope x:=by first|exact Or.inl rfl|exact Or.inr rfl)(hf:X.fn x=true\/X.env.scope.names.lookup x=some .local:=by first|exact .inl rfl|exact .inr rfl|assumption):
  DG X (.Name x pos) (Hb i):=PG.weak (MQ hN hi hx hf) λv σ H Q ⟨W₀,H₀,W,δ,d,st,hv,q⟩=>q _ (st.set hv)
def Y5(K:Frag)(t:List D->Ba->Res Ba):IM:=λvs σ H Q=>∃ W₀ H₀ W δ ds,StHas K W₀ H₀ W H σ δ/\HasL K W H ds vs/\match t ds δ with
 | .ok δ'=>∀ σ',StHas K W₀ H₀ W H σ' δ'->Q σ' H
 |_=>False
def NZ(X:Cx)(tgs:List Expr)(t:List D->Ba->Res Ba):Prop:=PGs X tgs (Y5 X.K t)
theorem PGs.weak{X:Cx}{tg:List Expr}{t t':IM}(h:PGs X tg t)(k:∀ v σ H Q,t' v σ H Q->t v σ H Q):PGs X tg t':=λpins s σ H v u Q I r q=>h pins s σ H v u Q I r (k v σ H Q q)
def Xe(ds:List D)(δ:Ba):Res Ba:=match ds with
 | []=>.ok δ
 |_=>.stuck
def Ib(t:D->Ba->Res Ba)(r:List D->Ba->Res Ba)(ds:List D)(δ:Ba):Res Ba:=match ds with
 |d::ds=>(t d δ).bind λδ'=>r ds δ'
 | []=>.stuck
variable {tgs:List Expr}{t:D->Ba->Res Ba}{ts:List D->Ba->Res Ba}
theorem GN:NZ X [] Xe:=PGs.weak NQ λvs σ H Q ⟨W₀,H₀,W,δ,ds,st,hv,q⟩=>by
 unfold Xe at q
 cases ds with
 |nil=>rw[HasL]at hv;exact⟨hv,q σ st⟩
 |cons=>exact q.elim
theorem GH(h1:DG X tg t)(h2:NZ X tgs ts)(hs:(assignEach (tg::tgs) X.env).map (·.2)=assign tg X.env::(assignEach tgs X.env).map (·.2):=by rfl):NZ X (tg::tgs) (Ib t ts):=
 PGs.weak (GK h1 h2 hs) λvs σ H Q ⟨W₀,H₀,W,δ,ds,st,hv,q⟩=>by
  unfold Ib at q
  cases ds with
  |nil=>exact q.elim
  |cons d ds=>
   rw[HasL]at hv
   obtain⟨x,r,e,h,hr⟩:=hv
   refine⟨x,r,e,W₀,H₀,W,δ,d,st,h,?_⟩
   dsimp only at q
   cases h1:t d δ with
   |stuck=>rw[h1]at q;exact q
   |ex c fs=>rw[h1]at q;exact q
   |ok δ'=>
    rw[h1]at q
    exact λσ' st'=>⟨W₀,H₀,W,δ',ds,st',hr,q⟩
def Ye(n:Nat)(ts:List D->Ba->Res Ba)(d:D)(δ:Ba):Res Ba:=match d with
 | .tup ds=>if ds.length=n then ts ds δ else .stuck
 |_=>.stuck
theorem HU(hc:X.calm=true)(h:NZ X tgs ts)(hn:(assignEach tgs X.env).length=n:=by rfl)(hst:(assignEach tgs X.env).findIdx? (·.1)=none:=by rfl):DG X (.Tuple tgs k pos) (Ye n ts):=
 PG.weak (HX hc h hn hst) λv σ H Q ⟨W₀,H₀,W,δ,d,st,hv,q⟩=>by
  unfold Ye at q
  cases d with
  |tup ds=>
   dsimp only at q
   split at q
   .rename_i hl
    split at hl
    .rename_i hl'
     rw[Has]at hv
     obtain⟨a,xs,e,sq,r⟩:=hv
     refine⟨a,xs,e,sq,by rw[<-r.length];exact hl',W₀,H₀,W,δ,ds,st,r,?_⟩
     rw[hl]
     exact q
    .cases hl
   .exact q.elim
  |_=>exact q.elim
def LG(K:Frag)(W:WS)(H:Hp)(J:It)(ds:List D):Prop:=∀ W' H2,Step W H W' H2->WL W' H2->
 (∀ i d,ds[i]? =some d->J.go i H2/\∀ x H3,J.yld i H2 x H3->Same H2 H3/\Has K W' H3 d x)/\J.stop ds.length H2
def A7(K:Frag)(xw:XW)(f:Ba->Res (List D)):TI:=λσ H R=>∃ W₀ H₀ W δ,StHas K W₀ H₀ W H σ δ/\match f δ with
 | .ok ds=>∀ J H',Same H H'->LG K W H' J ds->R J H'
 | .ex c fs=>∀ H',Same H H'->xw c fs H'
 | .stuck=>False
def DI(X:Cx)(xw:XW)(tg iter:Expr)(f:Ba->Res (List D)):Prop:=PI X tg iter (A7 X.K xw f)
theorem PI.weak{X:Cx}{tg:Expr}{t t':TI}(h:PI X tg iter t)(k:∀ σ H R,t' σ H R->t σ H R):PI X tg iter t':=λpins s σ H R I q=>h pins s σ H R I (k σ H R q)
theorem SqL.lr{a:Addr}(h:LR K W H a xs)(k:Step W H W' H2)(w:WL W H):LR K W' H2 a xs:=h.keep k.keep w k.new
theorem NV{a:Addr}(w:WL W H)(h:LR K W H a xs)(r:HasL K W H ds xs):LG K W H (D4 K a) ds:=by
 intro W' H2 k w2
 have h2:=(SqL.lr h k w).sq
 refine⟨λi d e=>?_,xs,h2,by rw[r.length];exact le_refl _⟩
 obtain⟨x,e1,hx⟩:=r.get e
 refine⟨⟨xs,x,h2,e1⟩,λy H3 z=>?_⟩
 obtain⟨rfl,z⟩:=z
 have:y=x:=by
  have q:=z xs h2
  rw[e1]at q;exact(Option.some.inj q).symm
 subst this
 exact⟨Same.refl _,Has.keep k.keep w k.new hx⟩
theorem OV{a:Addr}(w:WL W H)(h:SqT K H a xs)(r:HasL K W H ds xs):LG K W H (E4 K a) ds:=by
 intro W' H2 k w2
 have h2:=Uq k.keep w h
 refine⟨λi d e=>?_,xs,h2,by rw[r.length];exact le_refl _⟩
 obtain⟨x,e1,hx⟩:=r.get e
 refine⟨⟨xs,x,h2,e1⟩,λy H3 z=>?_⟩
 obtain⟨rfl,z⟩:=z
 have:y=x:=by
  have q:=z xs h2
  rw[e1]at q;exact(Option.some.inj q).symm
 subst this
 exact⟨Same.refl _,Has.keep k.keep w k.new hx⟩
def Zl(lo:Int)(n:Nat):List D:=(range n).map λ(i:Nat)=>D.int (lo+i)
theorem MI(lo:Int)(n:Nat):LG K W H (Itr lo n) (Zl lo n):=by
 intro W' H2 k w2
 unfold Zl
 refine⟨λi d e=>?_,by simp[Itr]⟩
 rw[getElem?_map]at e
 have hi:i<n:=by
  refine Nat.lt_of_not_le λz=>?_
  rw[List.getElem?_eq_none (by simpa using z)]at e;cases e
 rw[List.getElem?_range hi]at e
 have e':D.int (lo+(i:Nat))=d:=Option.some.inj e
 subst e'
 refine⟨hi,λx H3 z=>?_⟩
 obtain⟨rfl,rfl⟩:=z
 exact⟨Same.refl _,by rw[Has]⟩
def Df(ds:List D):Res (List D):=match ds with
 | [.int j]=>@ite (Res (List D)) (-(2^62)<=j/\j<2^62) (propDecidable _) (.ok (Zl 0 j.toNat)) .stuck
 |_=>.stuck
def Kt(ds:List D):Res (List D):=match ds with
 | [.int i,.int j]=>@ite (Res (List D)) ((-(2^62)<=i/\i<2^62)/\ -(2^62)<=j/\j<2^62) (propDecidable _) (.ok (Zl i (j-i).toNat)) .stuck
 |_=>.stuck
theorem HasL.one(h:HasL K W H [.int i] vs):vs= [.int i]:=by
 rw[HasL]at h
 obtain⟨x,r,rfl,h1,h2⟩:=h
 rw[HasL]at h2
 rw[Has]at h1
 rw[h1,h2]
theorem HasL.two{j:Int}(h:HasL K W H [.int i,.int j] vs):vs= [.int i,.int j]:=by
 rw[HasL]at h
 obtain⟨x,r,rfl,h1,h2⟩:=h
 rw[Has]at h1
 rw[h1,h2.one]
variable {fs:Ba->Res (List D)}{p:Pos}
theorem BE(hm:X.mg "range"=none)(ha:DA X xw [a] fs)(hg:Gl X "range":=by rfl)(hs:starEach [a] X.env= [(false,eval a X.env)]:=by rfl):DI X xw tg (.Call (.Name "range" p) [a] [] pos) (λδ=>(fs δ).bind Df):=
 PI.weak (TF hg hm ha hs) λσ H R ⟨W₀,H₀,W,δ,st,q⟩=>by
  refine⟨W₀,H₀,W,δ,st,?_⟩
  dsimp only at q
  cases h1:fs δ with
  |stuck=>rw[h1]at q;exact q
  |ex c fs=>rw[h1]at q;exact q
  |ok ds=>
   rw[h1]at q
   intro vs H1 k1 hv
   dsimp only[Res.bind]at q
   unfold Df at q
   split at q
   .rename_i ds' hq
    split at hq
    .rename_i j
     split at hq
     .rename_i hj
      have e':Zl 0 j.toNat=ds':=by cases hq;rfl
      subst e'
      exact⟨j,hv.one,hj.1,hj.2,q _ H1 k1 (MI 0 _)⟩
     .cases hq
    .cases hq
   .rename_i hq
    split at hq
    .split at hq<;>cases hq
    .cases hq
   .exact q.elim
theorem EE(hm:X.mg "range"=none)(ha:DA X xw [a,b] fs)(hg:Gl X "range":=by rfl)(hs:starEach [a,b] X.env= [(false,eval a X.env),(false,eval b X.env)]:=by rfl)(hs2:starEach [b] X.env= [(false,eval b X.env)]:=by rfl):
  DI X xw tg (.Call (.Name "range" p) [a,b] [] pos) (λδ=>(fs δ).bind Kt):=
 PI.weak (UF hg hm ha hs hs2) λσ H R ⟨W₀,H₀,W,δ,st,q⟩=>by
  refine⟨W₀,H₀,W,δ,st,?_⟩
  dsimp only at q
  cases h1:fs δ with
  |stuck=>rw[h1]at q;exact q
  |ex c fs=>rw[h1]at q;exact q
  |ok ds=>
   rw[h1]at q
   intro vs H1 k1 hv
   dsimp only[Res.bind]at q
   unfold Kt at q
   split at q
   .rename_i ds' hq
    split at hq
    .rename_i i j
     split at hq
     .rename_i hj
      have e':Zl i (j-i).toNat=ds':=by cases hq;rfl
      subst e'
      exact⟨i,j,hv.two,⟨hj.1.1,hj.1.2,hj.2.1,hj.2.2⟩,q _ H1 k1 (MI i _)⟩
     .cases hq
    .cases hq
   .rename_i hq
    split at hq
    .split at hq<;>cases hq
    .cases hq
   .exact q.elim
def Eh(t:D->Ba->Res Ba)(body:Ba->Out):List D->Ba->Out
 | [],δ=>.nx δ
 |d::ds,δ=>match t d δ with
  | .ok δ'=>match body δ' with
   | .nx δ2=>Eh t body ds δ2
   | .ct δ2=>Eh t body ds δ2
   | .bk δ2=>.nx δ2
   | .rt d=>.rt d
   | .ex c fs=>.ex c fs
   | .stuck=>.stuck
  |_=>.stuck
theorem LU(hp:PassesOwn (model X.prog X.w) X.A X.env X.xe)(hc:X.calm=true)(hi:DI X xw tg iter fi)(hg:DG X tg t)(hb:KG X xw sts g)(hs:∀ x,foldedSetIterable iter X.env x=pure x:=by intro _;rfl):DS X xw (.For tg iter sts [] pos) (λδ=>Rl (fi δ) λds=>Eh t g ds δ):=
 PS.weak (PX hp hc hi hg hb hs) λDn σ H ⟨W₀,H₀,W,δ,st,q⟩=>by
  refine⟨W₀,H₀,W,δ,st,?_⟩
  dsimp only at q
  cases h1:fi δ with
  |stuck=>rw[h1]at q;exact q
  |ex c fs=>rw[h1]at q;exact λH' k'=>q H' (st.fr.ext.trans k')
  |ok ds=>
   rw[h1]at q
   intro J H1 k1 it
   have q1:RS X.K xw W₀ H₀ W H1 (Eh t g ds δ) Dn:=RS.step (o:=Eh t g ds δ) q (Step.same k1)
   refine⟨λi m σ' H'=>∃ W' δ',m=ds.length-i/\i<=ds.length/\StHas X.K W₀ H₀ W' H' σ' δ'/\Step W H1 W' H'/\RS X.K xw W₀ H₀ W' H' (Eh t g (ds.drop i) δ') Dn,
    ⟨_,W,δ,rfl,zero_le _,st.same k1,Step.refl,q1⟩,?_⟩
   rintro i m σ' H' ⟨W',δ',rfl,hi,st',k',q'⟩
   obtain⟨items,stop⟩:=it W' H' k' st'.fr.wl
   by_cases hl:i<ds.length
   .right
    have e:ds[i]? =some ds[i]:=getElem?_eq_getElem hl
    obtain⟨go,yld⟩:=items i _ e
    have ed:ds.drop i=ds[i]::ds.drop (i+1):=List.drop_eq_getElem_cons hl
    rw[ed]at q'
    unfold Eh at q'
    refine⟨go,λσ2 H2=>∃ W2 δ2,StHas X.K W₀ H₀ W2 H2 σ2 δ2/\Step W H1 W2 H2/\RS X.K xw W₀ H₀ W2 H2 (Eh t g (ds.drop (i+1)) δ2) Dn,λσ2 H2 ⟨W2,δ2,a1,a2,a3⟩=>⟨ds.length-(i+1),by omega,W2,δ2,rfl,hl,a1,a2,a3⟩,λx H3 z=>?_⟩
    obtain⟨k3,hx⟩:=yld x H3 z
    refine⟨W₀,H₀,W',δ',ds[i],st'.same k3,hx,?_⟩
    cases h2:t ds[i] δ' with
    |stuck=>rw[h2]at q';exact q'
    |ex c fs=>rw[h2]at q';exact q'
    |ok δ2=>
     rw[h2]at q'
     intro σ2 st2
     refine⟨W₀,H₀,W',δ2,st2,?_⟩
     dsimp only at q'
     have kk:Step W' H' W' H3:=Step.same k3
     cases h3:g δ2 with
     |nx δ3=>rw[h3]at q';exact λW3 H4 σ3 k4 st3=>⟨W3,δ3,st3,(k'.trans kk).trans k4,RS.step (o:=Eh t g (ds.drop (i+1)) δ3) q' (kk.trans k4)⟩
     |ct δ3=>rw[h3]at q';exact λW3 H4 σ3 k4 st3=>⟨W3,δ3,st3,(k'.trans kk).trans k4,RS.step (o:=Eh t g (ds.drop (i+1)) δ3) q' (kk.trans k4)⟩
     |bk δ3=>rw[h3]at q';exact λW3 H4 σ3 k4 st3=>q' W3 H4 σ3 (kk.trans k4) st3
     |rt d=>rw[h3]at q';exact q'
     |ex c fs=>rw[h3]at q';exact q'
     |stuck=>rw[h3]at q';exact q'
   .left
    have ei:i=ds.length:=by omega
    subst ei
    rw[List.drop_length]at q'
    exact⟨stop,q' W' H' σ' Step.refl st'⟩
def Qd(c:Ba->Res Bool)(body:Ba->Out):Nat->Ba->Out
 |0,_=>.stuck
 |n+1,δ=>match c δ with
  | .ok true=>match body δ with
   | .nx δ2=>Qd c body n δ2
   | .ct δ2=>Qd c body n δ2
   | .bk δ2=>.nx δ2
   | .rt d=>.rt d
   | .ex c fs=>.ex c fs
   | .stuck=>.stuck
  | .ok false=>.nx δ
  | .ex c fs=>.ex c fs
  | .stuck=>.stuck
theorem KH(n:Nat)(hp:PassesOwn (model X.prog X.w) X.A X.env X.xe)(hc:DT X xw c ga)(hb:KG X xw sts g):DS X xw (.While c sts [] pos) (λδ=>Qd ga g n δ):=
 PS.weak (JK hp hc hb) λDn σ H ⟨W₀,H₀,W,δ,st,q⟩=>by
  refine⟨λm σ' H'=>∃ W' δ',StHas X.K W₀ H₀ W' H' σ' δ'/\RS X.K xw W₀ H₀ W' H' (Qd ga g m δ') Dn,⟨n,W,δ,st,q⟩,?_⟩
  rintro m σ' H' ⟨W',δ',st',q'⟩
  cases m with
  |zero=>exact q'.elim
  |succ m=>
   unfold Qd at q'
   refine⟨W₀,H₀,W',δ',st',?_⟩
   cases h1:ga δ' with
   |stuck=>rw[h1]at q';exact q'
   |ex c fs=>rw[h1]at q';exact λH2 k2=>q' H2 (st'.fr.ext.trans k2)
   |ok k=>
    rw[h1]at q'
    intro H2 k2
    cases k with
    |false=>rw[if_neg Bool.false_ne_true];exact q' W' H2 σ' (Step.same k2) (st'.same k2)
    |true=>
     rw[if_pos rfl]
     refine⟨λσ3 H3=>∃ W3 δ3,StHas X.K W₀ H₀ W3 H3 σ3 δ3/\RS X.K xw W₀ H₀ W3 H3 (Qd ga g m δ3) Dn,λσ3 H3 z=>⟨m,Nat.lt_succ_self m,z⟩,W₀,H₀,W',δ',st'.same k2,?_⟩
     dsimp only at q'
     have kk:Step W' H' W' H2:=Step.same k2
     cases h3:g δ' with
     |nx δ3=>rw[h3]at q';exact λW3 H4 σ3 k4 st3=>⟨W3,δ3,st3,RS.step (o:=Qd ga g m δ3) q' (kk.trans k4)⟩
     |ct δ3=>rw[h3]at q';exact λW3 H4 σ3 k4 st3=>⟨W3,δ3,st3,RS.step (o:=Qd ga g m δ3) q' (kk.trans k4)⟩
     |bk δ3=>rw[h3]at q';exact λW3 H4 σ3 k4 st3=>q' W3 H4 σ3 (kk.trans k4) st3
     |rt d=>rw[h3]at q';exact q'
     |ex c fs=>rw[h3]at q';exact q'
     |stuck=>rw[h3]at q';exact q'
end
def noex:Res α->Res α
 | .ok a=>.ok a
 |_=>.stuck
def Re(t:D->Ba->Res Ba)(c:Ba->Res Bool)(fe:Ba->Res D):List D->Ba->Res (List D)
 | [],_=>.ok []
 |d::ds,δ=>match t d δ with
  | .ok δ'=>(noex (c δ')).bind λk=>if k=true then(noex (fe δ')).bind λx=>(Re t c fe ds δ').bind λr=>.ok (x::r) else Re t c fe ds δ'
  |_=>.stuck
abbrev Jm:XW:=λ_ _ _=>False
section
variable {a:Addr}
theorem StHas.acc(h:StHas K W₀ (Eb H₀ a (.lst xs)) W H σ δ)(ha:H a=some (.lst xs))(hW:W a):StHas K W₀ (Eb H₀ a (.lst ys)) W (Eb H a (.lst ys)) σ δ:=by
 have kk:Ph W H (Eb H a (.lst ys)):=λb o e n=>by
  rw[Da (λz=>n (by rw[z];exact hW))];exact e
 have hw:∀ b,W b->W b\/H b=none:=λb z=>.inl z
 have fr':FrOk W₀ (Eb H₀ a (.lst ys)) W (Eb H a (.lst ys)):=by
  refine⟨λb o e=>?_,h.fr.sub,λb z=>?_,λb z=>?_⟩
  .by_cases hb:b=a
   .subst hb;rw[Ma]at e ⊢;exact e
   .rw[Da hb]at e ⊢
    exact h.fr.ext b o (by rw[Da hb];exact e)
  .by_cases hb:b=a
   .rw[hb];exact⟨_,Ma,trivial⟩
   .rw[Da hb];exact h.fr.wl b z
  .by_cases hb:b=a
   .rw[hb];exact⟨_,Ma,trivial⟩
   .have:=h.fr.wl0 b z
    rw[Da hb]at this ⊢;exact this
 have na:∀ (j:Nat) (s:S) (v:V) (b:Addr),δ[j]? =some (some s)->σ[j]? =some (some v)->Owns H s v b->b≠a:=λj s v b e e' o z=>by
  obtain⟨v',h1,h2⟩:=h.at' j s e
  rw[e']at h1;cases h1
  obtain⟨_,g,_⟩:=h2.owns o
  rw[z,Ma]at g;cases g
 have bk:∀ (j:Nat) (s:S) (v:V) (b:Addr),δ[j]? =some (some s)->σ[j]? =some (some v)->Owns (Eb H a (.lst ys)) s v b->Owns H s v b:=λj s v b e e' o=>by
  obtain⟨v',h1,h2⟩:=h.at' j s e
  rw[e']at h1;cases h1
  refine Owns.back h2 (λc o ec z y=>?_) o
  rcases y with⟨y,_⟩|⟨zs,y⟩
  .rw[Da (na j _ _ c e e' y)];exact z
  .rw[Da (λq=>by rw[q,ha]at z;cases z;cases y)];exact z
 refine⟨fr',h.len,λj s e=>?_,λi j s t u v b ij e1 e2 e3 e4 o1 o2=>h.ap i j s t u v b ij e1 e2 e3 e4 (bk i s u b e1 e3 o1) (bk j t v b e2 e4 o2)⟩
 obtain⟨v,h1,h2⟩:=h.at' j s e
 refine⟨v,h1,?_⟩
 cases s with
 |d x=>exact Has.keep kk h.fr.wl hw h2
 |o ds'=>
  obtain⟨b,zs,e',g1,g2,g3,g4⟩:=h2
  have hb:b≠a:=λz=>by
   rw[z,Ma]at g2;cases g2
  rw[Da hb]at g2
  exact⟨b,zs,e',g1,by rw[Da hb];exact g2,by rw[Da hb];exact g3,HasL.keep kk h.fr.wl hw g4⟩
 |q ks' ds'=>
  obtain⟨b,zs,e',g1,g2,g3,g4,g5⟩:=h2
  have hb:b≠a:=λz=>by
   rw[z,Ma]at g2;cases g2
  rw[Da hb]at g2
  exact⟨b,zs,e',g1,by rw[Da hb];exact g2,by rw[Da hb];exact g3,g4,HasL.keep kk h.fr.wl hw g5⟩
 |w dss=>
  obtain⟨b,bs,e',g1,g2,g3,g4,g5,g6,g7⟩:=h2
  have hb:b≠a:=λz=>by
   rw[z,Ma]at g2;cases g2
  rw[Da hb]at g2
  refine⟨b,bs,e',g1,by rw[Da hb];exact g2,by rw[Da hb];exact g3,g4,g5,g6,λi c ds e1 e2=>?_⟩
  obtain⟨f1,f2,xs',f3,f4⟩:=g7 i c ds e1 e2
  have hc:c≠a:=λz=>by
   rw[z,Ma]at f2;cases f2
  rw[Da hc]at f2
  exact⟨f1,by rw[Da hc];exact f2,xs',by rw[Da hc];exact f3,HasL.keep kk h.fr.wl hw f4⟩
 |k t cs=>
  obtain⟨b,ob,e',g1,g2,g3,g4,g5,g6⟩:=h2
  have hb:b≠a:=λz=>by
   by_cases m:JM t
   .have:=(g3 m).2
    rw[z,Ma]at this;cases this
   .obtain⟨zs,rfl⟩:=g2.tup m
    rw[z,ha]at g1;cases g1
  refine⟨b,ob,e',by rw[Da hb];exact g1,g2,λm=>⟨(g3 m).1,by have:=(g3 m).2;rw[Da hb]at this ⊢;exact this⟩,g4,g5,λi c x e1 e2=>?_⟩
  have hc:=g6 i c x e1 e2
  cases c with
  |d y=>exact Has.keep kk h.fr.wl hw hc
  |l ds'=>
   obtain⟨b,zs,e',g1,g2,g3,g4⟩:=hc
   have hb:b≠a:=λz=>by
    rw[z,Ma]at g2;cases g2
   rw[Da hb]at g2
   exact⟨b,zs,e',g1,by rw[Da hb];exact g2,by rw[Da hb];exact g3,HasL.keep kk h.fr.wl hw g4⟩
  |q ks' ds'=>
   obtain⟨b,zs,e',g1,g2,g3,g4,g5⟩:=hc
   have hb:b≠a:=λz=>by
    rw[z,Ma]at g2;cases g2
   rw[Da hb]at g2
   exact⟨b,zs,e',g1,by rw[Da hb];exact g2,by rw[Da hb];exact g3,g4,HasL.keep kk h.fr.wl hw g5⟩
theorem StHas.block(n:Nat)(h:StHas K W₀ H₀ W H σ δ)(ha:H a=none):StHas K W₀ (Eb H₀ a (.lst [])) (λb=>W b\/b=a) (Eb H a (.lst [])) (replicate n none++σ) (replicate n none++δ):=by
 have hw:∀ b,(W b\/b=a)->W b\/H b=none:=λb z=>z.elim .inl λz=>.inr (by rw[z];exact ha)
 have k:Same H (Eb H a (.lst [])):=Vd ha
 have kk:Ph W H (Eb H a (.lst [])):=Same.keep k
 have ha0:H₀ a=none:=Same.free h.fr.ext ha
 have fr':FrOk W₀ (Eb H₀ a (.lst [])) (λb=>W b\/b=a) (Eb H a (.lst [])):=by
  refine⟨λb o e=>?_,λb z=>.inl (h.fr.sub b z),λb z=>z.elim (h.fr.wl.same k b) λz=>by rw[z];exact⟨_,Ma,trivial⟩,h.fr.wl0.same (Vd ha0)⟩
  by_cases hb:b=a
  .subst hb;rw[Ma]at e ⊢;exact e
  .rw[Da hb]at e ⊢
   exact h.fr.ext b o e
 have idx:∀ {α:Type} (l:List (Option α)) (j:Nat) (x:α),(replicate n none++l)[j]? =some (some x)->n<=j/\l[j-n]? =some (some x):=λl j x e=>by
  by_cases hj:j<n
  .rw[List.getElem?_append_left (by simpa using hj),List.getElem?_replicate]at e
   split at e<;>cases e
  .refine⟨Nat.le_of_not_lt hj,?_⟩
   rw[List.getElem?_append_right (by simpa using hj),length_replicate]at e;exact e
 have back:∀ {α:Type} (l:List (Option α)) (j:Nat) (x:Option α),n<=j->l[j-n]? =some x->(replicate n none++l)[j]? =some x:=λl j x hj e=>by
  rw[List.getElem?_append_right (by simpa using hj),length_replicate];exact e
 refine⟨fr',by simp[h.len],λj s e=>?_,λi j s1 s2 u u' b hij e1 e2 e3 e4 os ot=>?_⟩
 .obtain⟨hj,e⟩:=idx _ _ _ e
  obtain⟨v,h1,h2⟩:=h.at' _ s e
  refine⟨v,back _ _ _ hj h1,?_⟩
  cases s with
  |d x=>exact Has.keep kk h.fr.wl hw h2
  |o ds'=>
   obtain⟨b,ys,e',g1,g2,g3,g4⟩:=h2
   have hb:b≠a:=Ka g3 ha
   exact⟨b,ys,e',.inl g1,by rw[Da hb];exact g2,k _ _ g3,HasL.keep kk h.fr.wl hw g4⟩
  |q ks' ds'=>
   obtain⟨b,ys,e',g1,g2,g3,g4,g5⟩:=h2
   have hb:b≠a:=Ka g3 ha
   exact⟨b,ys,e',.inl g1,by rw[Da hb];exact g2,k _ _ g3,g4,HasL.keep kk h.fr.wl hw g5⟩
  |w dss=>
   obtain⟨b,bs,e',g1,g2,g3,g4,g5,g6,g7⟩:=h2
   have hb:b≠a:=Ka g3 ha
   refine⟨b,bs,e',.inl g1,by rw[Da hb];exact g2,k _ _ g3,g4,g5,g6,λi c ds e1 e2=>?_⟩
   obtain⟨f1,f2,xs',f3,f4⟩:=g7 i c ds e1 e2
   have hc:c≠a:=Ka f3 ha
   exact⟨.inl f1,by rw[Da hc];exact f2,xs',k _ _ f3,HasL.keep kk h.fr.wl hw f4⟩
  |k t cs=>
   obtain⟨b,ob,e',g1,g2,g3,g4,g5,g6⟩:=h2
   have hb:b≠a:=Ka g1 ha
   refine⟨b,ob,e',k _ _ g1,g2,λm=>⟨.inl (g3 m).1,by rw[Da hb];exact(g3 m).2⟩,g4,g5,λi c x e1 e2=>?_⟩
   have hc:=g6 i c x e1 e2
   cases c with
   |d y=>exact Has.keep kk h.fr.wl hw hc
   |l ds'=>
    obtain⟨b,ys,e',g1,g2,g3,g4⟩:=hc
    have hb:b≠a:=Ka g3 ha
    exact⟨b,ys,e',.inl g1,by rw[Da hb];exact g2,k _ _ g3,HasL.keep kk h.fr.wl hw g4⟩
   |q ks' ds'=>
    obtain⟨b,ys,e',g1,g2,g3,g4,g5⟩:=hc
    have hb:b≠a:=Ka g3 ha
    exact⟨b,ys,e',.inl g1,by rw[Da hb];exact g2,k _ _ g3,g4,HasL.keep kk h.fr.wl hw g5⟩
 .obtain⟨hi,e1⟩:=idx _ _ _ e1
  obtain⟨hj,e2⟩:=idx _ _ _ e2
  obtain⟨_,e3⟩:=idx _ _ _ e3
  obtain⟨_,e4⟩:=idx _ _ _ e4
  have bk:∀ (j:Nat) (s:S) (v:V),δ[j]? =some (some s)->σ[j]? =some (some v)->Owns _ s v b->Owns H s v b:=λj s v e e' o=>by
   obtain⟨v',h1,h2⟩:=h.at' j s e
   rw[e']at h1;cases h1
   exact Owns.back h2 (λc o _ z _=>k _ _ z) o
  exact h.ap (i-n) (j-n) s1 s2 u u' b (by omega) e1 e2 e3 e4 (bk _ _ _ e1 e3 os) (bk _ _ _ e2 e4 ot)
end
variable{N ps:List Str}{r:List V->Hp->VK->Prop}{op:D->Res D}{P:Program}{mg:Str->Option Value}{base:Heap}{m:List D->Res D}{fd:FuncData}
section
variable {t:D->Ba->Res Ba}{gc:Ba->Res Bool}{fe:Ba->Res D}
def Se(n:Nat)(t:D->Ba->Res Ba)(gc:Ba->Res Bool)(fe:Ba->Res D)(δ:Ba)(ds:List D):Res (List D):=@ite (Res (List D)) (ds.length<=100000) (propDecidable _) (noex (Re t gc fe ds (replicate n none++δ))) .stuck
def OZ(X:Cx)(ifs:List Expr)(g:Ba->Res Bool):Prop:=JZ X ifs (QY X.K Jm g)
theorem SN:OZ X [] (λ_=>.ok true):=λpins s σ H Q I ⟨_,_,_,_,_,q⟩=>TQ pins s σ H Q I (q H (Same.refl H))
theorem TN(h:DT X Jm c gc):OZ X [c] gc:=UQ h
theorem Yr{Nc:Nat}(q:X5 X.K xw (λδ=>(fi δ).bind λds=>Se Nc t gc fe δ ds) σ H Q):
  BL Nc (A7 X.K xw fi) (Q3 X.K t) (QY X.K Jm gc) (QS X.K Jm fe) σ H Q:=by
 obtain⟨W₀,H₀,W,δ,st,q⟩:=q
 refine⟨W₀,H₀,W,δ,st,?_⟩
 dsimp only at q
 cases h1:fi δ with
 |stuck=>rw[h1]at q;exact q
 |ex c fs=>rw[h1]at q;exact q
 |ok ds=>
  rw[h1]at q
  intro J H1 k1 it a ha
  have q1:RF X.K xw W H (Se Nc t gc fe δ ds) Q:=q
  unfold Se at q1
  split at q1
  case isFalse=>exact q1.elim
  rename_i hlen
  have st1:=st.same k1
  cases hc:Re t gc fe ds (replicate Nc none++δ) with
  |stuck=>rw[hc]at q1;exact q1.elim
  |ex c fs=>rw[hc]at q1;exact q1.elim
  |ok all=>
  rw[hc]at q1
  have q2:∀ a xs H1,Same H H1->H1 a=none->HasL X.K W H1 all xs->Q (.ref a) (Eb H1 a (.lst xs)):=q1
  refine⟨λi m xs σ' H'=>∃ δ' acc rest,m=ds.length-i/\i<=ds.length/\StHas X.K W₀ (Eb H₀ a (.lst xs)) (λb=>W b\/b=a) H' σ' δ'/\H' a=some (.lst xs)/\(∀ b o,H1 b=some o->H' b=some o)/\
    HasL X.K (λb=>W b\/b=a) H' acc xs/\Re t gc fe (ds.drop i) δ'=.ok rest/\acc++rest=all/\xs.length<=i,
   ⟨_,replicate Nc none++δ,[],all,rfl,zero_le _,st1.block Nc ha,Ma,λb o e=>by rw[Da (Ka e ha)];exact e,HasL.nil,hc,rfl,zero_le _⟩,?_⟩
  rintro i m xs σ' H' ⟨δ',acc,rest,rfl,hi,st',hxs,ks,hacc,hrest,hall,hxl⟩
  refine⟨hxs,?_⟩
  have k':Step W H1 (λb=>W b\/b=a) H':=⟨λb o e _=>ks b o e,λb z=>z.elim .inl λz=>.inr (by rw[z];exact ha)⟩
  obtain⟨items,stop⟩:=it _ H' k' st'.fr.wl
  by_cases hl:i<ds.length
  .right
   have e:ds[i]? =some ds[i]:=getElem?_eq_getElem hl
   obtain⟨go,yld⟩:=items i _ e
   have ed:ds.drop i=ds[i]::ds.drop (i+1):=List.drop_eq_getElem_cons hl
   rw[ed]at hrest
   unfold Re at hrest
   refine⟨go,λx H3 z=>?_⟩
   obtain⟨k3,hx⟩:=yld x H3 z
   refine⟨W₀,_,_,δ',ds[i],st'.same k3,hx,?_⟩
   cases h2:t ds[i] δ' with
   |stuck=>rw[h2]at hrest;cases hrest
   |ex c fs=>rw[h2]at hrest;cases hrest
   |ok δ2=>
    rw[h2]at hrest
    dsimp only at hrest
    intro σ2 st2
    refine⟨W₀,_,_,δ2,st2,?_⟩
    cases h3:gc δ2 with
    |stuck=>rw[h3]at hrest;cases hrest
    |ex c fs=>rw[h3]at hrest;cases hrest
    |ok k=>
     rw[h3]at hrest
     intro H4 k4
     cases k with
     |false=>
      rw[if_neg Bool.false_ne_true]
      have hr':Re t gc fe (ds.drop (i+1)) δ2=.ok rest:=hrest
      exact⟨ds.length-(i+1),by omega,δ2,acc,rest,rfl,hl,st2.same k4,k4 _ _ (k3 _ _ hxs),λb o e=>k4 _ _ (k3 _ _ (ks b o e)),(hacc.same k3 st'.fr.wl).same k4 (st'.fr.wl.same k3),hr',hall,by omega⟩
     |true=>
      rw[if_pos rfl]
      have hr':(noex (fe δ2)).bind (λx=>(Re t gc fe (ds.drop (i+1)) δ2).bind λr=>.ok (x::r))=.ok rest:=hrest
      refine⟨W₀,_,_,δ2,st2.same k4,?_⟩
      cases h5:fe δ2 with
      |stuck=>rw[h5]at hr';cases hr'
      |ex c fs=>rw[h5]at hr';cases hr'
      |ok y=>
       rw[h5]at hr'
       intro v H5 k5 hv
       have hr2:(Re t gc fe (ds.drop (i+1)) δ2).bind (λr=>.ok (y::r))=.ok rest:=hr'
       cases h6:Re t gc fe (ds.drop (i+1)) δ2 with
       |stuck=>rw[h6]at hr2;cases hr2
       |ex c fs=>rw[h6]at hr2;cases hr2
       |ok r=>
        rw[h6]at hr2
        have er:y::r=rest:=by cases hr2;rfl
        have h5a:H5 a=some (.lst xs):=k5 _ _ (k4 _ _ (k3 _ _ hxs))
        have w3:=st'.fr.wl.same k3
        have w4:=w3.same k4
        have w5:=w4.same k5
        have acc5:=((hacc.same k3 st'.fr.wl).same k4 w3).same k5 w4
        have kk:Ph (λb=>W b\/b=a) H5 (Eb H5 a (.lst (xs++ [v]))):=λb o e n=>by
         rw[Da (λz=>n (.inr z))];exact e
        have sz:sizeLine=16777216:=sizeLine_eq
        refine⟨h5a,by omega,ds.length-(i+1),by omega,δ2,acc++ [y],r,rfl,hl,((st2.same k4).same k5).acc h5a (.inr rfl),Ma,λb o e=>?_,HasL.keep kk w5 (λb z=>.inl z) (acc5.snoc hv),h6,?_,?_⟩
        .rw[Da (Ka e ha)];exact k5 _ _ (k4 _ _ (k3 _ _ (ks b o e)))
        .rw[append_assoc];show acc++(y::r)=all;rw[er];exact hall
        .rw[length_append,length_singleton];omega
  .left
   have ei:i=ds.length:=by omega
   subst ei
   rw[List.drop_length]at hrest
   unfold Re at hrest
   have er:rest= []:=by cases hrest;rfl
   subst er
   rw[append_nil]at hall
   subst hall
   refine⟨stop,?_⟩
   have hm:(λb=>if b=a then none else H' b:Hp) a=none:=if_pos rfl
   have eu:Eb (λb=>if b=a then none else H' b:Hp) a (.lst xs)=H':=by
    funext b
    by_cases hb:b=a
    .rw[hb,Ma,hxs]
    .rw[Da hb,if_neg hb]
   have r:=q2 a xs (λb=>if b=a then none else H' b) (λb o e=>by
    have e1:=k1 b o e
    show(if b=a then none else H' b)=some o
    rw[if_neg (Ka e1 ha)];exact ks b o e1) hm (HasL.keep (W:=λb=>W b\/b=a) (W':=W) (λb o e n=>by show(if b=a then none else H' b)=some o;rw[if_neg (λz=>n (.inr z))];exact e) st'.fr.wl (λb z=>.inl (.inl z)) hacc)
   rw[eu]at r
   exact r
theorem EN(Nc Nx:List Str)(c:CompOk X scope Nc Nx)(hcalm:X.calm=true)(hi:DI X xw tg iter fi)(hY:∀ (C:Addr) (fp:List Addr) (pins:List (Addr×Obj)) (s:Shared) (H:Hp),DG (Lb X scope Nc Nx C fp pins s H) tg t/\OZ (Lb X scope Nc Nx C fp pins s H) ifs gc/\DE (Lb X scope Nc Nx C fp pins s H) Jm elt fe)(hs:∀ x,foldedSetIterable iter X.env x=pure x:=by intro _;rfl):
  DF X xw (.ListComp elt [⟨tg,iter,ifs,0⟩] scope pos) (λδ=>(fi δ).bind λds=>Se Nc.length t gc fe δ ds):=
 PE.weak (CQ (g:=Q3 X.K t) (tt:=QY X.K Jm gc) (te:=QS X.K Jm fe) c hcalm hi hY hs) λσ H Q q=>Yr q
theorem ON(i:Nat)(hN:X.N.Nodup)(Nc Nx:List Str)(c:CompOk X scope Nc Nx)(hcalm:X.calm=true)(hi:DI X xw tg iter fi)(hY:∀ (C:Addr) (fp:List Addr) (pins:List (Addr×Obj)) (s:Shared) (H:Hp),DG (Lb X scope Nc Nx C fp pins s H) tg t/\OZ (Lb X scope Nc Nx C fp pins s H) ifs gc/\DE (Lb X scope Nc Nx C fp pins s H) Jm elt fe)(hiN:X.N[i]? =some x:=by rfl)(hx:Ez X.env.scope x:=by first|exact Or.inl rfl|exact Or.inr rfl)(hsw:swapsWith (.ListComp elt [⟨tg,iter,ifs,0⟩] scope pos) (some (.Name x py)) spos.line X.env=pure true:=by rfl)(hf:X.fn x=true\/X.env.scope.names.lookup x=some .local:=by first|exact .inl rfl|exact .inr rfl|assumption)(hs:∀ x,foldedSetIterable iter X.env x=pure x:=by intro _;rfl):
  DS X xw (.Assign [.Name x py] (.ListComp elt [⟨tg,iter,ifs,0⟩] scope pos) spos) (λδ=>Rl ((fi δ).bind λds=>Se Nc.length t gc fe δ ds) λds=>.nx (δ.set i (some (.o ds)))):=
 PS.weak (SQ (g:=Q3 X.K t) (tt:=QY X.K Jm gc) (te:=QS X.K Jm fe) c hcalm hi hY hN hiN hx hsw hf hs) λDn σ H ⟨W₀,H₀,W,δ,st,q⟩=>Yr (Vx st q)
def OD(i:Nat)(δ:Ba)(r:Res D):Out:=match δ[i]? with
 |some (some (.o ds))=>@ite Out (ds.length<=100000) (propDecidable _) (Rl r λd=>.nx (δ.set i (some (.o (ds++ [d]))))) .stuck
 |_=>.stuck
theorem GE(i:Nat){p1 p3:Pos}(he:DE X xw e f)(hN:X.N[i]? =some x:=by rfl)(hv:Br X.env.scope x:=by first|exact Or.inl rfl|exact Or.inr (Or.inl rfl)|exact Or.inr (Or.inr rfl))(hd:(x==("__debug__":Str))=false:=by decide)(hcd:(x==("__classdict__":Str))=false:=by decide)(hsE:starEach [e] X.env=(false,eval e X.env)::starEach [] X.env:=by rfl)(hbase:attributeBase (.Name x p1) "append" X.env (eval (.Name x p1) X.env)=eval (.Name x p1) X.env:=by rfl)(hfew:((backTo p3 (starEach [e] X.env)).all (λx=> !x.1)&&(backToKw p3 (keywordEach [] X.env)).all (λx=>x.1.isSome)
   &&decide (([e]:List Expr).length+([]:List Keyword).length+(if([]:List Keyword).isEmpty then 0 else 1)<30))=true:=by rfl)(hline:(p2.endLine==p3.line)=true:=by rfl)(hplain:(backTo p3 (starEach [] X.env)).any (·.1)=false:=by rfl)(hsw:swapsWith (.Call (.Attribute (.Name x p1) "append" p2) [e] [] p3) none pos.line X.env=pure false:=by rfl):
  DS X xw (.Expr (.Call (.Attribute (.Name x p1) "append" p2) [e] [] p3) pos) (λδ=>OD i δ (f δ)):=
 PS.weak (Vl (LS PySem.F.plainAttrs_list PySem.F.slot_list_append PySem.F.type_list_append Xs (Pd hN hv hd hcd) (Hd he Nh hsE) hbase hfew hline hsE hplain) hsw) λDn σ H ⟨W₀,H₀,W,δ,st,q⟩=>by
  unfold OD at q
  dsimp only at q
  split at q
  .rename_i ds h
   split at q
   .rename_i hlen
    obtain⟨v,e1,a,xs,rfl,r2,r3,r4,r5⟩:=st.at' i _ h
    refine⟨_,e1,.inl ⟨rfl,xs,.of r4⟩,?_⟩
    refine Fi st q λH2 d u st2 hu q2=>?_
    obtain⟨v',e1',a',ys,e',r2',r3',r4',r5'⟩:=st2.at' i _ h
    rw[e1]at e1'
    cases e1'
    cases e'
    have sz:sizeLine=16777216:=sizeLine_eq
    refine⟨a,ys,u,rfl,rfl,r4',?_,?_⟩
    .rw[<-r5'.length];omega
    .refine q2 W _ σ ⟨λb o e n=>?_,λ_ z=>.inl z⟩ (st2.change h e1 r4' r2' (r5'.snoc hu))
     rw[Da (λz=>n (by rw[z];exact r2'))];exact e
   .exact q.elim
  .exact q.elim
def NY(K:Frag)(n:Nat)(m:List D->Res D):Sp:=λvs H Q _=>vs.length=n/\∃ W ds,WL W H/\HasL K W H ds vs/\match m ds with
 | .ok d=>∀ v H',Same H H'->Has K W H' d v->Q v H'
 |_=>False
structure Fn(P:Program)(w:World)(K:Frag)(mg:Str->Option Value)(base:Heap)(k:Nat)(x:Str)(n:Nat)(m:List D->Res D):Prop where
 ex:∃ f fd ps,FnOk P w K mg base Al k f fd ps (NY K n m)/\mg x=some (.ref f)/\keepIn K (.ref f)=true/\Binds K fd ps []
theorem Fn.mono(F:Fn P w K mg base j x n m)(h:j<=k):Fn P w K mg base k x n m:=by
 obtain⟨f,fd,ps,a,b⟩:=F.ex
 exact⟨f,fd,ps,a.mono h,b⟩
def Sa(n:Nat)(ds:List D):Ba:=ds.map (λd=>some (.d d))++replicate (n-ds.length) none
def Bg(n:Nat)(g:Ba->Out)(ds:List D):Res D:=match g (Sa n ds) with
 | .rt d=>.ok d
 | .nx _=>.ok .non
 |_=>.stuck
theorem Yj(w:WL W H)(r:HasL K W H ds vs):StHas K W H W H (L2.start N vs) (Sa N.length ds):=by
 have hl:=r.length
 have idx:∀ {α:Type} (l:List α) (j:Nat) (x:α) (m:Nat),(l.map some++replicate m none)[j]? =some (some x)->l[j]? =some x:=λl j x m e=>by
  by_cases hj:j<l.length
  .rw[List.getElem?_append_left (by simpa using hj),getElem?_map]at e
   cases q:l[j]? with
   |none=>rw[q]at e;cases e
   |some z=>rw[q]at e;cases e;rfl
  .rw[List.getElem?_append_right (by simpa using hj),List.getElem?_replicate]at e
   split at e<;>cases e
 have eS:Sa N.length ds=(ds.map S.d).map some++replicate (N.length-ds.length) none:=by
  unfold Sa;rw[map_map];rfl
 refine⟨⟨Same.refl _,λ_ z=>z,w,w⟩,?_,λi s e=>?_,λi j s1 s2 u u' a _ e1 _ _ _ os _=>?_⟩
 .unfold L2.start Sa;simp[hl]
 .rw[eS]at e
  have e':=idx _ _ _ _ e
  rw[getElem?_map]at e'
  cases q:ds[i]? with
  |none=>rw[q]at e';cases e'
  |some d=>
   rw[q]at e'
   cases e'
   obtain⟨x,h1,h2⟩:=r.get q
   refine⟨x,?_,h2⟩
   unfold L2.start
   have hi:i<vs.length:=(List.getElem?_eq_some_iff.mp h1).1
   rw[List.getElem?_append_left (by simpa using hi),getElem?_map,h1];rfl
 .rw[eS]at e1
  have e':=idx _ _ _ _ e1
  rw[getElem?_map]at e'
  cases q:ds[i]? with
  |none=>rw[q]at e';cases e'
  |some d=>rw[q]at e';cases e';exact os
theorem GO{fa:Addr}(F:Fun K x qual st fa fd)(S:FnScope N ps (Ca st))(hm:mg x=some (.ref fa))(hb:Binds K fd ps [])(body:∀ (cdv:Value) (A:Around) (outer:List Env) (s:Shared) (H:Hp) (E:XK),Room k (A.deeper (envOfC qual (Ca st) s.heap.objs.size fa cdv))->
   KG (Ak Al P w K mg base N qual (Ca st) fa cdv A outer s H E).nox Jm (Va st) g):Fn P w K mg base (k+1) x ps.length (Bg N.length g):=by
 refine⟨fa,fd,ps,F.ok S (λvs H Q E h=>h.1) (λcdv A outer s H vs Q E hr h=>?_),hm,F.kp,hb⟩
 obtain⟨hl,W,ds,hw,hd,q⟩:=h
 refine⟨_,body cdv A outer s H E hr,W,H,W,Sa N.length ds,Yj hw hd,?_⟩
 unfold Bg at q
 cases h:g (Sa N.length ds) with
 |rt d=>rw[h]at q;exact λv H' k hv=>q v H' k hv
 |nx δ=>rw[h]at q;exact λW' H' σ' k st'=>q .non H' st'.fr.ext (by rw[Has])
 |bk δ=>rw[h]at q;exact q.elim
 |ct δ=>rw[h]at q;exact q.elim
 |ex c fs=>rw[h]at q;exact q.elim
 |stuck=>rw[h]at q;exact q.elim
def Oa(n:Nat)(m:List D->Res D)(ds:List D):Res D:=if ds.length=n then noex (m ds) else .stuck
theorem ZM{a:Expr}{fs:Ba->Res (List D)}{p:Pos}(F:Fn X.prog X.w X.K X.mg X.base k x n m)(hr:Room k X.A)(ha:DA X xw (a::es) fs)(hg:Gl X x:=by rfl)(hdb:(x==("__debug__":Str))=false:=by decide)(he:starEach (a::es) X.env=(false,eval a X.env)::starEach es X.env:=by rfl)(hpl:(backTo pos (starEach es X.env)).any (·.1)=false:=by rfl):
  DE X xw (.Call (.Name x p) (a::es) [] pos) (λδ=>(fs δ).bind λds=>Oa n m ds):=by
 obtain⟨fa,fd,ps,G,hm,hk,hb⟩:=F.ex
 refine PE.weak (Gv G hr hg hm hk hb .nil KS ha hdb he hpl) λσ H Q ⟨W₀,H₀,W,δ,st,q⟩=>?_
 refine Qh st q λH2 ds vs k w st2 hv _ q2=>?_
 unfold Oa at q2
 split at q2
 .rename_i hn
  rw[append_nil]
  refine⟨by rw[<-hv.length];exact hn,W,ds,w,hv,?_⟩
  cases h:m ds with
  |ok d=>rw[h]at q2;exact q2
  |ex c fs=>rw[h]at q2;exact q2
  |stuck=>rw[h]at q2;exact q2
 .exact q2.elim
theorem XD{a:Expr}{fa:Ba->Res D}{id:String}{p:Pos}(hc:Bl X (.builtin id) r)(hop:∀ W H d v Q,WL W H->HasT X.K W H d v->RE X.K xw W H (op d) Q->r [v] H Q)(hm:X.mg x=none)(hv:bootBuiltins x=some (.builtin id))(ha:DP X xw a fa)(hg:Gl X x)(hn:x≠"__name__")(hdb:(x==("__debug__":Str))=false)(he:starEach [a] X.env=(false,eval a X.env)::starEach [] X.env)(hpl:(backTo pos (starEach [] X.env)).any (·.1)=false):DE X xw (.Call (.Name x p) [a] [] pos) (λδ=>(fa δ).bind op):=
 PE.weak (Nq hc hg hm hv (Hd ha Nh he) hn hdb he hpl) λσ H Q ⟨W₀,H₀,W,δ,st,q⟩=>Ai st q λH2 d v k w st2 hv _ q2=>hop W H2 d v Q w hv q2
theorem YD{a:Expr}{fa:Ba->Res D}{id:String}{p:Pos}(hc:Bl X (.type id) r)(hop:∀ W H d v Q,WL W H->HasT X.K W H d v->RE X.K xw W H (op d) Q->r [v] H Q)(hm:X.mg x=none)(hv:bootBuiltins x=some (.type id))(ha:DP X xw a fa)(hg:Gl X x)(hn:x≠"__name__")(hdb:(x==("__debug__":Str))=false)(he:starEach [a] X.env=(false,eval a X.env)::starEach [] X.env)(hpl:(backTo pos (starEach [] X.env)).any (·.1)=false):DE X xw (.Call (.Name x p) [a] [] pos) (λδ=>(fa δ).bind op):=
 PE.weak (Ft hc hg hm hv (Hd ha Nh he) hn hdb he hpl) λσ H Q ⟨W₀,H₀,W,δ,st,q⟩=>Ai st q λH2 d v k w st2 hv _ q2=>hop W H2 d v Q w hv q2
def Sk:D->Res D
 | .tup ds=>.ok (.int ds.length)
 | .lst ds=>.ok (.int ds.length)
 | .str z=>@ite (Res D) (z.length<=sizeLine) (propDecidable _) (.ok (.int z.length)) .stuck
 |_=>.stuck
variable {p:Pos}
theorem VT(hm:X.mg "len"=none)(ha:DP X xw a fa)(hg:Gl X "len":=by rfl)(he:starEach [a] X.env=(false,eval a X.env)::starEach [] X.env:=by rfl)(hpl:(backTo pos (starEach [] X.env)).any (·.1)=false:=by rfl):
  DE X xw (.Call (.Name "len" p) [a] [] pos) (λδ=>(fa δ).bind Sk):=
 XD WG (λW H d v Q w hv q=>by
  unfold Sk at q
  split at q
  .obtain⟨p,xs,e,sq,r⟩:=hv.tup
   rw[e]
   exact⟨_,xs.length,rfl,.inr ⟨xs,sq,rfl⟩,by rw[<-r.length];exact q.int⟩
  .obtain⟨p,xs,e,sq,r⟩:=hv.lst
   rw[e]
   exact⟨_,xs.length,rfl,.inl ⟨xs,sq,rfl⟩,by rw[<-r.length];exact q.int⟩
  .split at q
   .rename_i hz
    rw[hv.str]
    exact⟨_,_,rfl,⟨hz,rfl⟩,q.int⟩
   .exact q.elim
  .exact q.elim) hm PySem.boot_len ha hg (by decide) (by decide) he hpl
end
def kD(d:D):Ba->Res D:=λ_=>.ok d
def b1(op:α->Res β)(f:Ba->Res α):Ba->Res β:=λδ=>(f δ).bind op
def b2(op:D->D->Res D)(f g:Ba->Res D):Ba->Res D:=λδ=>(f δ).bind λx=>(g δ).bind λy=>op x y
def b3(op:D->Option Int->Option Int->Res β)(f:Ba->Res D)(g h:Ba->Res (Option Int)):Ba->Res β:=λδ=>(f δ).bind λx=>(g δ).bind λl=>(h δ).bind λu=>op x l u
def F3(op op':D->D->Res D)(fa fb fc:Ba->Res D):Ba->Res D:=λδ=>(fa δ).bind λx=>(fb δ).bind λy=>Np op op' x y (fc δ)
def tR(f:Ba->Res D):Ba->Res Bool:=λδ=>(f δ).bind Nn
def Xd(a b:Ba->Res Bool):Ba->Res Bool:=λδ=>AT (a δ) (b δ)
def Uv(a b:Ba->Res Bool):Ba->Res Bool:=λδ=>D5 (a δ) (b δ)
def Ei(a:Ba->Res Bool):Ba->Res Bool:=λδ=>(a δ).bind λk=>.ok (!k)
def UR(a b:Ba->Res D):Ba->Res D:=λδ=>XZ (a δ) (b δ)
def T3(a b:Ba->Res D):Ba->Res D:=λδ=>V6 (a δ) (b δ)
def S3(c:Ba->Res Bool)(a b:Ba->Res D):Ba->Res D:=λδ=>(c δ).bind λk=>if k=true then a δ else b δ
def Ia:Ba->Res (List D):=λ_=>.ok []
def Aa(f:Ba->Res D)(fs:Ba->Res (List D)):Ba->Res (List D):=λδ=>TB (f δ) (fs δ)
def Gk:Ba->Res (Option Int):=λ_=>.ok none
def Af(f:Ba->Res (List D)):Ba->Res D:=λδ=>(f δ).bind λds=>.ok (.lst ds)
def Sb(n:Nat)(t:D->Ba->Res Ba)(gc:Ba->Res Bool)(fe:Ba->Res D)(fi:Ba->Res (List D)):Ba->Res (List D):=λδ=>(fi δ).bind λds=>Se n t gc fe δ ds
def Jb(g1 g2:Ba->Out):Ba->Out:=λδ=>Wk (g1 δ) g2
def Kb(i:Nat)(f:Ba->Res D):Ba->Out:=λδ=>Rl (f δ) λd=>.nx (δ.set i (some (.d d)))
def We(i:Nat)(f:Ba->Res (List D)):Ba->Out:=λδ=>Rl (f δ) λds=>.nx (δ.set i (some (.o ds)))
def Yf(c:Ba->Res Bool)(a b:Ba->Out):Ba->Out:=λδ=>T0 (c δ) (a δ) (b δ)
def Gh(t:D->Ba->Res Ba)(g:Ba->Out)(fi:Ba->Res (List D)):Ba->Out:=λδ=>Rl (fi δ) λds=>Eh t g ds δ
def Uk(n:Nat)(c:Ba->Res Bool)(g:Ba->Out):Ba->Out:=λδ=>Qd c g n δ
def UA(i:Nat)(f:Ba->Res D):Ba->Out:=λδ=>OD i δ (f δ)
def Rb(f:Ba->Res D):Ba->Out:=λδ=>Rl (f δ) λd=>.rt d
def VC:Ba->Out:=λ_=>.rt .non
def Wn(f:Ba->Res D):Ba->Out:=λδ=>Rl (f δ) λ_=>.nx δ
def O4(t:D->Ba->Res Ba)(δ:Ba)(d:D):Out:=match t d δ with
 | .ok δ'=>.nx δ'
 |_=>.stuck
def ZQ(t:D->Ba->Res Ba)(f:Ba->Res D):Ba->Out:=λδ=>Rl (f δ) (O4 t δ)
section
variable {p:Pos}{t:D->Ba->Res Ba}{fs:Ba->Res (List D)}
theorem I0:DS X xw st (λ_=>.stuck):=PS.weak HK λDn σ H ⟨W₀,H₀,W,δ,st,q⟩=>q
theorem Bt{op:D->Res (List D)}(st:StHas X.K W₀ H₀ W H σ δ)(q:RF X.K xw W H ((fa δ).bind op) Q)(h:∀ H2 d v,Same H H2->WL W H2->StHas X.K W₀ H₀ W H2 σ δ->HasT X.K W H2 d v->fa δ= .ok d->RF X.K xw W H2 (op d) Q->R v H2):
  NR X.K xw fa σ H λx H1=>R x H1:=by
 refine⟨W₀,H₀,W,δ,st,?_⟩
 cases h1:fa δ with
 |stuck=>rw[h1]at q;exact q
 |ex c fs=>rw[h1]at q;exact q
 |ok d=>
  rw[h1]at q
  intro v H1 k1 hv
  exact h H1 d v k1 (st.fr.wl.same k1) (st.same k1) hv h1 (RF.same (r:=op d) q k1)
def Eg:D->Res (List D)
 | .tup ds=>.ok ds
 | .lst ds=>.ok ds
 |_=>.stuck
theorem AE(hm:X.mg "list"=none)(ha:DP X xw a fa)(hg:Gl X "list":=by rfl)(he:starEach [a] X.env=(false,eval a X.env)::starEach [] X.env:=by rfl)(hpl:(backTo pos (starEach [] X.env)).any (·.1)=false:=by rfl):
  DF X xw (.Call (.Name "list" p) [a] [] pos) (b1 Eg fa):=
 PE.weak (Ft Bu hg hm (by decide +kernel) (Hd ha Nh he) (by decide) (by decide) he hpl) λσ H Q ⟨W₀,H₀,W,δ,st,q⟩=>Bt st q λH2 d v k w st2 hv _ q2=>by
  unfold Eg at q2
  split at q2
  .obtain⟨p,xs,e,sq,r⟩:=hv.tup
   rw[e]
   exact⟨p,xs,rfl,.inr sq,λl hl=>q2 l xs H2 (Same.refl _) hl r⟩
  .obtain⟨p,xs,e,sq,r⟩:=hv.lst
   rw[e]
   exact⟨p,xs,rfl,.inl sq,λl hl=>q2 l xs H2 (Same.refl _) hl r⟩
  .exact q2.elim
def GL:D->Res D
 | .tup ds=>.ok (.tup ds)
 | .lst ds=>.ok (.tup ds)
 |_=>.stuck
def Y4:List D->Res D
 | [.int i,.int j]=>.ok (.int (max i j))
 |_=>.stuck
def Z4:List D->Res D
 | [.int i,.int j]=>.ok (.int (min i j))
 |_=>.stuck
def K4:D->Res D
 | .int i=>.ok (.int (if i<0 then -i else i))
 |_=>.stuck
def O7(d:D)(lo hi:Option Int):Res D:=match d with
 | .tup ds=>if whole ds.length lo hi then .stuck else .ok (.tup (cutD ds lo hi))
 | .lst ds=>.ok (.lst (cutD ds lo hi))
 |_=>.stuck
def W4(K:Frag)(tl:TE):TI:=λσ H R=>tl σ H λx H1=>∃ a,x=.ref a/\(((∃ xs,SqL K H1 a xs)/\R (D4 K a) H1)\/((∃ xs,SqT K H1 a xs)/\R (E4 K a) H1))
theorem JX{l:Expr}{tl:TE}(hl:PE X l tl):PI X tg l (W4 X.K tl):=by
 intro pins s σ H R I h
 refine thn (hl pins s σ H _ I h) λv s1 ⟨x,H1,I1,r1,q1⟩=>?_
 obtain⟨a,e,q1⟩:=q1
 subst e
 cases r1
 rcases q1 with⟨⟨xs,hq⟩,q⟩|⟨⟨xs,hq⟩,q⟩
 .obtain⟨its,rv,p,hz⟩:=I1.list hq
  refine wpAny_pyIter_list p.isList ?_
  refine⟨s1.heap.objs.size,[s1.heap.objs.size],_,_,H1,rfl,I1.kept (t':=s1.toks) λb o e=>get?_push_of_some _ e,CG a _,⟨_,get?_push_size _ rfl,rfl,rfl⟩,λb hb=>?_,q⟩
  have e:b=s1.heap.objs.size:=by simpa using hb
  subst e
  exact I1.fpOk (le_refl _) (I1.hok.fresh (le_refl _))
 .obtain⟨its,rv,p,hz⟩:=I1.tuple hq
  refine wpAny_pyIter_tuple (show s1.heap.IsTuple a its.toArray from p) ?_
  refine⟨s1.heap.objs.size,[s1.heap.objs.size],_,_,H1,rfl,I1.kept (t':=s1.toks) λb o e=>get?_push_of_some _ e,GB a _,⟨_,get?_push_size _ rfl,rfl,rfl⟩,λb hb=>?_,q⟩
  have e:b=s1.heap.objs.size:=by simpa using hb
  subst e
  exact I1.fpOk (le_refl _) (I1.hok.fresh (le_refl _))
theorem IU(h:DE X xw e f):DI X xw tg e (b1 Eg f):=PI.weak (JX h) λσ H R ⟨W₀,H₀,W,δ,st,q⟩=>by
 refine⟨W₀,H₀,W,δ,st,?_⟩
 simp only[b1]at q
 cases h1:f δ with
 |stuck=>rw[h1]at q;exact q
 |ex c fs=>rw[h1]at q;exact q
 |ok d=>
  rw[h1]at q
  intro v H1 k1 hv
  cases d with
  |lst ds=>
   rw[Has]at hv
   obtain⟨a,xs,e,sq,r⟩:=hv
   exact⟨a,e,.inl ⟨⟨xs,sq.sq⟩,q _ H1 k1 (NV (st.fr.wl.same k1) sq r)⟩⟩
  |tup ds=>
   rw[Has]at hv
   obtain⟨a,xs,e,sq,r⟩:=hv
   exact⟨a,e,.inr ⟨⟨xs,sq⟩,q _ H1 k1 (OV (st.fr.wl.same k1) sq r)⟩⟩
  |_=>exact q.elim
theorem HH(h:Heap)(hb:sysModules<h.objs.size):ObjOk P w H (h.push {cls:=.type "dict",data:=.dict #[]}) h.objs.size (.dK []):=
 ⟨zero_le _,beq_eq_false_iff_ne.mpr (Ne.symm (ne_of_lt hb)),[],.nil,Heap.DictOf.new h⟩
end
def Tn(d:D):Res D:=match d with
 | .non=>.ok (.bl false)
 |_=>.ok (.bl true)
theorem NH{j pos'}(ha:DP X xw a fa):DT X xw (.Compare a [.IsNot] [.Constant .none j pos'] pos) (tR (b1 Tn fa)):=
 DE.t_of (f:=b1 Tn fa) (PT.weak (LK (AQ ha)) λσ H Q q=>by
  obtain⟨W₀,H₀,W,δ,st,q⟩:=q
  exact Ai st q λH2 d v k w st2 hv _ q2=>by
   unfold Tn at q2
   split at q2
   .rw[hv.non];exact q2.bl
   .rename_i hd
    rw[decide_eq_false (hv.isN hd)];exact q2.bl)
theorem Bk(hr:Room k A):A.units+40<cLine:=by have:=hr.units;omega
theorem YH{fa:Addr}(F:Fun K x qual st fa fd)(S:FnScope N ps (Ca st))(body:∀ (cdv:Value) (A:Around) (outer:List Env) (s:Shared) (H:Hp) (E:XK),Room k (A.deeper (envOfC qual (Ca st) s.heap.objs.size fa cdv))->
   KG (Ak Al P w K mg base N qual (Ca st) fa cdv A outer s H E).nox Jm (Va st) g):FnOk P w K mg base Al (k+1) fa fd ps (NY K ps.length (Bg N.length g)):=by
 refine F.ok S (λvs H Q E h=>h.1) (λcdv A outer s H vs Q E hr h=>?_)
 obtain⟨hl,W,ds,hw,hd,q⟩:=h
 refine⟨_,body cdv A outer s H E hr,W,H,W,Sa N.length ds,Yj hw hd,?_⟩
 unfold Bg at q
 cases h:g (Sa N.length ds) with
 |rt d=>rw[h]at q;exact λv H' k hv=>q v H' k hv
 |nx δ=>rw[h]at q;exact λW' H' σ' k st'=>q .non H' st'.fr.ext (by rw[Has])
 |bk δ=>rw[h]at q;exact q.elim
 |ct δ=>rw[h]at q;exact q.elim
 |ex c fs=>rw[h]at q;exact q.elim
 |stuck=>rw[h]at q;exact q.elim
def BD(K:Frag):Sp:=λvs H Q _=>∃ (a:Addr) (ns:List Int),vs= [.ref a]/\SqL K H a (ns.map V.int)/\ns.length<=63/\∀ H',Q (.bl true) H'
theorem BW{f:Addr}(G:FnOk P w K mg base Al k f fd ps (NY K 1 m))(h:∀ ns:List Int,ns.length<=63->m [.lst (ns.map D.int)]=.ok (.bl true)):FnOk P w K mg base Al k f fd ps (BD K):=by
 refine G.imp λvs H Q E q=>?_
 obtain⟨a,ns,rfl,sq,hl,q⟩:=q
 refine⟨rfl,λ_=>False,[.lst (ns.map D.int)],λb z=>z.elim,HasL.cons ?_ HasL.nil,?_⟩
 .rw[Has]
  refine⟨a,_,rfl,?_,HasL.ints⟩
  rcases sq with(z|z)|z
  .exact .inl ⟨z,λz=>z⟩
  .exact .inr (.inl z)
  .exact .inr (.inr z)
 .rw[h ns hl]
  intro v H' k hv
  rw[Has]at hv
  rw[hv]
  exact q H'
end L3
namespace L3
open PySem
variable{prog:Program}{w:World}{A:Around}{E Q:Value->Shared->Prop}{s:Shared}{it:Addr}{i:Nat}{items:Array Value}{x:Value}
theorem GA{t:Addr}(hi:s.heap.IsTupleIter it t i)(ht:s.heap.IsTuple t items)(hx:items[i]? =some x)(hQ:∀ h',h'.IsTupleIter it t (i+1)->SameBut it s.heap h'->Q x {s with heap:=h'}):wpAny (model prog w) A (Builtin.SmallTypes.nextOf (.ref it)) Q E s:=by
 obtain⟨o,h1,h2,h3⟩:=id hi
 obtain⟨u,g1,g2,m,g3⟩:=ht
 unfold Builtin.SmallTypes.nextOf
 refine wpAny_bind (wpAny_callSpecial?_slot (name:=Str.ofString "__next__") hi.typeIs F.slot_tuple_iterator_next (wpAny_call_entry F.slot_tuple_iterator_next hi.typeIs F.entry_tuple_iterator_next ?_ (F.args_tuple_iterator_next_1 _)))
 show wpAny _ _ (field (.ref it) 0 >>= _) _ _ s;refine wpAny_bind (wpAny_field h1 h3 (x:=.ref t) rfl ?_)
 show wpAny _ _ (if(Value.ref t==Value.none)=true then _ else _) _ _ s;rw[if_neg (show ¬ ((Value.ref t==Value.none)=true) from Bool.false_ne_true)]
 show wpAny _ _ (field (.ref it) 1 >>= _) _ _ s;refine wpAny_bind (wpAny_field h1 h3 (x:=.int i 0) rfl ?_)
 show wpAny _ _ (seqItems? (.ref t) >>= _) _ _ s;refine wpAny_bind (wpAny_seqItems g1 g3 ?_)
 simp only[Int.toNat_natCast,hx]
 refine wpAny_bind (wpAny_setField h1 h3 (by simp) (wpAny_pure ⟨x,rfl,wpAny_pure (hQ _ ⟨_,Heap.get?_update_self _ h1 (Obj.isFreed_of_fields (Obj.data_mapFields h3 _)),(Obj.cls_mapFields ..).trans h2,?_⟩ (SameBut.update ..))⟩))
 rw[Obj.data_mapFields h3];simp[rawInt]
theorem MF{t:Addr}(hh:A.handled=none)(hi:s.heap.IsTupleIter it t i)(ht:s.heap.IsTuple t items)(hx:items[i]? =none)(hE:∀ h' e,Heap.ExtBut it s.heap h'->(∃ o,h'.get? e=some o/\o.cls=.type "StopIteration")->E (.ref e) {s with heap:=h'}):wpAny (model prog w) A (Builtin.SmallTypes.nextOf (.ref it)) Q E s:=by
 obtain⟨o,h1,h2,h3⟩:=id hi
 obtain⟨u,g1,g2,m,g3⟩:=ht
 unfold Builtin.SmallTypes.nextOf
 refine wpAny_bind (wpAny_callSpecial?_slot (name:=Str.ofString "__next__") hi.typeIs F.slot_tuple_iterator_next (wpAny_call_entry F.slot_tuple_iterator_next hi.typeIs F.entry_tuple_iterator_next ?_ (F.args_tuple_iterator_next_1 _)))
 show wpAny _ _ (field (.ref it) 0 >>= _) _ _ s;refine wpAny_bind (wpAny_field h1 h3 (x:=.ref t) rfl ?_)
 show wpAny _ _ (if(Value.ref t==Value.none)=true then _ else _) _ _ s;rw[if_neg (show ¬ ((Value.ref t==Value.none)=true) from Bool.false_ne_true)]
 show wpAny _ _ (field (.ref it) 1 >>= _) _ _ s;refine wpAny_bind (wpAny_field h1 h3 (x:=.int i 0) rfl ?_)
 show wpAny _ _ (seqItems? (.ref t) >>= _) _ _ s;refine wpAny_bind (wpAny_seqItems g1 g3 ?_)
 simp only[Int.toNat_natCast,hx]
 refine wpAny_bind (wpAny_rule (wpAny_bind (wpAny_setField h1 h3 (by simp) ?_)));show wpAny _ _ (newExc (.type "StopIteration") [] >>= _) _ _ _
 refine wpAny_bind ?_;simp only[newExc,newTuple]
 refine wpAny_bind (wpAny_newObj_type ?_ (by size_fits));refine wpAny_bind (m:=firstArgMember _ _) (wpAny_of_eq (a:=Value.none) (by first|rfl|(simp only[firstArgMember];rfl)) ?_)
 refine wpAny_newObj_type ?_ (by size_fits);simp only[raiseNew]
 refine wpAny_bind (wpAny_handled ?_);first|rw[show A.in1.handled=none from hh]|rw[hh]
 refine wpAny_bind (wpAny_pure (wpAny_throw (hE _ _ (((SameBut.update ..).extBut.push _).push _) ⟨_,get?_push_size _ rfl,rfl⟩)))
theorem KU(hh:A.handled=none)(it t:Addr)(hne:t≠it)(items:Array Value):Draws prog w A it [it,t] items.size (λi v=>items[i]? =some v) (λi h=>h.IsTupleIter it t i/\h.IsTuple t items) where
 live:=λ_ _ st=>let ⟨o,ho,_⟩:=st.1;⟨o,ho⟩
 frame:=λ_ _ _ st hk=>⟨let ⟨o,e,r⟩:=st.1;⟨o,hk it (by simp) o e,r⟩,let ⟨o,e,r⟩:=st.2;⟨o,hk t (by simp) o e,r⟩⟩
 item:=λi s Q E hi st hQ=>GA st.1 st.2 (x:=items[i]) (by simp[hi]) λh' z hs=>hQ _ h' s.toks (by simp[hi]) ⟨z,let ⟨o,e,r⟩:=st.2;⟨o,hs.extBut _ _ hne e,r⟩⟩ hs
 done:=λs Q E st hE=>MF hh st.1 st.2 (by simp) hE
structure ZA(z TI TO i1 i2:Addr)(f1 f2:List Addr):Prop where
 a1:TI≠z
 a2:TO≠z
 a3:TI≠TO
 m1:i1∈f1
 m2:i2∈f2
 z1:z∉f1
 z2:z∉f2
 o1:TO∉f1
 o2:TO∉f2
 t1:TI∉f1
 t2:TI∉f2
 x1:i2∉f1
 x2:i1∉f2
variable{z i1 i2:Addr}{k:Nat}{a b:Value}
section
variable {TI TO:Addr}{f1 f2:List Addr}{n1 n2:Nat}{P1 P2:Nat->Value->Prop}{S1 S2:Nat->Heap->Prop}
end
def IsSq(tup:Bool)(h:Heap)(l:Addr)(xs:Array Value):Prop:=match tup with
 |true=>h.IsTuple l xs
 |false=>h.IsList l xs
def N3(tup:Bool)(l:Addr):Obj:=match tup with
 |true=> {cls:=.type "tuple_iterator",data:=.fields #[.ref l,.int 0 0]}
 |false=> {cls:=.type "list_iterator",data:=.fields #[.ref l,.int 0 0]}
def SqI(tup:Bool)(h:Heap)(i l:Addr)(k:Nat):Prop:=match tup with
 |true=>h.IsTupleIter i l k
 |false=>h.IsListIter i l k
variable{i l:Addr}{h':Heap}
theorem SqI.at'{tup:Bool}{h:Heap}(q:SqI tup h i l k)(f:∀ o,h.get? i=some o->h'.get? i=some o):SqI tup h' i l k:=by
 cases tup with
 |true=>obtain⟨o,e,r⟩:=q;exact⟨o,f o e,r⟩
 |false=>obtain⟨o,e,r⟩:=q;exact⟨o,f o e,r⟩
theorem SqI.rec{tup:Bool}{h:Heap}(q:SqI tup h i l k):∃ o vs,h.get? i=some o/\o.data=.fields vs:=by
 cases tup with
 |true=>obtain⟨o,e,_,r⟩:=q;exact⟨o,_,e,r⟩
 |false=>obtain⟨o,e,_,r⟩:=q;exact⟨o,_,e,r⟩
variable{xs:Array Value}
theorem IsSq.lt{tup:Bool}{h:Heap}(q:IsSq tup h l xs):l<h.objs.size:=by
 cases tup with
 |true=>obtain⟨o,e,_⟩:=q;exact lt_size e
 |false=>obtain⟨o,e,_⟩:=q;exact lt_size e
theorem JH(hh:A.handled=none)(tup:Bool)(it l:Addr)(hne:l≠it)(xs:Array Value):Draws prog w A it [it,l] xs.size (λi v=>xs[i]? =some v) (λi h=>SqI tup h it l i/\IsSq tup h l xs):=by
 cases tup with
 |true=>exact KU hh it l hne xs
 |false=>exact Draws.list hh it l hne xs
theorem Tv{tup:Bool}(q:IsSq tup s.heap l xs)(h:Q (.ref s.heap.objs.size) {s with heap:=s.heap.push (N3 tup l)}):
  wpAny (model prog w) A (pyIter (.ref l)) Q E s:=by
 cases tup with
 |true=>exact wpAny_pyIter_tuple q h
 |false=>exact wpAny_pyIter_list q h
section
variable {TI TO l1 l2:Addr}{t1 t2:Bool}{ys:Array Value}{y:Value}
end
open PySem.Spec PyProof.Rows L2
def ES(t:Bool)(K:Frag)(H:Hp)(l:Addr)(xs:List V):Prop:=match t with
 |true=>SqT K H l xs
 |false=>SqL K H l xs
variable{xs:List V}{X:Cx}{H:Hp}{t':Nat}{ch:List Addr}
section
variable {pins:List (Addr×Obj)}{σ:L2.St}
theorem Yz(I:Inv X pins σ H s){t:Bool}(h:ES t X.K H l xs):∃ its:List Value,Vals xs its/\IsSq t s.heap l its.toArray/\xs.length<=sizeLine:=by
 cases t with
 |true=>obtain⟨its,r,p,z⟩:=I.tuple h;exact⟨its,r,p,z⟩
 |false=>obtain⟨its,r,p,z⟩:=I.list h;exact⟨its,r,p.isList,z⟩
theorem Zz(I:Inv X pins σ H s){t:Bool}{ys:List V}(h:ES t X.K H l xs)(h':ES t X.K H l ys):xs=ys:=by
 cases t with
 |true=>exact I.tuple_inj h h'
 |false=>exact I.list_inj h h'
theorem WE{n:Addr}{its:List Value}(I:Inv X pins σ H s)(hf:∀ b∈ch,Jk X pins H b)(k:∀ b o,b∉ch->s.heap.get? b=some o->h'.get? b=some o)(hn:s.heap.objs.size<=n)(r:Vals xs its)(hz:xs.length<=sizeLine)(new:IsTup h' n its.toArray):Inv X pins σ (Eb H n (.tup xs)) {s with heap:=h',toks:=t'}:=by
 have hfree:=I.hok.fresh hn
 have nch:∀ b u,H b=some u->b∉ch:=λb u e m=>by rw[(hf b m).1]at e;cases e
 have nn:∀ b o,s.heap.get? b=some o->b≠n:=λb o e=>ne_of_lt (lt_of_lt_of_le (lt_size e) hn)
 refine I.step (g':=s.gens) (d':=s.drawn) (ch:=ch) (λb hb=>⟨(hf b hb).2.2.2.1,(hf b hb).2.1,(hf b hb).2.2.2.2.1,(hf b hb).2.2.2.2.2⟩) (λb o _ _ hc e _=>k b o hc e) (λb o _ _ hc e _=>⟨o.slots,k b o hc e⟩)
  (λb o hc e q=>by rw[Da (nn b o e)];exact q) (λb o hc e=>⟨o,k b o hc e⟩) (λb ys e=>by rw[Da (Ka e hfree)];exact e) (λb o u e=>by rw[Da (Ka e hfree)];exact e)
  (λb ps e=>⟨#[],by rw[Da (Ka e hfree),e];simp⟩) (λm hm=>?_) (λb u e=>?_) I.bare
 .obtain⟨o,es,ep,ho,q⟩:=hm
  exact⟨o,es,ep,k _ o (λz=>(hf _ z).2.1 rfl) ho,q⟩
 .by_cases hb:b=n
  .subst hb
   rw[Ma]at e;cases e
   exact⟨hz,its,r,new⟩
  .rw[Da hb]at e
   refine(I.hok b u e).stay (λc v hc q=>k c v ?_ q) (λc q=>by rw[Da (Ka q hfree)];exact q) λc ys q=>by rw[Da (Ka q hfree)];exact q
   rcases hc with z|z
   .rw[z];exact nch b u e
   .exact nch c _ z
theorem YE(I:Inv X pins σ H s)(hf:∀ b∈ch,Jk X pins H b)(k:∀ b o,b∉ch->s.heap.get? b=some o->h'.get? b=some o):Inv X pins σ H {s with heap:=h',toks:=t'}:=by
 have nch:∀ b u,H b=some u->b∉ch:=λb u e m=>by rw[(hf b m).1]at e;cases e
 refine I.step (g':=s.gens) (d':=s.drawn) (ch:=ch) (λb hb=>⟨(hf b hb).2.2.2.1,(hf b hb).2.1,(hf b hb).2.2.2.2.1,(hf b hb).2.2.2.2.2⟩) (λb o _ _ hc e _=>k b o hc e) (λb o _ _ hc e _=>⟨o.slots,k b o hc e⟩)
  (λ_ _ _ _ q=>q) (λb o hc e=>⟨o,k b o hc e⟩) (λ_ _ e=>e) (λ_ _ _ e=>e) (λb ps e=>⟨#[],by rw[e];simp⟩) (λm hm=>?_) (λb u e=>?_) I.bare
 .obtain⟨o,es,ep,ho,q⟩:=hm
  exact⟨o,es,ep,k _ o (λz=>(hf _ z).2.1 rfl) ho,q⟩
 .refine(I.hok b u e).stay (λc v hc q=>k c v ?_ q) (λ_ q=>q) λ_ _ q=>q
  rcases hc with z|z
  .rw[z];exact nch b u e
  .exact nch c _ z
end
variable{a b:Expr}{xw:XW}{pos:Pos}{K:Frag}
section
variable {elts:List Expr}{kt:Nat}{pt p:Pos}{fs:Ba->Res (List D)}
def KI:D->Option (List D)
 | .tup ds=>some ds
 | .lst ds=>some ds
 |_=>none
theorem OY{W:WS}{d:D}{v:V}{ds:List D}(w:WL W H)(h:Has K W H d v)(e:KI d=some ds):
  ∃ t l xs,v=.ref l/\HasL K W H ds xs/\∀ W' H2,Step W H W' H2->ES t K H2 l xs:=by
 cases d with
 |tup es=>
  cases e
  rw[Has]at h
  obtain⟨a,xs,e1,sq,r⟩:=h
  exact⟨true,a,xs,e1,r,λW' H2 k=>Uq k.keep w sq⟩
 |lst es=>
  cases e
  rw[Has]at h
  obtain⟨a,xs,e1,sq,r⟩:=h
  exact⟨false,a,xs,e1,r,λW' H2 k=>(sq.keep k.keep w k.new).sq⟩
 |_=>cases e
end
variable{i:Int}
section
variable {α β:Type}
theorem Ua(a:α)(k:α->Out):Rl (.ok a) k=k a:=rfl
theorem Xu(c:Str)(fs:List D)(k:α->Out):Rl (.ex c fs) k=.ex c fs:=rfl
theorem Sj(k:α->Out):Rl .stuck k=.stuck:=rfl
theorem Wa(δ:Ba)(g:Ba->Out):Wk (.nx δ) g=g δ:=rfl
theorem Kh(d:D)(g:Ba->Out):Wk (.rt d) g=.rt d:=rfl
theorem seqO_ex(c:Str)(fs:List D)(g:Ba->Out):Wk (.ex c fs) g=.ex c fs:=rfl
theorem Xi(g:Ba->Out):Wk .stuck g=.stuck:=rfl
theorem Tb(c:Bool)(a b:Out):T0 (.ok c) a b=if c=true then a else b:=rfl
theorem Oe(c:Bool)(y:Res Bool):AT (.ok c) y=if c=true then y else .ok false:=rfl
theorem Xm(c:Bool)(y:Res Bool):D5 (.ok c) y=if c=true then .ok true else y:=rfl
theorem Jo(c:Bool)(y:Res D):XZ (.ok (.bl c)) y=if c=true then y else .ok (.bl false):=by cases c<;>rfl
theorem Fv(c:Bool)(y:Res D):V6 (.ok (.bl c)) y=if c=true then .ok (.bl true) else y:=by cases c<;>rfl
theorem Cb(c:Bool):Nn (.bl c)=.ok c:=rfl
theorem Vo(c:Bool):B5 (.bl c)=.ok (.bl (!c)):=rfl
theorem Gf(i j:Int):Cj (.int i) (.int j)=.ok (.bl (i==j)):=by simp[Cj,Xb,Me]
theorem Vu(i j:Int):Jq (.int i) (.int j)=.ok (.bl (!(i==j))):=by simp[Jq,Xb,Me]
theorem Wp(i j:Bool):Cj (.bl i) (.bl j)=.ok (.bl (i==j)):=by simp[Cj,Xb,Me]
theorem Ri(i j:Int):ZO (.int i) (.int j)=.ok (.bl (decide (i<j))):=rfl
theorem Rk(i j:Int):V0 (.int i) (.int j)=.ok (.bl (decide (i<=j))):=rfl
theorem Wg(i j:Int):BI (.int i) (.int j)=.ok (.bl (decide (j<i))):=rfl
theorem Iu(i j:Int):K7 (.int i) (.int j)=.ok (.bl (decide (j<=i))):=rfl
theorem Jc(i j:Int):Ad (.int i) (.int j)=.ok (.int (i+j)):=rfl
theorem KM(xs ys:List D):Ad (.tup xs) (.tup ys)=@ite (Res D) (xs.length+ys.length<=sizeLine) (propDecidable _) (.ok (.tup (xs++ys))) .stuck:=rfl
theorem Hi(xs ys:List D)(h:xs.length+ys.length<=1000):Ad (.tup xs) (.tup ys)=.ok (.tup (xs++ys)):=by
 rw[KM,if_pos (le_trans h Hx)]
theorem Og(i j:Int):Em (.int i) (.int j)=.ok (.int (i-j)):=rfl
theorem Wu(i:Int):A5 (.int i)=.ok (.int (-i)):=rfl
theorem Pl(i j:Int):Mc (.int i) (.int j)=@ite (Res D) (0<j) (propDecidable _) (.ok (.int (i%j))) .stuck:=rfl
theorem Lj(i j:Int):Te (.int i) (.int j)=@ite (Res D) (0<j/\j<1073741824) (propDecidable _) (.ok (.int (i / j))) .stuck:=rfl
theorem To(i j:Int):Y4 [.int i,.int j]=.ok (.int (max i j)):=rfl
theorem Uo(i j:Int):Z4 [.int i,.int j]=.ok (.int (min i j)):=rfl
theorem Wt(i:Int):K4 (.int i)=.ok (.int (if i<0 then -i else i)):=rfl
theorem Ou(ds:List D):Sk (.tup ds)=.ok (.int ds.length):=rfl
theorem Hg(ds:List D):Sk (.lst ds)=.ok (.int ds.length):=rfl
theorem Qv(ds:List D):Eg (.tup ds)=.ok ds:=rfl
theorem Yi(ds:List D):Eg (.lst ds)=.ok ds:=rfl
theorem Hm(ds:List D):GL (.tup ds)=.ok (.tup ds):=rfl
theorem Gm(ds:List D):GL (.lst ds)=.ok (.tup ds):=rfl
theorem Tj(i:Int):Et (.int i)=.ok (some i):=rfl
theorem Ja(d:D)(ds:List D):TB (.ok d) (.ok ds)=.ok (d::ds):=rfl
theorem Mb(a:α):noex (.ok a)=.ok a:=rfl
theorem ZC(ds:List D)(lo hi:Option Int):O7 (.lst ds) lo hi=.ok (.lst (cutD ds lo hi)):=rfl
theorem Na(x:D)(l:Ba):Fa 0 (some (.d x)::l)=.ok x:=rfl
theorem Db(n:Nat)(a:Option S)(l:Ba):Fa (n+1) (a::l)=Fa n l:=by simp[Fa]
theorem Xa(x:D)(l:Ba):Ea 0 (some (.d x)::l)=.ok x:=rfl
theorem Fg(x:List D)(l:Ba):Ea 0 (some (.o x)::l)=.ok (.lst x):=rfl
theorem Za(n:Nat)(a:Option S)(l:Ba):Ea (n+1) (a::l)=Ea n l:=by simp[Ea]
theorem Qb(n:Nat)(m:List D->Res D)(ds:List D)(d:D)(h:m ds=.ok d)(hn:ds.length=n):Oa n m ds=.ok d:=by
 unfold Oa;rw[if_pos hn,h];rfl
theorem Ps(ds:List D)(i:Int)(d:D)(h:Zv ds i=some d):Pg (.lst ds) (.int i)=.ok d:=by show(match Zv ds i with|some d=>Res.ok d|none=>Res.stuck)=_;rw[h]
theorem Ko{xs:List α}{d:α}(h0:0<=i)(h:xs[i.toNat]? =some d):Zv xs i=some d:=by
 have hl:=(List.getElem?_eq_some_iff.mp h).1
 unfold Zv PV
 rw[if_pos h0,if_pos (by omega)]
 exact h
theorem Hz{xs:List α}(h0:0<=i)(h1:i<xs.length):∃ d,Zv xs i=some d/\d∈xs:=by
 have hl:i.toNat<xs.length:=by omega
 exact⟨xs[i.toNat],Ko h0 (getElem?_eq_getElem hl),List.getElem_mem hl⟩
end
section
variable {t:D->Ba->Res Ba}{body:Ba->Out}
theorem Hs(d:D)(ds:List D)(δ δ':Ba)(h:t d δ= .ok δ'):Eh t body (d::ds) δ=(match body δ' with
   | .nx δ2=>Eh t body ds δ2
   | .ct δ2=>Eh t body ds δ2
   | .bk δ2=>.nx δ2
   | .rt d=>.rt d
   | .ex c fs=>.ex c fs
   | .stuck=>.stuck):=by
 rw[Eh,h]
 first|done|rfl|dsimp only
end
variable{fe:Ba->Res D}
section
variable {c:Ba->Res Bool}
theorem Lk(t:D->Ba->Res Ba)(d:D)(ds:List D)(δ δ':Ba)(h:t d δ= .ok δ'):Re t c fe (d::ds) δ=((noex (c δ')).bind λk=>if k=true then(noex (fe δ')).bind λx=>(Re t c fe ds δ').bind λr=>.ok (x::r) else Re t c fe ds δ'):=by
 rw[Re]
 rw[h]
end
def isT:D->Bool
 | .tup _=>true
 |_=>false
theorem Il(i j k:Int):Np V0 V0 (.int i) (.int j) (.ok (.int k))=.ok (.bl (decide (i<=j/\j<=k))):=by
 unfold Np
 rw[Rk]
 by_cases h:i<=j
 .rw[decide_eq_true h]
  show V0 (.int j) (.int k)=_
  rw[Rk];simp[h]
 .rw[decide_eq_false h]
  simp[h,Res.bind]
theorem Ii(i j k:Int):Np V0 ZO (.int i) (.int j) (.ok (.int k))=.ok (.bl (decide (i<=j/\j<k))):=by
 unfold Np
 rw[Rk]
 by_cases h:i<=j
 .rw[decide_eq_true h]
  show ZO (.int j) (.int k)=_
  rw[Ri];simp[h]
 .rw[decide_eq_false h]
  simp[h,Res.bind]
def ME:Out->Res D
 | .rt d=>.ok d
 | .nx _=>.ok .non
 |_=>.stuck
theorem Wb(n:Nat)(g:Ba->Out)(ds:List D):Bg n g ds=ME (g (Sa n ds)):=by
 unfold Bg ME
 cases g (Sa n ds)<;>rfl
theorem Zb(d:D):ME (.rt d)=.ok d:=rfl
theorem Oo(δ:Ba):ME (.nx δ)=.ok .non:=rfl
theorem VM(xs:List D)(n:Nat):cutD xs none (some (n:Int))=xs.take n:=by
 unfold cutD
 rw[HT.sIx_nat]
 show(xs.drop 0).take (min n xs.length-0)=_
 rw[List.drop_zero,Nat.sub_zero,List.take_eq_take_iff]
 omega
open SeqAt
structure XE(X:Cx)(xw:XW)(e:Expr)(f:Ba->Res D):Prop where
 h:DE X xw e f
structure XP(X:Cx)(xw:XW)(e:Expr)(f:Ba->Res D):Prop where
 h:DP X xw e f
structure XF(X:Cx)(xw:XW)(e:Expr)(f:Ba->Res (List D)):Prop where
 h:DF X xw e f
structure XT(X:Cx)(xw:XW)(e:Expr)(f:Ba->Res Bool):Prop where
 h:DT X xw e f
structure XW'(X:Cx)(xw:XW)(e:Expr)(f:Ba->Res Bool):Prop where
 h:DW X xw e f
structure XA(X:Cx)(xw:XW)(e:List Expr)(f:Ba->Res (List D)):Prop where
 h:DA X xw e f
structure XO(X:Cx)(xw:XW)(e:Option Expr)(f:Ba->Res (Option Int)):Prop where
 h:DO X xw e f
structure XG(X:Cx)(e:Expr)(f:D->Ba->Res Ba):Prop where
 h:DG X e f
structure XGs(X:Cx)(e:List Expr)(f:List D->Ba->Res Ba):Prop where
 h:NZ X e f
structure XTs(X:Cx)(e:List Expr)(f:Ba->Res Bool):Prop where
 h:OZ X e f
structure XS(X:Cx)(xw:XW)(e:Stmt)(f:Ba->Out):Prop where
 h:DS X xw e f
structure XSs(X:Cx)(xw:XW)(e:List Stmt)(f:Ba->Out):Prop where
 h:KG X xw e f
structure XI(X:Cx)(xw:XW)(tg e:Expr)(f:Ba->Res (List D)):Prop where
 h:DI X xw tg e f
variable{x:Str}{n:Nat}{st:Stmt}{g:Ba->Out}{tgs:List Expr}{ts:List D->Ba->Res Ba}{o:CmpOp}{op:D->D->Res D}{pos':Pos}
section
variable {e c:Expr}{f fa fb fc:Ba->Res D}{p p2:Pos}{sts as bs:List Stmt}{tg iter elt:Expr}{t:D->Ba->Res Ba}{fs:Ba->Res (List D)}{es rest:List Expr}{ga gb gc:Ba->Res Bool}{g1 g2:Ba->Out}{lo hi:Option Expr}{fl fh:Ba->Res (Option Int)}{fi:Ba->Res (List D)}{scope:Scope}{ifs:List Expr}
theorem Qa(i:Nat)(hN:X.N[i]? =some x:=by rfl)(hv:Br X.env.scope x:=by first|exact Or.inl rfl|exact Or.inr (Or.inl rfl)|exact Or.inr (Or.inr rfl))(hd:(x==("__debug__":Str))=false:=by decide)(hcd:(x==("__classdict__":Str))=false:=by decide):XE X xw (.Name x pos) (Fa i):=⟨DU i hN hv hd hcd⟩
theorem Pa(i:Nat)(hN:X.N[i]? =some x:=by rfl)(hv:Br X.env.scope x:=by first|exact Or.inl rfl|exact Or.inr (Or.inl rfl)|exact Or.inr (Or.inr rfl))(hd:(x==("__debug__":Str))=false:=by decide)(hcd:(x==("__classdict__":Str))=false:=by decide):XP X xw (.Name x pos) (Ea i):=⟨JU i hN hv hd hcd⟩
theorem La(h:XE X xw e f):XP X xw e f:=⟨DE.p h.h⟩
theorem Vq(ha:XT X xw a ga):XW' X xw (.BoolOp .And [a] pos) ga:=⟨UN ha.h⟩
theorem SS(ha:XT X xw a ga):XW' X xw (.BoolOp .Or [a] pos) ga:=⟨VU ha.h⟩
theorem HZ(h:XW' X xw e ga):XT X xw e ga:=⟨DW.t h.h⟩
theorem GZ{j pos'}(ha:XP X xw a fa):XT X xw (.Compare a [.IsNot] [.Constant .none j pos'] pos) (tR (b1 Tn fa)):=⟨NH ha.h⟩
theorem Sw(hm:X.mg "list"=none)(ha:XP X xw a fa)(hg:Gl X "list":=by rfl)(he:starEach [a] X.env=(false,eval a X.env)::starEach [] X.env:=by rfl)(hpl:(backTo pos (starEach [] X.env)).any (·.1)=false:=by rfl):
  XF X xw (.Call (.Name "list" p) [a] [] pos) (b1 Eg fa):=⟨AE hm ha.h hg he hpl⟩
theorem Pn(h:XE X xw e f):XI X xw tg e (b1 Eg f):=⟨IU h.h⟩
theorem Hc(i:Nat)(hN:X.N.Nodup)(hi:X.N[i]? =some x:=by rfl)(hx:Ez X.env.scope x:=by first|exact Or.inl rfl|exact Or.inr rfl)(hf:X.fn x=true\/X.env.scope.names.lookup x=some .local:=by first|exact .inl rfl|exact .inr rfl|assumption):
  XG X (.Name x pos) (Hb i):=⟨FN i hN hi hx hf⟩
theorem Yw:XGs X [] Xe:=⟨GN⟩
theorem Mh(h1:XG X tg t)(h2:XGs X tgs ts)(hs:(assignEach (tg::tgs) X.env).map (·.2)=assign tg X.env::(assignEach tgs X.env).map (·.2):=by rfl):XGs X (tg::tgs) (Ib t ts):=⟨GH h1.h h2.h hs⟩
theorem Zw(hc:X.calm=true)(h:XGs X tgs ts)(hn:(assignEach tgs X.env).length=n:=by rfl)(hst:(assignEach tgs X.env).findIdx? (·.1)=none:=by rfl):XG X (.Tuple tgs k pos) (Ye n ts):=⟨HU hc h.h hn hst⟩
theorem Ao:XTs X [] (λ_=>.ok true):=⟨SN⟩
theorem ED(h:XT X Jm c gc):XTs X [c] gc:=⟨TN h.h⟩
theorem Ky:XS X xw st (λ_=>.stuck):=⟨I0⟩
theorem Zc:XSs X xw [] .nx:=⟨QN⟩
theorem Ab(h1:XS X xw st g1):XSs X xw [st] g1:=⟨RN h1.h⟩
theorem Ta{j}:XE X xw (.Constant (.int i) j pos) (kD (.int i)):=⟨UT⟩
theorem AZ{i:Bool}{j}:XE X xw (.Constant (.bool i) j pos) (kD (.bl i)):=⟨C0⟩
theorem VL{i:Str}{j}:XE X xw (.Constant (.str i) j pos) (kD (.str i)):=⟨AU⟩
theorem Co{j}:XE X xw (.Constant .none j pos) (kD .non):=⟨YT⟩
theorem Ef(ha:XP X xw a fa)(hb:XP X xw b fb):XE X xw (.BinOp a .Add b pos) (b2 Ad fa fb):=⟨QT ha.h hb.h⟩
theorem Cz(ha:XP X xw a fa)(hb:XP X xw b fb):XE X xw (.BinOp a .Sub b pos) (b2 Em fa fb):=⟨BU ha.h hb.h⟩
theorem Nd(ha:XP X xw a fa)(hb:XP X xw b fb):XE X xw (.BinOp a .Mod b pos) (b2 Mc fa fb):=⟨WT ha.h hb.h⟩
theorem Nj(ha:XP X xw a fa)(hb:XP X xw b fb):XE X xw (.BinOp a .FloorDiv b pos) (b2 Te fa fb):=⟨AN ha.h hb.h⟩
theorem Z2(ha:XP X xw a fa)(hb:XP X xw b fb):XE X xw (.BinOp a .Pow b pos) (b2 WF fa fb):=⟨ZT ha.h hb.h⟩
theorem Bz(hc:CmpR X xw o op)(ha:XP X xw a fa)(hb:XP X xw b fb):XE X xw (.Compare a [o] [b] pos) (b2 op fa fb):=⟨ST hc ha.h hb.h⟩
theorem Gg(hc:CmpR X xw o op)(ha:XP X xw a fa)(hb:XP X xw b fb):XT X xw (.Compare a [o] [b] pos) (tR (b2 op fa fb)):=⟨PU hc ha.h hb.h⟩
theorem D3{j pos'}(ha:XP X xw a fa):XT X xw (.Compare a [.Is] [.Constant .none j pos'] pos) (tR (b1 Aq fa)):=⟨QU ha.h⟩
theorem Xq(h:XE X xw e f)(he:∀ whole,isTrue e X.env whole=(do let v <-whole;standAt e.pos;holding [v] (truthy v)):=by intro _;rfl):XT X xw e (tR f):=⟨DE.t h.h he⟩
theorem Dz(ha:XT X xw a ga):XT X xw (.UnaryOp .Not a pos) (Ei ga):=⟨RU ha.h⟩
theorem Az(ha:XT X xw a ga)(hb:XW' X xw (.BoolOp .And (b::rest) pos) gb):XW' X xw (.BoolOp .And (a::b::rest) pos) (Xd ga gb):=⟨UU ha.h hb.h⟩
theorem Y2(ha:XT X xw a ga)(hb:XW' X xw (.BoolOp .Or (b::rest) pos) gb):XW' X xw (.BoolOp .Or (a::b::rest) pos) (Uv ga gb):=⟨J0 ha.h hb.h⟩
theorem Ya:XA X xw [] Ia:=⟨OT⟩
theorem Ga(ha:XE X xw a fa)(hr:XA X xw es fs)(hs:starEach (a::es) X.env=(false,eval a X.env)::starEach es X.env:=by rfl):XA X xw (a::es) (Aa fa fs):=⟨XM ha.h hr.h hs⟩
theorem Im{x1}(h:XA X xw es fs):XE X xw (.Tuple es x1 pos) (b1 Cf fs):=⟨CU h.h⟩
theorem Bs(h:XA X xw es fs):XF X xw (.List es pos) (b1 Bf fs):=⟨FU h.h⟩
theorem Ze(h:XF X xw e fs):XE X xw e (Af fs):=⟨DF.de h.h⟩
theorem Gi(ha:XP X xw a fa)(hb:XP X xw b fb)(hs:Cl b:=by intro _ _;rfl):XE X xw (.Subscript a b pos) (b2 Pg fa fb):=⟨D0 ha.h hb.h hs⟩
theorem OJ:XO X xw none Gk:=⟨JN⟩
theorem QJ(h:XE X xw e f):XO X xw (some e) (b1 Et f):=⟨KN h.h⟩
theorem HS(ha:XP X xw a fa)(hl:XO X xw lo fl)(hh:XO X xw hi fh):XF X xw (.Subscript a (.Slice lo hi none p2) pos) (b3 OS fa fl fh):=⟨GU ha.h hl.h hh.h⟩
theorem Bo(hm:X.mg "len"=none)(ha:XP X xw a fa)(hg:Gl X "len":=by rfl)(he:starEach [a] X.env=(false,eval a X.env)::starEach [] X.env:=by rfl)(hpl:(backTo pos (starEach [] X.env)).any (·.1)=false:=by rfl):
  XE X xw (.Call (.Name "len" p) [a] [] pos) (b1 Sk fa):=⟨VT hm ha.h hg he hpl⟩
theorem Nb{m:List D->Res D}(F:Fn X.prog X.w X.K X.mg X.base k x n m)(hr:Room k X.A)(ha:XA X xw (a::es) fs)(hg:Gl X x:=by rfl)(hdb:(x==("__debug__":Str))=false:=by decide)(he:starEach (a::es) X.env=(false,eval a X.env)::starEach es X.env:=by rfl)(hpl:(backTo pos (starEach es X.env)).any (·.1)=false:=by rfl):
  XE X xw (.Call (.Name x p) (a::es) [] pos) (b1 (Oa n m) fs):=⟨ZM F hr ha.h hg hdb he hpl⟩
theorem Mi(Nc Nx:List Str)(c:CompOk X scope Nc Nx)(hcalm:X.calm=true)(hi:XI X xw tg iter fi)(hY:∀ (C:Addr) (fp:List Addr) (pins:List (Addr×Obj)) (s:Shared) (H:Hp),XG (Lb X scope Nc Nx C fp pins s H) tg t/\XTs (Lb X scope Nc Nx C fp pins s H) ifs gc/\XE (Lb X scope Nc Nx C fp pins s H) Jm elt fe)(hs:∀ x,foldedSetIterable iter X.env x=pure x:=by intro _;rfl):
  XF X xw (.ListComp elt [⟨tg,iter,ifs,0⟩] scope pos) (Sb Nc.length t gc fe fi):=⟨EN Nc Nx c hcalm hi.h (λC fp pins s H=>⟨(hY C fp pins s H).1.h,(hY C fp pins s H).2.1.h,(hY C fp pins s H).2.2.h⟩) hs⟩
theorem VA(i:Nat){py:Pos}(hN:X.N.Nodup)(Nc Nx:List Str)(c:CompOk X scope Nc Nx)(hcalm:X.calm=true)(hi:XI X xw tg iter fi)(hY:∀ (C:Addr) (fp:List Addr) (pins:List (Addr×Obj)) (s:Shared) (H:Hp),XG (Lb X scope Nc Nx C fp pins s H) tg t/\XTs (Lb X scope Nc Nx C fp pins s H) ifs gc/\XE (Lb X scope Nc Nx C fp pins s H) Jm elt fe){spos:Pos}(hiN:X.N[i]? =some x:=by rfl)(hx:Ez X.env.scope x:=by first|exact Or.inl rfl|exact Or.inr rfl)(hsw:swapsWith (.ListComp elt [⟨tg,iter,ifs,0⟩] scope pos) (some (.Name x py)) spos.line X.env=pure true:=by rfl)(hf:X.fn x=true\/X.env.scope.names.lookup x=some .local:=by first|exact .inl rfl|exact .inr rfl|assumption)(hs:∀ x,foldedSetIterable iter X.env x=pure x:=by intro _;rfl):
  XS X xw (.Assign [.Name x py] (.ListComp elt [⟨tg,iter,ifs,0⟩] scope pos) spos) (We i (Sb Nc.length t gc fe fi)):=⟨ON i hN Nc Nx c hcalm hi.h (λC fp pins s H=>⟨(hY C fp pins s H).1.h,(hY C fp pins s H).2.1.h,(hY C fp pins s H).2.2.h⟩) hiN hx hsw hf hs⟩
theorem Ml(hm:X.mg "range"=none)(ha:XA X xw [a] fs)(hg:Gl X "range":=by rfl)(hs:starEach [a] X.env= [(false,eval a X.env)]:=by rfl):XI X xw tg (.Call (.Name "range" p) [a] [] pos) (b1 Df fs):=⟨BE hm ha.h hg hs⟩
theorem HI(hm:X.mg "range"=none)(ha:XA X xw [a,b] fs)(hg:Gl X "range":=by rfl)(hs:starEach [a,b] X.env= [(false,eval a X.env),(false,eval b X.env)]:=by rfl)(hs2:starEach [b] X.env= [(false,eval b X.env)]:=by rfl):
  XI X xw tg (.Call (.Name "range" p) [a,b] [] pos) (b1 Kt fs):=⟨EE hm ha.h hg hs hs2⟩
theorem Ra(h1:XS X xw st g1)(h2:XSs X xw sts g2):XSs X xw (st::sts) (Jb g1 g2):=⟨LH h1.h h2.h⟩
theorem DY(he:XE X xw e f)(hs:swapsWith e none pos.line X.env=pure false:=by rfl):XS X xw (.Expr e pos) (Wn f):=⟨NN he.h hs⟩
theorem Qc(he:XE X xw e f):XS X xw (.Return (some e) pos) (Rb f):=⟨NU he.h⟩
theorem JY(i:Nat)(hN:X.N[i]? =some x:=by rfl)(hv:Br X.env.scope x:=by first|exact Or.inl rfl|exact Or.inr (Or.inl rfl)|exact Or.inr (Or.inr rfl))(hd:(x==("__debug__":Str))=false:=by decide)(hcd:(x==("__classdict__":Str))=false:=by decide):XS X xw (.Return (some (.Name x pos')) pos) (Rb (Ea i)):=⟨PN i hN hv hd hcd⟩
theorem Yc(i:Nat)(hN:X.N.Nodup)(he:XE X xw e f)(hi:X.N[i]? =some x:=by rfl)(hx:Ez X.env.scope x:=by first|exact Or.inl rfl|exact Or.inr rfl)(hs:swapsWith e (some (.Name x pos')) pos.line X.env=pure false:=by rfl)(hf:X.fn x=true\/X.env.scope.names.lookup x=some .local:=by first|exact .inl rfl|exact .inr rfl|assumption):XS X xw (.Assign [.Name x pos'] e pos) (Kb i f):=⟨OU i hN he.h hi hx hs hf⟩
theorem Ly(i:Nat){ff:Ba->Res (List D)}(hN:X.N.Nodup)(he:XF X xw e ff)(hi:X.N[i]? =some x:=by rfl)(hx:Ez X.env.scope x:=by first|exact Or.inl rfl|exact Or.inr rfl)(hs:swapsWith e (some (.Name x pos')) pos.line X.env=pure false:=by rfl)(hf:X.fn x=true\/X.env.scope.names.lookup x=some .local:=by first|exact .inl rfl|exact .inr rfl|assumption):XS X xw (.Assign [.Name x pos'] e pos) (We i ff):=⟨MU i hN he.h hi hx hs hf⟩
theorem Vk(hc:XT X xw c ga)(ha:XSs X xw as g1)(hb:XSs X xw bs g2):XS X xw (.If c as bs pos) (Yf ga g1 g2):=⟨G0 hc.h ha.h hb.h⟩
theorem Nt(hp:PassesOwn (model X.prog X.w) X.A X.env X.xe)(hc:X.calm=true)(hi:XI X xw tg iter fi)(hg:XG X tg t)(hb:XSs X xw sts g)(hs:∀ x,foldedSetIterable iter X.env x=pure x:=by intro _;rfl):XS X xw (.For tg iter sts [] pos) (Gh t g fi):=⟨LU hp hc hi.h hg.h hb.h hs⟩
theorem BR(n:Nat)(hp:PassesOwn (model X.prog X.w) X.A X.env X.xe)(hc:XT X xw c ga)(hb:XSs X xw sts g):XS X xw (.While c sts [] pos) (Uk n ga g):=⟨KH n hp hc.h hb.h⟩
theorem SK(i:Nat){p1 p2 p3:Pos}(he:XE X xw e f)(hN:X.N[i]? =some x:=by rfl)(hv:Br X.env.scope x:=by first|exact Or.inl rfl|exact Or.inr (Or.inl rfl)|exact Or.inr (Or.inr rfl))(hd:(x==("__debug__":Str))=false:=by decide)(hcd:(x==("__classdict__":Str))=false:=by decide)(hsE:starEach [e] X.env=(false,eval e X.env)::starEach [] X.env:=by rfl)(hbase:attributeBase (.Name x p1) "append" X.env (eval (.Name x p1) X.env)=eval (.Name x p1) X.env:=by rfl)(hfew:((backTo p3 (starEach [e] X.env)).all (λx=> !x.1)&&(backToKw p3 (keywordEach [] X.env)).all (λx=>x.1.isSome)
   &&decide (([e]:List Expr).length+([]:List Keyword).length+(if([]:List Keyword).isEmpty then 0 else 1)<30))=true:=by rfl)(hline:(p2.endLine==p3.line)=true:=by rfl)(hplain:(backTo p3 (starEach [] X.env)).any (·.1)=false:=by rfl)(hsw:swapsWith (.Call (.Attribute (.Name x p1) "append" p2) [e] [] p3) none pos.line X.env=pure false:=by rfl):
  XS X xw (.Expr (.Call (.Attribute (.Name x p1) "append" p2) [e] [] p3) pos) (UA i f):=⟨GE i he.h hN hv hd hcd hsE hbase hfew hline hplain hsw⟩
end
variable{fa:Addr}{P:Program}{mg:Str->Option Value}{base:Heap}{qual:Str}{fd:FuncData}{N ps:List Str}
theorem Wc(F:Fun K x qual st fa fd)(S:FnScope N ps (Ca st))(hm:mg x=some (.ref fa))(hb:Binds K fd ps [])(body:∀ (cdv:Value) (A:Around) (outer:List Env) (s:Shared) (H:Hp) (E:XK),Room k (A.deeper (envOfC qual (Ca st) s.heap.objs.size fa cdv))->
   XSs (Ak Al P w K mg base N qual (Ca st) fa cdv A outer s H E).nox Jm (Va st) g):Fn P w K mg base (k+1) x ps.length (Bg N.length g):=
 GO F S hm hb λcdv A outer s H E hr=>(body cdv A outer s H E hr).h
theorem DV(F:Fun K x qual st fa fd)(S:FnScope N ps (Ca st))(body:∀ (cdv:Value) (A:Around) (outer:List Env) (s:Shared) (H:Hp) (E:XK),Room k (A.deeper (envOfC qual (Ca st) s.heap.objs.size fa cdv))->
   XSs (Ak Al P w K mg base N qual (Ca st) fa cdv A outer s H E).nox Jm (Va st) g):FnOk P w K mg base Al (k+1) fa fd ps (NY K ps.length (Bg N.length g)):=
 YH F S λcdv A outer s H E hr=>(body cdv A outer s H E hr).h
end L3
namespace L3
open PySem PySem.Spec PyProof.Rows L2
section
variable {t:D->Ba->Res Ba}{body:Ba->Out}
theorem DC(I:Nat->Ba->Prop)(ds:List D)(δ:Ba)(hb:∀ i d δ,ds[i]? =some d->I i δ->∃ δ',t d δ= .ok δ'/\∃ δ2,(body δ'=.nx δ2\/body δ'=.ct δ2)/\I (i+1) δ2)(h:I 0 δ):∃ δ2,Eh t body ds δ= .nx δ2/\I ds.length δ2:=by
 induction ds generalizing I δ with
 |nil=>exact⟨δ,rfl,h⟩
 |cons d ds ih=>
  obtain⟨δ',e1,δ2,e2,h2⟩:=hb 0 d δ rfl h
  obtain⟨δ3,e3,h3⟩:=ih (λi=>I (i+1)) δ2 (λi x δ hx hI=>hb (i+1) x δ (by simpa using hx) hI) h2
  refine⟨δ3,?_,h3⟩
  rw[Hs d ds δ δ' e1]
  rcases e2 with e2|e2<;> · rw[e2];exact e3
end
section
variable {fe:Ba->Res D}{c:Ba->Res Bool}
theorem Sc{n:Nat}{t:D->Ba->Res Ba}{δ:Ba}{ds r:List D}(h:Re t c fe ds (replicate n none++δ)=.ok r)(hl:ds.length<=100000):Se n t c fe δ ds=.ok r:=by
 unfold Se
 rw[if_pos hl,h];rfl
end
theorem Yo(n:Nat)(h:n<100000):Df [.int n]=.ok (Zl 0 n):=by
 unfold Df
 simp only
 rw[if_pos (by omega)]
 simp
theorem LC(ds:List D)(h:∀ d∈ds,Xb 39 d=true):Jq (.lst ds) (.lst [])=.ok (.bl (!ds.isEmpty)):=by
 have hs:Xb 40 (.lst ds)=true:=by rw[Xb,all_eq_true];exact h
 unfold Jq
 rw[hs]
 cases ds<;>simp[Xb,Me,Km]
theorem MM(i:Nat)(δ:Ba)(ds:List D)(d:D)(h:δ[i]? =some (some (.o ds)))(hl:ds.length<=100000):OD i δ (.ok d)=.nx (δ.set i (some (.o (ds++ [d])))):=by
 unfold OD
 rw[h]
 show(@ite Out (ds.length<=100000) (propDecidable _) _ _)=_
 rw[if_pos hl];rfl
end L3
namespace L3
open PySem
theorem PR:fillsNumberSlot (.type "tuple") "mul"=pure false:=fillsNumberSlot_seq (id:="tuple.__mul__") (r:=some (.builtin "tuple.__rmul__")) F.slot_tuple_mul.lookup (by decide +kernel) F.slot_tuple_rmul.lookup (by decide +kernel)
theorem UY:seqRepeat? (.type "tuple")=pure (some (.builtin "tuple.__mul__")):=by
 unfold seqRepeat?
 rw[seqSlot_of (T:="tuple") (name:="__mul__") (id:="tuple.__mul__") F.slot_tuple_mul.lookup (by decide +kernel),seqSlot_of (T:="tuple") (name:="__rmul__") (id:="tuple.__rmul__") F.slot_tuple_rmul.lookup (by decide +kernel)];rfl
theorem U2(a:Int)(t:Tok)(l:Addr)(items:Array Value)(n:Nat)(dd:Option Addr)(sl:Array (Option Value)):
  Meets (Builtin.«int.__rmul__» ⟨[.int a t,.ref l],[]⟩) (λ_ R s=>s.heap.get? l=some {cls:=.type "tuple",dict:=dd,data:=.seq items n,slots:=sl}/\R (.ok (.ret Value.notImplemented)) s):=
 .of_wp λprog w A R s h=>by
  obtain⟨hp,g,d,tk,os⟩:=s
  obtain⟨hl,h⟩:=h
  wp_walk
  exact⟨_,rfl,h⟩
theorem TY(l:Addr)(items:Array Value)(n:Nat)(dd:Option Addr)(sl:Array (Option Value))(u:Tok):
  Meets (Builtin.«tuple.__mul__» ⟨[.ref l,.int 1 u],[]⟩) (λ_ R s=>s.heap.get? l=some {cls:=.type "tuple",dict:=dd,data:=.seq items n,slots:=sl}/\R (.ok (.ret (Value.ref l))) s):=
 .of_wp λprog w A R s h=>by
  obtain⟨hp,g,d,tk,os⟩:=s
  obtain⟨hl,h⟩:=h
  wp_walk
  exact⟨_,rfl,h⟩
theorem QR(l:Addr)(items:Array Value)(n:Nat)(dd:Option Addr)(sl:Array (Option Value))(k:Int)(u:Tok)(h0:(decide (k< -2^63)||decide (k>=2^63))=false)(h1:(items.isEmpty||k==1)=false)(h2:(decide (k<=0)||items.isEmpty)=false)(h3:¬ (items.size*k>(2^63-1) / 8))(h4:Builtin.Tuple.tupleTooMany (items.size*k)=false)(h5:((replicate k.toNat items).foldl (· ++ ·) #[]).size<=sizeLine):
  Meets (Builtin.«tuple.__mul__» ⟨[.ref l,.int k u],[]⟩) (λ_ R s=>s.heap.get? l=some {cls:=.type "tuple",dict:=dd,data:=.seq items n,slots:=sl}/\R (.ok (.ret (Value.ref s.heap.objs.size))) {s with heap:=s.heap.push {cls:=.type "tuple",data:=.seq ((replicate k.toNat items).foldl (· ++ ·) #[])}}):=
 .of_wp λprog w A R s h=>by
  obtain⟨hp,g,d,tk,os⟩:=s
  obtain⟨hl,h⟩:=h
  wp_walk
  refine wpAny_ite_false (by rw[h0];rfl) ?_
  wp_walk
  refine wpAny_ite_false (decide_eq_false h3) ?_
  wp_walk
  exact⟨_,rfl,h⟩
open PySem.Spec PyProof.Rows L2 SeqAt
variable{X:Cx}{xw:XW}{a b:Expr}{fa fb:Ba->Res D}{pos:Pos}{K:Frag}{W:WS}{H:Hp}{ds:List D}
section
variable {p:Pos}
theorem VP:OpR X (binaryOp .Mult) (λx y H Q=>∃ l k xs,x=.ref l/\y=.int k/\SqT X.K H l xs/\xs≠ []/\1<=k/\k<=1000/\xs.length<=1000/\(k=1->Q (.ref l) H)/\(k≠1->∀ p,H p=none->Q (.ref p) (Eb H p (.tup (replicate k.toNat xs).flatten)))):=by
 intro pins s σ H x y v u Q I rx ry h
 obtain⟨l,k,xs,rfl,rfl,sq,hne,h1,h2,hl,q1,q2⟩:=h
 cases rx
 obtain⟨t,rfl⟩:=ry
 obtain⟨its,r,⟨⟨cls,dd,data,sl⟩,ho,hc,n,hd⟩,hz⟩:=I.tuple sq
 simp only at hc hd
 subst hc hd
 have hlen:=r.length
 have hi:its≠ []:=λe=>hne (by rw[e]at hlen;exact List.eq_nil_of_length_eq_zero hlen)
 have he:its.toArray.isEmpty=false:=by cases its with
  |nil=>exact absurd rfl hi
  |cons=>simp
 have hsz:(its.toArray.size:Int)*k<=1000000:=by
  rw[size_toArray,<-hlen]
  have h3:(xs.length:Int)*k<=1000*1000:=Int.mul_le_mul (by omega) h2 (by omega) (by decide)
  omega
 have hsz':(its.length:Int)*k<=1000000:=by simpa using hsz
 refine wpAny_binaryOp_repeat_ref (T:="tuple") (U:="int") (by decide) ⟨_,ho,rfl⟩ (λs'=>typeIs_int s' k t) PR F.fills_int_mul F.slot_int_rmul UY F.slot_int_index.lookup
  (call_meets F.slot_int_rmul (typeIs_int s k t) F.entry_int_rmul (F.args_int_rmul_2 _ _) (U2 k t l its.toArray n dd sl) ⟨ho,rfl,⟨_,ho,rfl⟩,?_⟩)
 by_cases hk:k=1
 .subst hk
  exact call_meets F.slot_tuple_mul ⟨_,ho,rfl⟩ F.entry_tuple_mul (F.args_tuple_mul_2 _ _) (TY l its.toArray n dd sl t) ⟨ho,⟨.ref l,H,I,rfl,q1 rfl⟩⟩
 .have hfl:(replicate k.toNat its.toArray).foldl (λx1 x2=>x1++x2) #[]=(replicate k.toNat its).flatten.toArray:=by
   have:=Gs its k.toNat []
   rw[nil_append]at this
   exact this
  have hfz:(replicate k.toNat its).flatten.length<=sizeLine:=by
   rw[JC,sizeLine_eq]
   have h3:its.length*k.toNat<=1000*1000:=Nat.mul_le_mul (by omega) (by omega)
   rw[Nat.mul_comm];omega
  refine call_meets F.slot_tuple_mul ⟨_,ho,rfl⟩ F.entry_tuple_mul (F.args_tuple_mul_2 _ _) (QR l its.toArray n dd sl k t ?_ ?_ ?_ ?_ ?_ ?_) ⟨ho,?_⟩
  .simp only[Bool.or_eq_false_iff,decide_eq_false_iff_not];omega
  .rw[he];simpa using hk
  .rw[he];simp;omega
  .omega
  .unfold Builtin.Tuple.tupleTooMany
   have:((sizeLine:Nat):Int)=16777216:=by rw[sizeLine_eq];rfl
   rw[this];simp;omega
  .rw[hfl,size_toArray];exact hfz
  .rw[hfl]
   refine⟨.ref s.heap.objs.size,_,I.laid (a:=s.heap.objs.size) (o:=.tup (replicate k.toNat xs).flatten) (t':=s.toks) (λ_ _ e=>get?_push_of_some _ e) (le_refl _) ⟨?_,_,r.rep k.toNat,IsTup.new _ _⟩,rfl,q2 hk _ I.fresh⟩
   rw[JC,sizeLine_eq]
   have h3:xs.length*k.toNat<=1000*1000:=Nat.mul_le_mul (by omega) (by omega)
   rw[Nat.mul_comm];omega
def Uu:D->D->Res D
 | .int i,.int j=>W0 (.int i) (.int j)
 | .tup xs,.int k=>@ite (Res D) (xs≠ []/\1<=k/\k<=1000/\xs.length<=1000) (propDecidable _) (.ok (.tup (replicate k.toNat xs).flatten)) .stuck
 |_,_=>.stuck
theorem Ql(i j:Int):Uu (.int i) (.int j)=@ite (Res D) ((-18446744073709551616<i/\i<18446744073709551616)\/(-18446744073709551616<j/\j<18446744073709551616)) (propDecidable _) (.ok (.int (i*j))) .stuck:=rfl
theorem HasL.rep{xs:List V}(h:HasL K W H ds xs):∀ k:Nat,HasL K W H (replicate k ds).flatten (replicate k xs).flatten
 |0=>by simp[HasL]
 |k+1=>by
  rw[replicate_succ,flatten_cons,replicate_succ,flatten_cons]
  exact h.append (HasL.rep h k)
theorem Wq(ha:XP X xw a fa)(hb:XP X xw b fb):XE X xw (.BinOp a .Mult b pos) (b2 Uu fa fb):=⟨by
 refine Nk (TW.or VP) (λW H d e v u Q w hv hu q=>?_) ha.h hb.h
 unfold Uu at q
 split at q
 .unfold W0 at q
  dsimp only at q
  split at q
  .rename_i hj
   exact .inl ⟨_,_,hv.int,hu.int,hj,q.int⟩
  .exact q.elim
 .split at q
  .rename_i xs k hj
   obtain⟨l,ys,e,sq,r⟩:=hv.tup
   refine .inr ⟨l,k,ys,e,hu.int,sq,?_,hj.2.1,hj.2.2.1,by rw[<-r.length];exact hj.2.2.2,λhk=>?_,λ_ p hp=>q.newT w hp (r.rep _)⟩
   .intro z
    subst z
    exact hj.1 (List.eq_nil_of_length_eq_zero (by simpa using r.length))
   .subst hk
    refine q _ H (Same.refl _) ?_
    rw[Has]
    exact⟨l,ys,rfl,sq,by simpa using r⟩
  .exact q.elim
 .exact q.elim⟩
end
variable{W₀:WS}{H₀:Hp}{σ:L2.St}{δ:Ba}
section
variable {H':Hp}
theorem StHas.freeze{i:Nat}{a:Addr}(h:StHas K W₀ H₀ W H σ δ)(hi:δ[i]? =some (some (.o ds)))(hs:σ[i]? =some (some (.ref a))):
  StHas K W₀ H₀ (λb=>W b/\b≠a) H σ (δ.set i (some (.d (.lst ds))))/\Has K (λb=>W b/\b≠a) H (.lst ds) (.ref a):=by
 obtain⟨v,h1,b,xs,e',hW,h0,h3,h4⟩:=h.at' i _ hi
 rw[hs]at h1
 cases h1
 cases e'
 have hd:Has K (λb=>W b/\b≠a) H (.lst ds) (.ref a):=by
  rw[Has]
  exact⟨a,xs,rfl,.inl ⟨h3,λz=>z.2 rfl⟩,HasL.keep (λ_ _ e _=>e) h.fr.wl (λb z=>.inl z.1) h4⟩
 exact⟨h.freezeG (G5 ds) hi hs hd,hd⟩
end
variable{p2:Pos}{tg c:Expr}
section
variable {p:Pos}{fs:Ba->Res (List D)}
def FT(op:D->D->Res (List D))(f g:Ba->Res D):Ba->Res (List D):=λδ=>(f δ).bind λx=>(g δ).bind λy=>op x y
def AH:D->D->Res (List D)
 | .lst xs,.lst ys=>@ite (Res (List D)) (xs.length+ys.length<=sizeLine) (propDecidable _) (.ok (xs++ys)) .stuck
 |_,_=>.stuck
theorem NP:OpR X (binaryOp .Add) (λx y H Q=>∃ l b xs zs,x=.ref l/\y=.ref b/\SqL X.K H l xs/\SqL X.K H b zs/\xs.length+zs.length<=sizeLine/\∀ p,H p=none->Q (.ref p) (Eb H p (.lst (xs++zs)))):=by
 intro pins s σ H x y v u Q I rx ry h
 obtain⟨l,b,xs,zs,rfl,rfl,hH,hB,hz,q⟩:=h
 cases rx
 cases ry
 obtain⟨its,r,⟨⟨cls,dd,data,sl⟩,n,e,hc,hd,hs⟩,hz1⟩:=I.list hH
 obtain⟨its2,r2,⟨⟨cls2,dd2,data2,sl2⟩,n2,e2,hc2,hd2,hs2⟩,hz2⟩:=I.list hB
 simp only at hc hd hs hc2 hd2 hs2
 subst hc hd hs hc2 hd2 hs2
 have hl:=r.length
 have hl2:=r2.length
 refine concat_meets ⟨_,e,rfl⟩ ⟨_,e2,rfl⟩ noFill_list_add seq_list_add PySem.F.slot_list_add PySem.F.entry_list_add (PySem.F.args_list_add_2 _ _) (list_addW l b its.toArray its2.toArray n n2 none none sl sl2 (by rw[size_toArray,size_toArray];omega)) ⟨e,e2,?_⟩
 have ea:its.toArray++its2.toArray=(its++its2).toArray:=by simp
 rw[ea]
 exact⟨.ref _,_,I.lnew (t':=s.toks) (r.append r2) (by rw[length_append];omega),rfl,q _ I.fresh⟩
theorem FG{op:D->D->Res (List D)}{Q:VK}{R:V->V->Hp->Prop}(st:StHas X.K W₀ H₀ W H σ δ)(q:RF X.K xw W H ((fa δ).bind λx=>(fb δ).bind λy=>op x y) Q)(h:∀ H2 d e v u,Same H H2->WL W H2->HasT X.K W H2 d v->HasT X.K W H2 e u->RF X.K xw W H2 (op d e) Q->R v u H2):
  NR X.K xw fa σ H λx H1=>NR X.K xw fb σ H1 λy H2=>R x y H2:=by
 refine⟨W₀,H₀,W,δ,st,?_⟩
 cases h1:fa δ with
 |stuck=>rw[h1]at q;exact q
 |ex c fs=>rw[h1]at q;exact q
 |ok d=>
  rw[h1]at q
  intro v H1 k1 hv
  refine⟨W₀,H₀,W,δ,st.same k1,?_⟩
  have q':RF X.K xw W H ((fb δ).bind λy=>op d y) Q:=q
  cases h2:fb δ with
  |stuck=>rw[h2]at q';exact q'
  |ex c fs=>rw[h2]at q';exact λH2 k2=>q' H2 (k1.trans k2)
  |ok e=>
   rw[h2]at q'
   intro u H2 k2 hu
   have q2:RF X.K xw W H (op d e) Q:=q'
   exact h H2 d e v u (k1.trans k2) (st.fr.wl.same (k1.trans k2)) (hv.same k2 (st.fr.wl.same k1)) hu (RF.same q2 (k1.trans k2))
theorem M0(ha:XP X xw a fa)(hb:XP X xw b fb):XF X xw (.BinOp a .Add b pos) (FT AH fa fb):=
 ⟨PE.weak (MS NP ha.h hb.h) λσ H Q ⟨W₀,H₀,W,δ,st,q⟩=>FG st q λH2 d e v u k w hv hu q2=>by
  unfold AH at q2
  split at q2
  .split at q2
   .rename_i hz
    obtain⟨a1,xs,e1,s1,r1⟩:=hv.lst
    obtain⟨a2,ys,e2,s2,r2⟩:=hu.lst
    exact⟨a1,a2,xs,ys,e1,e2,s1,s2,by rw[<-r1.length,<-r2.length];exact hz,λp hp=>q2 p _ H2 (Same.refl _) hp (r1.append r2)⟩
   .exact q2.elim
  .exact q2.elim⟩
end
def Vh:D->Bool
 | .non=>true
 | .bl _=>true
 | .int _=>true
 | .str _=>true
 |_=>false
variable{d:D}
theorem Yp{v:V}(h:Has K W H d v)(f:Vh d=true):Dk v=true:=by
 cases d with
 |non=>rw[Has]at h;subst h;rfl
 |bl b=>rw[Has]at h;subst h;rfl
 |int i=>rw[Has]at h;subst h;rfl
 |str x=>rw[Has]at h;subst h;rfl
 |_=>cases f
theorem YU{e:D}{v u:V}(h:Has K W H d v)(g:Has K W H e u)(f:Vh d=true)(f2:Vh e=true):UB v u=Me d e:=by
 cases d with
 |non=>rw[Has]at h;subst h;cases e<;>first|exact absurd (show false=true from f2) Bool.false_ne_true|(rw[Has]at g;subst g;simp[UB,Me])
 |bl b=>rw[Has]at h;subst h;cases e<;>first|exact absurd (show false=true from f2) Bool.false_ne_true|(rw[Has]at g;subst g;simp[UB,Me])
 |int i=>rw[Has]at h;subst h;cases e<;>first|exact absurd (show false=true from f2) Bool.false_ne_true|(rw[Has]at g;subst g;simp[UB,Me])
 |str x=>rw[Has]at h;subst h;cases e<;>first|exact absurd (show false=true from f2) Bool.false_ne_true|(rw[Has]at g;subst g;simp[UB,Me])
 |_=>cases f
theorem Xz{d:D}{v:V}(h:Has K W H d v)(f:Vh d=true):∀ {ds:List D} {xs:List V},HasL K W H ds xs->ds.all Vh=true->xs.all Dk=true/\M3 v xs=ds.any (λy=>Me y d)
 | [],_,r,_=>by rw[HasL]at r;subst r;exact⟨rfl,rfl⟩
 |e::ds,_,r,fs=>by
  rw[HasL]at r
  obtain⟨x,q,rfl,hx,hq⟩:=r
  rw[all_cons,and_eq_true]at fs
  obtain⟨h1,h2⟩:=Xz h f hq fs.2
  refine⟨by rw[all_cons,Yp hx fs.1,h1];rfl,?_⟩
  show(UB x v||M3 v q)=(Me e d||ds.any λy=>Me y d)
  rw[YU hx h fs.1 f,h2]
def T5(i j:Str):Bool:= !(Builtin.Str.occurrences j i 0 j.length 1).isEmpty
def inB(d:D)(ds:List D):Bool:=ds.any λy=>Me y d
def LZ:D->D->Res D
 | .str i,.str j=>.ok (.bl (T5 i j))
 |d,.tup ds=>if(Vh d&&ds.all Vh)=true then .ok (.bl (inB d ds)) else .stuck
 |d,.lst ds=>if(Vh d&&ds.all Vh)=true then .ok (.bl (inB d ds)) else .stuck
 |_,_=>.stuck
section
variable {p:Pos}{e:Expr}{f:Ba->Res D}{fs:Ba->Res (List D)}
theorem AC{v:V}(h:HasT K W H d v)(f:Vh d=true):Has K W H d v:=by
 rcases h with h|⟨ds,_,_,rfl,_⟩
 .exact h
 .cases f
theorem MW:G4 X xw (λx y H Q=>(∃ i j,x=.str i/\y=.str j/\Q (.bl (!(Builtin.Str.occurrences j i 0 j.length 1).isEmpty)) H)\/X6 X.K false x y H Q) LZ:=by
 intro W H d e v u Q w hv hu q
 unfold LZ at q
 split at q
 .exact .inl ⟨_,_,hv.str,hu.str,q.bl⟩
 .split at q
  .rename_i hf
   rw[and_eq_true]at hf
   obtain⟨a1,xs,e1,sq,r⟩:=hu.tup
   obtain⟨h1,h2⟩:=Xz (AC hv hf.1) hf.1 r hf.2
   exact .inr ⟨a1,xs,e1,.inr sq,Yp (AC hv hf.1) hf.1,h1,by rw[if_neg Bool.false_ne_true,h2];exact q.bl⟩
  .exact q.elim
 .split at q
  .rename_i hf
   rw[and_eq_true]at hf
   obtain⟨a1,xs,e1,sq,r⟩:=hu.lst
   obtain⟨h1,h2⟩:=Xz (AC hv hf.1) hf.1 r hf.2
   exact .inr ⟨a1,xs,e1,.inl sq,Yp (AC hv hf.1) hf.1,h1,by rw[if_neg Bool.false_ne_true,h2];exact q.bl⟩
  .exact q.elim
 .exact q.elim
theorem P6(ha:XP X xw a fa)(hb:XP X xw b fb)(hm:behindInMarks .In b=false:=by rfl):XT X xw (.Compare a [.In] [b] pos) (tR (b2 LZ fa fb)):=
 ⟨DE.t_of (f:=b2 LZ fa fb) (PT.weak (Xo (QF.or PF) ha.h hb.h hm) λσ H Q ⟨W₀,H₀,W,δ,st,q⟩=>Mj st q λH2 d e v u k w hv hu _ _ q2=>MW W H2 d e v u _ w hv hu q2)⟩
variable {lo hi:Option Expr}{fl fh:Ba->Res (Option Int)}
theorem Ux{x:Str}{n:Int}(h1:1<=n)(h2:n<=1000)(h3:x.length<=1000):MulOk x n:=by
 refine⟨?_,λ_ _=>?_,λ_ _=>?_⟩
 .rw[decide_eq_false (by omega),decide_eq_false (by omega)];rfl
 .have:(1000:Int)<=(2^63-1) / n:=by
   rw[Int.le_ediv_iff_mul_le (by omega)]
   omega
  omega
 .have:x.length*n.toNat<=1000*1000:=Nat.mul_le_mul h3 (by omega)
  have hz:(1000000:Nat)<=sizeLine:=by rw[sizeLine_eq];decide
  unfold Builtin.Str.tooLong
  simp
  omega
theorem QP:OpR X (binaryOp .Mult) (λx y H Q=>∃ z n,x=.str z/\y=.int n/\MulOk z n/\Q (.str (PySem.Txt.mul z n)) H):=by
 intro pins s σ H x y v u Q I rx ry h
 obtain⟨z,n,rfl,rfl,hok,q⟩:=h
 obtain⟨t,rfl⟩:=rx
 obtain⟨t',rfl⟩:=ry
 exact PySem.SB.mul hok λt' k=>⟨.str _,H,I.tok _,⟨t',rfl⟩,q⟩
structure GlobT(K:Frag)(mg:Str->Option Value)(x:Str)(xs:List Str):Prop where
 h:∃ (ad:Addr) (o:Obj) (its:Array Value) (n:Nat),mg x=some (.ref ad)/\K.lookup ad=some o/\o.cls=.type "tuple"/\o.data=.seq its n/\its.size<=sizeLine/\Vals (xs.map V.str) its.toList
theorem YQ{P:Program}{w:World}{k:Bb}{u:Value}(r:RelV (kV k) u):(Uc P w).is k u=true:=by
 cases k with
 |inl i=>obtain⟨t,rfl⟩:=r;exact Sx P w i t
 |inr x=>obtain⟨t,rfl⟩:=r;exact Tx P w x t
def Kx:D->Option Bb
 | .str x=>some (.inr x)
 | .int i=>some (.inl i)
 |_=>none
end
end L3
namespace L3
open PySem PySem.Spec PyProof.Rows L2 SeqAt
open Builtin Builtin.Str
section
variable {X:Cx}{xw:XW}{pos p p2 apos cpos:Pos}{tg a b c e o:Expr}{es:List Expr}{f fa fb:Ba->Res D}{fs:Ba->Res (List D)}
def Oh:List D->Option (List Str)
 | []=>some []
 | .str x::ds=>(Oh ds).map (x:: ·)
 |_=>none
theorem Yk{K:Frag}{W:WS}{H:Hp}:∀ {ds:List D} {xs:List Str} {vs:List V},Oh ds=some xs->HasL K W H ds vs->vs=xs.map V.str
 | [],xs,vs,h,r=>by cases h;rw[HasL]at r;exact r
 |d::ds,xs,vs,h,r=>by
  cases d with
  |str x=>
   obtain⟨ys,h1,rfl⟩:=map_eq_some_iff.mp (show(Oh ds).map (x:: ·)=some xs from h)
   rw[HasL]at r
   obtain⟨v,q,rfl,hv,hq⟩:=r
   rw[Has]at hv
   rw[hv,Yk h1 hq];rfl
  |_=>cases h
end
end L3
namespace L3
open PySem PySem.Spec PyProof.Rows L2 SeqAt
theorem HasL.erase{K:Frag}{W:WS}{H:Hp}:∀ {ds:List D} {xs:List V} (i:Nat),HasL K W H ds xs->HasL K W H (ds.eraseIdx i) (xs.eraseIdx i)
 | [],_,n,h=>by rw[HasL]at h;subst h;simp[HasL]
 |e::ds,_,0,h=>by
  rw[HasL]at h
  obtain⟨y,r,rfl,q,s⟩:=h
  exact s
 |e::ds,_,i+1,h=>by
  rw[HasL]at h
  obtain⟨y,r,rfl,q,s⟩:=h
  exact HasL.cons q (HasL.erase i s)
variable{X:Cx}{xw:XW}{pos:Pos}{a:Expr}{fa:Ba->Res D}
section
variable {p p2 apos cpos:Pos}{tg b c e o ie:Expr}{es:List Expr}{f fi fb:Ba->Res D}{fs:Ba->Res (List D)}
def Q5(i:Nat)(δ:Ba)(ds:List D)(d ix:D):Out:=match ix with
 | .int k=>match PV ds.length k with
  |some j=>.nx (δ.set i (some (.o (ds.set j d))))
  |none=>.stuck
 |_=>.stuck
def R5(i:Nat)(fi:Ba->Res D)(δ:Ba)(d:D):Out:=match δ[i]? with
 |some (some (.o ds))=>Rl (fi δ) (Q5 i δ ds d)
 |_=>.stuck
def WC(i:Nat)(fi f:Ba->Res D):Ba->Out:=λδ=>Rl (f δ) (R5 i fi δ)
end
section
variable {p:Pos}
end
end L3
namespace HT
open PySem PyProof.Rows
section
open PySem.SeqAt
open PySem.AutoSeq1 (wpAny_loadPart')
open PySem.MeetsSeq PySem.MeetsSeq2 PySem.MeetsSeq3
end
section
variable {prog:Program}{w:World}{A:Around}{E:Value->Shared->Prop}{s:Shared}
end
end HT
namespace L3
open PySem PySem.Spec PyProof.Rows L2 SeqAt
section
variable {X:Cx}{xw:XW}
end
end L3
namespace L3
open PySem
def J4(xs:Array Nat):Prop:=xs.toList.Pairwise (λa b=>a<b)
structure TOk(txt:Bool)(t:SetTable):Prop where
 led:t.led= !txt
 ok:t.plain=true->J4 t.place/\t.dummies= #[]
theorem MK{α:Type}:∀ (l:List α) (i:Nat) (h:i<l.length),(l[i]::l.eraseIdx i).Perm l
 | [],_,h=>absurd h (Nat.not_lt_zero _)
 |a::l,0,_=>Perm.refl _
 |a::l,i+1,h=>by
  have hi:i<l.length:=by simpa using h
  rw[List.getElem_cons_succ,List.eraseIdx_cons_succ]
  exact(Perm.swap a _ _).trans (Perm.cons a (MK l i hi))
variable{α:Type}
theorem LX(next:Nat->Nat):∀ (n k:Nat) (left:List α) (out:Array α),n=left.length->(pickOrder.go next n k left out).toList.Perm (out.toList++left):=by
 intro n
 induction n with
 |zero=>intro k left out e;have:left= []:=List.length_eq_zero_iff.mp e.symm;subst this;unfold pickOrder.go;simp
 |succ n ih=>
  intro k left out e
  have hl:next k%left.length<left.length:=Nat.mod_lt _ (by omega)
  unfold pickOrder.go
  rw[getElem?_eq_getElem hl]
  dsimp only
  refine(ih _ _ _ (by rw[List.length_eraseIdx_of_lt hl];omega)).trans ?_
  rw[Array.toList_push,append_assoc]
  exact Perm.append_left _ (by simpa using MK left _ hl)
theorem Oq(next:Nat->Nat)(xs:Array α):(pickOrder next xs).toList.Perm xs.toList:=by
 unfold pickOrder;simpa using LX next xs.size 0 xs.toList #[] (by simp)
def J7(σ:List Int)(k:Int):List Int:=if k∈σ then σ else σ++ [k]
variable{prog:Program}{w:World}{A:Around}{E:Value->Shared->Prop}{s:Shared}
namespace F
end F
variable{I:Addr}{o:Obj}{es:Array (Int×Value)}{ep:Nat}
section
variable {S:Addr}{t:SetTable}
end
namespace F
end F
variable{T:Addr}{first:Value}{i:Nat}
section
variable {S:Addr}{t:SetTable}
end
structure SW(prog:Program)(w:World)(A:Around)(I:Addr)(fp:List Addr)(ord:List Value)(St:Nat->Heap->Prop):Prop where
 W:Walks prog w A I fp [I] ord.length (λi v=>ord[i]? =some v) St
 mem:I∈fp
variable{σ:List Int}
section
variable {S:Addr}{t:SetTable}
end
open Sem (wp)
section
variable {S:Addr}
end
def met(ns:List Int):List Int:=ns.foldl J7 []
section
variable {R:Result->Shared->Prop}{fp wr:List Addr}{G:Array GenState->Array GenState->Prop}{n:Nat}{P:Nat->Value->Prop}{St:Nat->Shared->Prop}
def Itr(prog:Program)(w:World)(l:Addr)(ol:Obj)(items:Array Value):Prop:=∀ (A:Around) (s':Shared) (Q:Value->Shared->Prop) (E:Value->Shared->Prop),s'.heap.get? l=some ol->
 (∀ I St h',(∀ A':Around,A'.handled=none->Walks prog w A' I [I,l] [I] items.size (λi v=>items[i]? =some v) St)->St 0 h'->I=s'.heap.objs.size->(∀ b o,s'.heap.get? b=some o->h'.get? b=some o)->Q (.ref I) {s' with heap:=h'})->
 wpAny (model prog w) A (pyIter (.ref l)) Q E s'
theorem LI{l:Addr}{ol:Obj}{items:Array Value}{nl:Nat}(hc:ol.cls=.type "list")(hd:ol.data=.seq items nl):Itr prog w l ol items:=λA s' Q E hl h=>by
 have hL:s'.heap.IsList l items:=⟨ol,hl,hc,nl,hd⟩
 have hne:l≠s'.heap.objs.size:=ne_of_lt (lt_size hl)
 exact wpAny_pyIter_list hL (h _ (λi h=>h.IsListIter s'.heap.objs.size l i/\h.IsList l items) _ (λA' hA=>Walks.list hA _ l hne items) ⟨⟨_,get?_push_size _ rfl,rfl,rfl⟩,hL.push _⟩ rfl λb o e=>get?_push_of_some _ e)
theorem ZK(a:Value){Q₁:Value->Shared->Prop}(h:∀ led:Bool,led=(!w.params.followText "set-order")->Q₁ (.ref s.heap.objs.size) {s with heap:=s.heap.push {cls:=.type "set",dict:=none,data:=.set #[] 0 (.fresh 0 0 led)}}):
  codeAny (model prog w) A (.call (.builtin "set.__new__") ⟨[.type "set",a],[]⟩) (wants Q₁ E) s:=by
 refine codeAny_of_tree ?_
 show wpAny _ A.in1 (checkBuiltinCall "set.__new__" ⟨[.type "set",a],[]⟩ >>= λ_=>again (.builtin "set.__new__" ⟨[.type "set",a],[]⟩)) _ _ s
 refine wpAny_bind (wpAny_of_eq (PySem.F.newCall_set_1 a) (wpAny_pure ⟨plainId_quiet PySem.F.plain_set_new _,codeAny_builtin PySem.F.entry_set_new ?_⟩));rw[Around.under_plainId PySem.F.plain_set_new _]
 unfold Builtin.«set.__new__» Builtin.Frozenset.newClass
 have hsub:=sub_set_self
 obtain⟨hp,g,d,tk,os⟩:=s
 dsimp only;wp_walk
 refine wpAny_askSetting (wpAny_pure ?_)
 dsimp only;simp only[newObj]
 exact wpAny_bind (wpAny_alloc (wpAny_pure (wpAny_pure (h _ rfl))))
end
open PyProof.Rows
end L3
namespace L3
open PySem PySem.Spec PyProof.Rows L2
abbrev K3(t:Bool)(h:Heap)(l:Addr):Heap:=h.push (N3 t l)
abbrev P4(t:Bool)(h:Heap)(l:Addr):Heap:=(K3 t h l).push {cls:=.type "enumerate",data:=.fields #[.none,.bool false,.ref h.objs.size,rawInt 0,.none,.none]}
theorem HE(t:Bool)(l:Addr)(xs:Array Value):Meets (Builtin.«enumerate.__new__» ⟨[.type "enumerate",.ref l],[]⟩) (λ_ R s=>IsSq t s.heap l xs/\
   R (.ok (.ret (.ref (K3 t s.heap l).objs.size))) {s with heap:=P4 t s.heap l}):=
 .of_wp λprog w A R s h=>by
  obtain⟨hp,g,d,tk,os⟩:=s;obtain⟨q,h⟩:=h
  have hsub:=sub_enumerate
  have e1:IsSq t (Shared.heap ⟨hp,g,d,tk,os⟩) l xs:=q
  wp_walk
  refine wpAny_stack_any λst=>wpAny_pure ?_
  split
  .rename_i c _ _ _ _ _
   cases (c==Value.type "enumerate")
   .wp_walk using Tv e1
    exact⟨_,rfl,h⟩
   .wp_walk using Tv e1
    exact⟨_,rfl,h⟩
  .wp_walk using Tv e1
   exact⟨_,rfl,h⟩
variable{w:World}{s:Shared}{l:Addr}
theorem Qz{prog:Program}{A:Around}{E:Value->Shared->Prop}{t:Bool}{xs:Array Value}{Q:Value->Shared->Prop}(q:IsSq t s.heap l xs)(h:∀ n h',n=s.heap.objs.size->IsEnum h' (n+1) n ((0:Nat):Int) .none->SqI t h' n l 0->(∀ c o,s.heap.get? c=some o->h'.get? c=some o)->Q (.ref (n+1)) {s with heap:=h'}):
  wpAny (model prog w) A (call (.type "enumerate") [.ref l]) Q E s:=by
 refine callType_new F.called_enumerate (by decide) (F.typeCall_enumerate_1 _) (F.newCall_enumerate_1 _) (λobj=>F.args_object_init_2 obj _) F.entry_enumerate_new (HE t l xs) ⟨q,?_⟩
 have z1:(K3 t s.heap l).objs.size=s.heap.objs.size+1:=size_push ..
 have g2:(P4 t s.heap l).get? (K3 t s.heap l).objs.size=some _:=get?_push_size _ rfl
 have f1:(N3 t l).isFreed=false:=by cases t<;>rfl
 have g1:(P4 t s.heap l).get? s.heap.objs.size=some (N3 t l):=get?_push_of_some _ (get?_push_size _ f1)
 show _/\_
 rw[z1]at g2 ⊢
 refine⟨⟨_,g2,rfl⟩,h _ _ rfl g2 ?_ λc o e=>get?_push_of_some _ (get?_push_of_some _ e)⟩
 cases t with
 |true=>exact⟨_,g1,rfl,rfl⟩
 |false=>exact⟨_,g1,rfl,rfl⟩
def Q6(K : Frag)(t : Bool)(l : Addr) : It :=
  ⟨λi H => ∃ xs x, ES t K H l xs /\ xs[i]? = some x,
   λi H v H' => ∃ p x, v = .ref p /\ H p = none /\ H' = Eb H p (.tup [.int i, x]) /\ ∀ xs, ES t K H l xs -> xs[i]? = some x,
   λi H => ∃ xs, ES t K H l xs /\ i = xs.length⟩
variable{elts:List Expr}{kt:Nat}
theorem BG{P:Program}{K:Frag}{pt:Pos}{t:Bool}{e it:Addr}(n1:l≠it)(n2:e≠it)(n3:e≠l):
  Turn P w K (.Tuple elts kt pt) (Q6 K t l) [e,it] e (λi h=>(∃ old,IsEnum h e it i old)/\SqI t h it l i) where
 mem:=by simp
 obj:=λi h st b hb=>by
  obtain⟨⟨old,he⟩,s1⟩:=st
  simp only[mem_cons,not_mem_nil,or_false]at hb
  rcases hb with rfl|rfl
  .exact⟨_,he,λv q=>nomatch q⟩
  .obtain⟨o,vs,e,d⟩:=s1.rec
   exact⟨o,e,λv q=>by rw[d]at q;cases q⟩
 keep:=λi h h' st k=>by
  obtain⟨⟨old,he⟩,s1⟩:=st
  exact⟨⟨old,k e (by simp) _ he⟩,s1.at' λo q=>k it (by simp) o q⟩
 item:=by
  intro X hP hw hK hc i pins s σ H E I hf st hg
  subst hP hw hK
  obtain⟨⟨old,he⟩,s1⟩:=st
  obtain⟨xs,x,q1,e1⟩:=hg
  obtain⟨it1,r1,p1,_⟩:=Yz I q1
  obtain⟨u1,hu1,ru1⟩:=r1.get e1
  have hef:e∉ [it,l]:=by simp only[mem_cons,not_mem_nil,or_false,not_or];exact⟨n2,n3⟩
  have hlt:i<it1.toArray.size:=by
   rcases Nat.lt_or_ge i it1.length with z|z
   .simpa using z
   .rw[List.getElem?_eq_none z]at hu1;cases hu1
  refine wpAny_pyNext_enum_itemD (JH (show X.A.in1.handled=none from I.ok.hd hc) t it l n1 it1.toArray) he ⟨s1,p1⟩ hlt n2 hef λx' h1 tk px eo st1 nw sz kk=>⟨_,rfl,?_⟩
  have px':it1[i]? =some x':=by simpa using px
  rw[hu1]at px';cases px'
  refine wpAny_letOwnedTupleGo_enum (s:= {s with heap:=h1,toks:=tk+1}) eo λh2 e2 c2=>?_
  have le:e<s.heap.objs.size:=lt_size he
  have lit:it<s.heap.objs.size:=by obtain⟨o,_,q,_⟩:=s1.rec;exact lt_size q
  have up:∀ b o,b≠e->h1.get? b=some o->h2.get? b=some o:=λb o ne q=>c2.extBut _ _ ne q
  refine⟨.ref s.heap.objs.size,Eb H s.heap.objs.size (.tup [.int i,x]),?_,rfl,⟨_,x,rfl,I.hok.fresh (le_refl _),rfl,λzs hs=>by rw[Zz I hs q1];exact e1⟩,⟨⟨_,e2⟩,st1.1.at' λo q=>up _ _ (Ne.symm n2) q⟩,λb hb=>?_⟩
  .show Inv X pins σ (Eb H s.heap.objs.size (.tup [.int i,x])) {s with heap:=h2,toks:=tk+1}
   refine WE (ch:= [e,it]) (t':=tk+1) I hf (λb o hb q=>?_) (le_refl _) (.cons (by exact⟨tk,rfl⟩) (.cons ru1 .nil)) (show(2:Nat)<=sizeLine by rw[sizeLine_eq];decide) ⟨_,up _ _ (ne_of_gt le) nw,rfl,_,rfl⟩
   simp only[mem_cons,not_mem_nil,or_false,not_or]at hb
   exact up _ _ hb.1 (kk b o hb.1 hb.2 q)
  .have hb1:=(hf b hb).1
   have:b<s.heap.objs.size:=by
    simp only[mem_cons,not_mem_nil,or_false]at hb
    rcases hb with rfl|rfl
    .exact le
    .exact lit
   rw[Da (ne_of_lt this)];exact hb1
 done:=by
  intro X hP hw hK hc i pins s σ H E I hf st hg
  subst hP hw hK
  obtain⟨⟨old,he⟩,s1⟩:=st
  obtain⟨xs,q1,rfl⟩:=hg
  obtain⟨it1,r1,p1,_⟩:=Yz I q1
  have hsz:xs.length=it1.toArray.size:=by simp[r1.length]
  rw[hsz]at s1 he
  refine wpAny_pyNext_enum_endD (JH (show X.A.in1.handled=none from I.ok.hd hc) t it l n1 it1.toArray) he ⟨s1,p1⟩ λh1 k=>⟨rfl,?_⟩
  refine YE (ch:= [e,it]) (t':=s.toks) I hf λb o hb q=>?_
  simp only[mem_cons,not_mem_nil,or_false,not_or]at hb
  exact k b o hb.2 q
 self:=λ_ _ _ _ _ st h=>let ⟨⟨_,he⟩,_⟩:=st;wpAny_pyIter_enum he h
variable{X:Cx}{xw:XW}{pos:Pos}{a:Expr}
section
variable {pt p:Pos}{b:Expr}{fs:Ba->Res (List D)}
def Q0(K:Frag)(ta:TA):TI:=λσ H R=>ta σ H λvs H1=>∃ t l xs,vs= [.ref l]/\ES t K H1 l xs/\R (Q6 K t l) H1
theorem OQ{ta:TA}(hg:Gl X "enumerate")(hm:X.mg "enumerate"=none)(ha:PA X [a] ta)(hs:starEach [a] X.env= [(false,eval a X.env)]):
  PI X (.Tuple elts kt pt) (.Call (.Name "enumerate" p) [a] [] pos) (Q0 X.K ta):=by
 intro pins s σ H R I h
 refine Call_ (Lf I hg hm (show bootBuiltins "enumerate"=some (.type "enumerate") by decide +kernel) (PyProof.Rows.callWith_type1 (thn (ha pos pins s σ H _ I h) λus s1 ⟨vs,H1,I1,r1,q1⟩=>?_) (by rw[hs];rfl) (by rfl)))
 obtain⟨t,l,xs,e,q1,q⟩:=q1
 subst e
 obtain⟨u1,rfl,ru1⟩:=r1.one
 cases (show u1=Value.ref l from ru1)
 obtain⟨it1,v1,p1,_⟩:=Yz I1 q1
 have a1:=p1.lt
 refine Qz p1 λn h' hn he s1' kk=>wpAny_pyIter_enum he ?_
 subst hn
 have J:Inv X pins σ H1 {s1 with heap:=h'}:=I1.kept (t':=s1.toks) λc o e=>kk c o e
 refine⟨s1.heap.objs.size+1,[s1.heap.objs.size+1,s1.heap.objs.size],_,_,H1,rfl,J,BG (t:=t) (ne_of_lt a1) (ne_of_gt (Nat.lt_succ_self _)) (ne_of_gt (Nat.lt_succ_of_lt a1)),⟨⟨_,he⟩,s1'⟩,λc hc=>?_,q⟩
 have hcs:s1.heap.objs.size<=c:=by
  simp only[mem_cons,not_mem_nil,or_false]at hc
  rcases hc with rfl|rfl
  .exact le_succ _
  .exact le_refl _
 exact I1.fpOk hcs (I1.hok.fresh hcs)
def Kj:Nat->List D->List D
 |_,[]=> []
 |k,x::xs=>.tup [.int k,x]::Kj (k+1) xs
theorem Pm:∀ {xs:List D} {k i:Nat} {d:D},(Kj k xs)[i]? =some d->∃ x,xs[i]? =some x/\d=.tup [.int ((k+i:Nat):Int),x]
 | [],_,_,_,e=>by simp[Kj]at e
 |x::xs,k,0,d,e=>by
  rw[Kj]at e
  simp at e
  exact⟨x,rfl,by simp[<-e]⟩
 |x::xs,k,i+1,d,e=>by
  rw[Kj]at e
  obtain⟨u,h1,h2⟩:=Pm (xs:=xs) (k:=k+1) (i:=i) (by simpa using e)
  exact⟨u,by simpa using h1,by rw[h2,show k+1+i=k+(i+1) by omega]⟩
theorem Qm:∀ (k:Nat) (xs:List D),(Kj k xs).length=xs.length
 |_,[]=>rfl
 |k,x::xs=>by rw[Kj,List.length_cons,Qm,List.length_cons]
def Zi(ds:List D):Res (List D):=match ds with
 | [x]=>match KI x with
  |some xs=>.ok (Kj 0 xs)
  |_=>.stuck
 |_=>.stuck
theorem HN(hm:X.mg "enumerate"=none)(ha:DA X xw [a] fs)(hg:Gl X "enumerate":=by rfl)(hs:starEach [a] X.env= [(false,eval a X.env)]:=by rfl):
  DI X xw (.Tuple elts kt pt) (.Call (.Name "enumerate" p) [a] [] pos) (b1 Zi fs):=
 PI.weak (OQ hg hm ha hs) λσ H R ⟨W₀,H₀,W,δ,st,q⟩=>by
  refine⟨W₀,H₀,W,δ,st,?_⟩
  simp only[b1]at q
  cases h1:fs δ with
  |stuck=>rw[h1]at q;exact q
  |ex c gs=>rw[h1]at q;exact q
  |ok ds=>
   rw[h1]at q
   intro vs H1 k1 hv
   dsimp only[Res.bind]at q
   unfold Zi at q
   split at q
   .rename_i ds' hq
    split at hq
    .rename_i x
     split at hq
     .rename_i xs ex
      have e':Kj 0 xs=ds':=by cases hq;rfl
      subst e'
      rw[HasL]at hv
      obtain⟨v1,r1,rfl,g1,hv⟩:=hv
      rw[HasL]at hv
      subst hv
      have w1:=st.fr.wl.same k1
      obtain⟨t1,l1,xs1,rfl,r1,f1⟩:=OY w1 g1 ex
      refine⟨t1,l1,xs1,rfl,f1 W H1 Step.refl,q _ H1 k1 ?_⟩
      intro W' H2 k2 w2
      have c1:=f1 W' H2 k2
      refine⟨λi d e=>?_,xs1,c1,?_⟩
      .obtain⟨x0,e1,rfl⟩:=Pm e
       obtain⟨x1,o1,hx1⟩:=r1.get e1
       refine⟨⟨xs1,x1,c1,o1⟩,λu H3 z=>?_⟩
       obtain⟨p0,x2,rfl,hp,rfl,z1⟩:=z
       have:=z1 xs1 c1
       rw[o1]at this;cases this
       refine⟨Vd hp,?_⟩
       rw[Has]
       have hx2:=(Has.keep k2.keep w1 k2.new hx1).same (Vd (o:=.tup [.int i,x1]) hp) w2
       refine⟨p0,[.int i,x1],rfl,.of Ma,HasL.cons ?_ (HasL.cons hx2 HasL.nil)⟩
       rw[Has,zero_add]
      .rw[Qm,r1.length]
     .cases hq
    .cases hq
   .rename_i hq
    split at hq
    .split at hq<;>cases hq
    .cases hq
   .exact q.elim
end
open SeqAt
theorem vals_ints:∀ {us:List Value} {ns:List Int},IntsAre us ns->Vals (ns.map V.int) us
 |_,_,.nil=>.nil
 |_,_,.cons n t r=>.cons ⟨t,rfl⟩ (vals_ints r)
section
variable {p pos2 p2:Pos}{fa:Ba->Res D}{pins:List (Addr×Obj)}{σ:L2.St}{H:Hp}
theorem Wz{pt:Pos}{fs:Ba->Res (List D)}(hm:X.mg "enumerate"=none)(ha:XA X xw [a] fs)(hg:Gl X "enumerate":=by rfl)(hs:starEach [a] X.env= [(false,eval a X.env)]:=by rfl):
  XI X xw (.Tuple elts kt pt) (.Call (.Name "enumerate" p) [a] [] pos) (b1 Zi fs):=⟨HN hm ha.h hg hs⟩
end
end L3
namespace HT
open PySem PyProof.Rows
section
variable {prog:Program}{w:World}{A:Around}{E:Value->Shared->Prop}{s:Shared}
end
end HT
namespace L3
open PySem PySem.Spec PyProof.Rows L2 SeqAt
section
variable {X:Cx}{xw:XW}{a:Expr}{lo hi:Option Expr}{fa:Ba->Res D}{fl fh:Ba->Res (Option Int)}{pos p2:Pos}
def P7(d:D)(lo hi:Option Int):Res D:=match d with
 | .tup ds=>.ok (.tup (cutD ds lo hi))
 | .lst ds=>.ok (.lst (cutD ds lo hi))
 |_=>.stuck
end
theorem AD(ds:List D)(lo hi:Option Int):P7 (.lst ds) lo hi=.ok (.lst (cutD ds lo hi)):=rfl
end L3
namespace HT
open PySem PyProof.Rows
section
variable {prog:Program}{w:World}{A:Around}{E:Value->Shared->Prop}{s:Shared}
end
end HT
namespace L3
open PySem PySem.Spec PyProof.Rows L2 SeqAt
section
variable {X:Cx}{xw:XW}{a st:Expr}{fa:Ba->Res D}{pos p2:Pos}
end
end L3
namespace L3
open PySem PySem.Spec PyProof.Rows L2
variable{K:Frag}{xw:XW}{W₀ W W1:WS}{H₀ H:Hp}{Dn:Ends}
section
variable {H1:Hp}
def E7(K:Frag)(xw:XW)(W₀:WS)(H₀:Hp)(W:WS)(H:Hp)(o:Out)(Dn:Ends):Prop:=match o with
 | .rt (.lst ds)=>∀ a xs H',Same H₀ H'->H₀ a=none->H' a=some (.lst xs)->HasL K (λb=>W₀ b\/b=a) H' ds xs->Dn.rt (.ref a) H'
 |o=>RS K xw W₀ H₀ W H o Dn
def Z5(K:Frag)(xw:XW)(g:Ba->Out):TS:=λDn σ H=>∃ W₀ H₀ W δ,StHas K W₀ H₀ W H σ δ/\E7 K xw W₀ H₀ W H (g δ) Dn
end
structure NoL(g:Ba->Out):Prop where
 h:∀ δ ds,g δ≠ .rt (.lst ds)
variable{X:Cx}{st:Stmt}{pos:Pos}{a:Expr}
section
variable {sts:List Stmt}{g1 g2:Ba->Out}{p:Pos}{es:List Expr}
structure XSO(X:Cx)(xw:XW)(sts:List Stmt)(g:Ba->Out):Prop where
 h:PSs X sts (Z5 X.K xw g)
def S7(K:Frag)(n:Nat)(m:List D->Res D):Sp:=λvs H Q _=>vs.length=n/\∃ W ds,WL W H/\HasL K W H ds vs/\match m ds with
 | .ok (.lst fs)=>∀ a xs H',Same H H'->H a=none->H' a=some (.lst xs)->HasL K (λb=>W b\/b=a) H' fs xs->Q (.ref a) H'
 | .ok d=>∀ v H',Same H H'->Has K W H' d v->Q v H'
 |_=>False
structure FnO(P:Program)(w:World)(K:Frag)(mg:Str->Option Value)(base:Heap)(k:Nat)(x:Str)(n:Nat)(m:List D->Res D):Prop where
 ex:∃ f fd ps,FnOk P w K mg base Al k f fd ps (S7 K n m)/\mg x=some (.ref f)/\keepIn K (.ref f)=true/\Binds K fd ps []
def F5(i:Nat)(δ:Ba):D->Out
 | .lst ds=>.nx (δ.set i (some (.o ds)))
 |d=>.nx (δ.set i (some (.d d)))
def UC(i:Nat)(f:Ba->Res D):Ba->Out:=λδ=>Rl (f δ) (F5 i δ)
def BS(K:Frag)(W:WS)(H:Hp):List D->List V->Prop
 | [],xs=>xs= []
 |d::ds,xs=>∃ x r,xs=x::r/\HasT K W H d x/\BS K W H ds r
def D7(K:Frag)(xw:XW)(W:WS)(H:Hp)(r:Res (List D))(Q:List V->Hp->Prop):Prop:=match r with
 | .ok ds=>∀ vs H',Same H H'->BS K W H' ds vs->Q vs H'
 | .ex c fs=>∀ H',Same H H'->xw c fs H'
 | .stuck=>False
structure XAP(X:Cx)(xw:XW)(es:List Expr)(f:Ba->Res (List D)):Prop where
 h:PA X es λσ H Q=>∃ W₀ H₀ W δ,StHas X.K W₀ H₀ W H σ δ/\D7 X.K xw W H (f δ) Q
end
open SeqAt
variable{α:Type}{k:Bb}
section
variable {β:Type}
def Kc(l:List (Bb×α))(k:Bb):Option α:=(l.find? λp=>decide (p.1=k)).map (·.2)
def Io(l:List (Bb×α))(k:Bb):Bool:=l.any λp=>decide (p.1=k)
def Dh(l:List (Bb×α))(k:Bb)(y:α):List (Bb×α):=if Io l k=true then l.map (λp=>if p.1=k then(p.1,y) else p) else l++ [(k,y)]
theorem Di{p:Bb×α}{r:List (Bb×α)}(e:p.1=k):Kc (p::r) k=some p.2:=by simp[Kc,find?_cons,e]
theorem Bh{p:Bb×α}{r:List (Bb×α)}(e:¬ p.1=k):Kc (p::r) k=Kc r k:=by simp[Kc,find?_cons,e]
theorem Fm(k:Bb):∀ l:List (Bb×α),Io l k=(Kc l k).isSome
 | []=>rfl
 |p::r=>by
  by_cases e:p.1=k
  .rw[Di e];simp[Io,e]
  .rw[Bh e,<-Fm k r];simp[Io,e]
theorem Xy(l:List (Bb×α))(k:Bb)(y:α):(Dh l k y).length<=l.length+1:=by
 unfold Dh;split
 .rw[length_map];omega
 .simp
end
variable{kvs:List (Bb×V)}{vs:List (Bb×Value)}
theorem Nu(r:KV kvs vs)(k:Bb):(∀ v,Kc kvs k=some v->∃ u,valueAt vs k=some u/\RelV v u)/\(Kc kvs k=none->valueAt vs k=none):=by
 unfold KV at r
 induction r with
 |nil=>exact⟨(λv e=>by cases e),λ_=>rfl⟩
 |@cons p q ps qs h t ih=>
  obtain⟨h1,h2⟩:=h
  by_cases e:p.1=k
  .have b:valueAt (q::qs) k=some q.2:=by simp[valueAt,find?_cons,h1.symm.trans e]
   rw[Di e,b]
   exact⟨λv z=>by cases z;exact⟨_,rfl,h2⟩,λz=>by cases z⟩
  .have e':¬ q.1=k:=λz=>e (h1.trans z)
   have b:valueAt (q::qs) k=valueAt qs k:=by simp[valueAt,find?_cons,e']
   rw[Bh e,b];exact ih
theorem AW(r:KV kvs vs)(k:Bb):Io kvs k=vs.any λp=>decide (p.1=k):=by
 unfold KV at r
 induction r with
 |nil=>rfl
 |cons h t ih=>unfold Io at ih ⊢;rw[List.any_cons,List.any_cons,ih,h.1]
variable{u:Value}
theorem WI(r:KV kvs vs)(k:Bb){y:V}(ry:RelV y u):KV (Dh kvs k y) (stored vs k u):=by
 unfold Dh stored
 rw[AW r k]
 by_cases e:(vs.any λp=>decide (p.1=k))=true
 .rw[if_pos e,if_pos e]
  unfold KV at r ⊢
  clear e
  induction r with
  |nil=>exact .nil
  |@cons p q ps qs h t ih=>
   rw[map_cons,map_cons]
   refine .cons ?_ ih
   obtain⟨h1,h2⟩:=h
   by_cases e:p.1=k
   .rw[if_pos e,if_pos (h1.symm.trans e)];exact⟨h1,ry⟩
   .rw[if_neg e,if_neg (λz=>e (h1.trans z))];exact⟨h1,h2⟩
 .rw[if_neg e,if_neg e]
  unfold KV at r ⊢
  clear e
  induction r with
  |nil=>exact .cons ⟨rfl,ry⟩ .nil
  |cons h t ih=>exact .cons h ih
theorem Pi(r:KV kvs vs):kvs.length=vs.length:=by
 unfold KV at r
 induction r with
 |nil=>rfl
 |cons h t ih=>rw[List.length_cons,List.length_cons,ih]
variable{d:D}{l:List (Bb×D)}{ks:List Bb}{ds:List D}{H':Hp}
section
variable {K:Frag}{W:WS}{H:Hp}
def HasP(K:Frag)(W:WS)(H:Hp)(l:List (Bb×D))(kvs:List (Bb×V)):Prop:=kvs.map (·.1)=l.map (·.1)/\HasL K W H (l.map (·.2)) (kvs.map (·.2))
theorem HasP.nil:HasP K W H [] []:=⟨rfl,HasL.nil⟩
theorem HasP.cons{p:Bb×D}{l:List (Bb×D)}{kvs:List (Bb×V)}(h:HasP K W H (p::l) kvs):∃ v r,kvs=(p.1,v)::r/\Has K W H p.2 v/\HasP K W H l r:=by
 obtain⟨h1,h2⟩:=h
 cases kvs with
 |nil=>cases h1
 |cons q r=>
  rw[map_cons,map_cons]at h1 h2
  rw[HasL]at h2
  obtain⟨x,t,e,g1,g2⟩:=h2
  cases e
  have h3:=List.cons.inj h1
  exact⟨q.2,r,by rw[<-h3.1],g1,h3.2,g2⟩
theorem HasP.mk{v:V}(h:Has K W H d v)(t:HasP K W H l kvs):HasP K W H ((k,d)::l) ((k,v)::kvs):=⟨by rw[map_cons,map_cons,t.1],by rw[map_cons,map_cons];exact HasL.cons h t.2⟩
theorem HasP.len(h:HasP K W H l kvs):l.length=kvs.length:=by
 have:=congrArg length h.1
 simpa using this.symm
theorem HasP.of(h1:kvs.map (·.1)=ks)(h2:HasL K W H ds (kvs.map (·.2))):HasP K W H (ks.zip ds) kvs/\(ks.zip ds).map (·.1)=ks/\(ks.zip ds).map (·.2)=ds:=by
 have hl:ks.length=ds.length:=by rw[<-h1,h2.length,length_map,length_map]
 have e1:(ks.zip ds).map (·.1)=ks:=by rw[<-List.unzip_fst,List.unzip_zip hl]
 have e2:(ks.zip ds).map (·.2)=ds:=by rw[<-List.unzip_snd,List.unzip_zip hl]
 exact⟨⟨by rw[e1,h1],by rw[e2];exact h2⟩,e1,e2⟩
theorem HasP.same(h:HasP K W H l kvs)(k:Same H H')(w:WL W H):HasP K W H' l kvs:=⟨h.1,h.2.same k w⟩
theorem HasP.get:∀ {l:List (Bb×D)} {kvs:List (Bb×V)},HasP K W H l kvs->∀ (k:Bb),(∀ d,Kc l k=some d->∃ v,Kc kvs k=some v/\Has K W H d v)/\(Kc l k=none->Kc kvs k=none)
 | [],kvs,h,k=>by
  obtain⟨h1,_⟩:=h
  cases kvs with
  |nil=>exact⟨(λd e=>by cases e),λ_=>rfl⟩
  |cons _ _=>cases h1
 |p::l,kvs,h,k=>by
  obtain⟨v,r,rfl,h1,h2⟩:=h.cons
  by_cases e:p.1=k
  .rw[Di e,Di (p:=(p.1,v)) e]
   exact⟨λd z=>by cases z;exact⟨v,rfl,h1⟩,λz=>by cases z⟩
  .rw[Bh e,Bh (p:=(p.1,v)) e];exact h2.get k
theorem HasP.has(h:HasP K W H l kvs)(k:Bb):Io kvs k=Io l k:=by
 have:=h.1
 unfold Io
 rw[show(kvs.any λp=>decide (p.1=k))=(kvs.map (·.1)).any (λz=>decide (z=k)) by rw[List.any_map];rfl,this,List.any_map];rfl
theorem HasP.put{v:V}(h:HasP K W H l kvs)(k:Bb)(hd:Has K W H d v):HasP K W H (Dh l k d) (Dh kvs k v):=by
 unfold Dh
 rw[h.has k]
 split
 .rename_i hh;clear hh
  induction l generalizing kvs with
  |nil=>
   obtain⟨h1,_⟩:=h
   cases kvs with
   |nil=>exact HasP.nil
   |cons _ _=>cases h1
  |cons p l ih=>
   obtain⟨u,r,rfl,h1,h2⟩:=h.cons
   rw[map_cons,map_cons]
   by_cases e:p.1=k
   .rw[if_pos e,if_pos e];exact HasP.mk hd (ih h2)
   .rw[if_neg e,if_neg e];exact HasP.mk h1 (ih h2)
 .rename_i hh;clear hh
  induction l generalizing kvs with
  |nil=>
   obtain⟨h1,_⟩:=h
   cases kvs with
   |nil=>exact HasP.mk hd HasP.nil
   |cons _ _=>cases h1
  |cons p l ih=>
   obtain⟨u,r,rfl,h1,h2⟩:=h.cons
   exact HasP.mk h1 (ih h2)
end
variable{b e:Expr}{fa fb f:Ba->Res D}{P:Program}{w:World}{x:Str}{fq:Ba->Res (List (Bb×D))}{σ:L2.St}{δ:Ba}{i:Nat}{H2:Hp}{o:Out}{g:Ba->Out}{s:Shared}
section
variable {ie:Expr}{p p1 p2:Pos}{fi:Ba->Res D}
theorem Vm(r:RelV (kV k) u):(Uc P w).is k u=true:=YQ r
theorem Hy{h:Heap}{a:Addr}(ok:HOk P w H h)(e:Rd H a (.dK kvs)):kvs.length<=sizeLine/\(a==sysModules)=false/\∃ vs,KV kvs vs/\h.DictOf (Uc P w) a vs:=by
 rcases e with e|⟨o,e⟩
 .exact ok a _ e
 .exact(show _/\_ from ok a _ e).2
theorem Rd.same{a:Addr}{u:HO}(h:Rd H a u)(k:Same H H'):Rd H' a u:=h.imp (k _ _) λ⟨o,e⟩=>⟨o,k _ _ e⟩
def K5:R2:=λx y H Q=>∃ a kvs k v,x=.ref a/\Rd H a (.dK kvs)/\y=kV k/\Kc kvs k=some v/\Q v H
theorem DQ{ta tb:TE}(ha:PE X a ta)(hb:PE X b tb)(hs:Cl b):PE X (.Subscript a b pos) (N2 K5 ta tb):=by
 intro pins s σ H Q I h
 refine Subscript_ (QM ha hb I h λv u s2 x y H2 I2 rx ry q=>?_)
 obtain⟨d,kvs,k,z,rfl,hd,rfl,hg,q⟩:=q
 cases rx
 obtain⟨_,hS,vs,rel,dd⟩:=Hy I2.hok hd
 obtain⟨w',hw,rw'⟩:=(Nu rel k).1 z hg
 unfold subscriptTail
 refine wpAny_bind ?_
 rw[getitemInPython_of_ne dd.typeIs.not_modules]
 refine wpAny_bind (wpAny_specialOf dd.typeIs PySem.F.slot_dict_getitem.lookup ?_)
 have fin:wpAny (model X.prog X.w) X.A (subscripted b false (.ref d) u) (λr s₃=>wpAny (model X.prog X.w) X.A (letTemporaryGo a (.ref d) r >>= λ_=>pure r) (EP X pins σ Q) X.xe s₃) X.xe s2:=by
  rw[hs (.ref d) u]
  exact wpAny_operating (wpAny_getItem_of (Vm ry) dd.mapOf hw (wpAny_bind (wpAny_letTemporaryGo (wpAny_pure ⟨z,H2,I2.tok _,rw',q⟩))))
 first
  |exact wpAny_pure (wpAny_bind fin)
  |exact wpAny_bind (wpAny_pure (wpAny_bind fin))
  |exact wpAny_bind fin
def X1:V->V->V->Hp->(Hp->Prop)->Prop:=λo i v H Q=>∃ a kvs k,o=.ref a/\i=kV k/\H a=some (.dK kvs)/\kvs.length<sizeLine/\Q (Eb H a (.dK (Dh kvs k v)))
theorem YK:SZ X X1:=by
 intro pins s σ H o i v ov iv u Q I ro ri rv h
 obtain⟨a,kvs,k,rfl,rfl,ha,hl,q⟩:=h
 cases ro
 obtain⟨z,hS,vs,rel,dd⟩:=I.hok _ _ ha
 refine wpAny_setItem_pairs (hsz:=by rw[<-Pi rel];exact z) (Vm ri) dd λh' dd' hs=>⟨_,?_,q⟩
 refine I.write (x:=a) (e:=a) (by rw[ha];exact trivial) (.inl rfl) (λb' w hb hw=>(hs.2 b' hb).trans hw) ?_ ?_
 .obtain⟨ob,_,_,hq,_⟩:=dd';exact⟨ob,hq⟩
 .exact⟨by have:=Xy kvs k v;omega,hS,_,WI rel k rv,dd'⟩
def RQ(K:Frag)(xw:XW)(W:WS)(H:Hp)(r:Res (List (Bb×D)))(Q:VK):Prop:=match r with
 | .ok l=>∀ a kvs H',Same H H'->Rd H' a (.dK kvs)->HasP K W H' l kvs->Q (.ref a) H'
 | .ex c fs=>∀ H',Same H H'->xw c fs H'
 | .stuck=>False
def B7(K:Frag)(xw:XW)(f:Ba->Res (List (Bb×D))):TE:=λσ H Q=>∃ W₀ H₀ W δ,StHas K W₀ H₀ W H σ δ/\RQ K xw W H (f δ) Q
structure XQ(X:Cx)(xw:XW)(e:Expr)(f:Ba->Res (List (Bb×D))):Prop where
 h:PE X e (B7 X.K xw f)
def Wd(i:Nat):Ba->Res (List (Bb×D)):=λδ=>match δ[i]? with
 |some (some (.q ks ds))=>.ok (ks.zip ds)
 |some (some (.d (.dct ks ds)))=>.ok (ks.zip ds)
 |_=>.stuck
theorem Xl(i:Nat)(hN:X.N[i]? =some x:=by rfl)(hv:Br X.env.scope x:=by first|exact Or.inl rfl|exact Or.inr (Or.inl rfl)|exact Or.inr (Or.inr rfl))(hd:(x==("__debug__":Str))=false:=by decide)(hcd:(x==("__classdict__":Str))=false:=by decide):XQ X xw (.Name x pos) (Wd i):=
 ⟨PE.weak (Pd hN hv hd hcd) λσ H Q ⟨W₀,H₀,W,δ,st,q⟩=>by
  unfold Wd at q
  split at q
  .rename_i ks ds h
   obtain⟨v,e1,a,kvs,rfl,r2,r3,r4,r5,r6⟩:=st.at' i _ h
   exact⟨_,e1,q a kvs H (Same.refl H) (.inl r4) (HasP.of r5 r6).1⟩
  .rename_i ks ds h
   obtain⟨v,e1,r⟩:=st.at' i _ h
   have r':Has X.K W H (.dct ks ds) v:=r
   rw[Has]at r'
   obtain⟨a,kvs,rfl,r4,r5,r6⟩:=r'
   exact⟨_,e1,q a kvs H (Same.refl H) (.inr r4) (HasP.of r5 r6).1⟩
  .exact q.elim⟩
def Yq(op:D->Res α)(f:Ba->Res D):Ba->Res α:=λδ=>(f δ).bind op
def Ug(l:List (Bb×D))(d:D):Res D:=match Kx d with
 |some k=>match Kc l k with
  |some x=>.ok x
  |none=>.stuck
 |none=>.stuck
def OB(op:List (Bb×D)->D->Res α)(f:Ba->Res (List (Bb×D)))(g:Ba->Res D):Ba->Res α:=λδ=>(f δ).bind λl=>(g δ).bind λd=>op l d
theorem Zh{v:V}(h:HasT K W H d v)(e:Kx d=some k):v=kV k:=by
 cases d with
 |int i=>cases e;exact h.int
 |str x=>cases e;exact h.str
 |_=>cases e
theorem Gn(ha:XQ X xw a fq)(hb:XP X xw b fb)(hs:Cl b:=by intro _ _;rfl):XE X xw (.Subscript a b pos) (OB Ug fq fb):=
 ⟨PE.weak (DQ ha.h hb.h hs) λσ H Q ⟨W₀,H₀,W,δ,st,q⟩=>by
  refine⟨W₀,H₀,W,δ,st,?_⟩
  unfold OB at q
  cases h1:fq δ with
  |stuck=>rw[h1]at q;exact q
  |ex c fs=>rw[h1]at q;exact q
  |ok l=>
   rw[h1]at q
   intro ad kvs H1 k1 hd hp
   refine⟨W₀,H₀,W,δ,st.same k1,?_⟩
   have q':RE X.K xw W H ((fb δ).bind λd=>Ug l d) Q:=q
   cases h2:fb δ with
   |stuck=>rw[h2]at q';exact q'
   |ex c fs=>rw[h2]at q';exact λH2 k2=>q' H2 (k1.trans k2)
   |ok d=>
    rw[h2]at q'
    intro v H2 k2 hv
    have q2:RE X.K xw W H (Ug l d) Q:=q'
    unfold Ug at q2
    split at q2
    .rename_i k hk
     split at q2
     .rename_i x hx
      have hp2:=hp.same k2 (st.fr.wl.same k1)
      obtain⟨z,hz,hh⟩:=(hp2.get k).1 x hx
      exact⟨ad,kvs,k,z,rfl,Rd.same hd k2,Zh hv hk,hz,q2 z H2 (k1.trans k2) hh⟩
     .exact q2.elim
    .exact q2.elim⟩
def Sq(i:Nat):Ba->Out:=λδ=>.nx (δ.set i (some (.q [] [])))
theorem EQ{t:TE}(ht:∀ σ H Q,t σ H Q->∀ a,H a=none->Q (.ref a) (Eb H a (.dK []))):PE X (.Dict [] [] pos) t:=by
 intro pins s σ H Q I q
 have big:sysModules<s.heap.objs.size:=by
  have h:mainGlobals<s.heap.objs.size:=(I.mod.glob.keeps I.bk).lt
  exact lt_trans (by decide) h
 exact wpAny_Dict_empty ⟨.ref s.heap.objs.size,_,I.laid (a:=s.heap.objs.size) (o:=.dK []) (t':=s.toks) (λ_ _ q=>get?_push_of_some _ q) (le_refl _) (HH s.heap big),rfl,ht σ H Q q _ (I.hok.fresh (le_refl s.heap.objs.size))⟩
theorem FY(i:Nat){pos' pos'':Pos}(hN:X.N.Nodup)(hi:X.N[i]? =some x:=by rfl)(hx:Ez X.env.scope x:=by first|exact Or.inl rfl|exact Or.inr rfl)(hs:swapsWith (.Dict [] [] pos'') (some (.Name x pos')) pos.line X.env=pure false:=by rfl)(hf:X.fn x=true\/X.env.scope.names.lookup x=some .local:=by first|exact .inl rfl|exact .inr rfl|assumption):XS X xw (.Assign [.Name x pos'] (.Dict [] [] pos'') pos) (Sq i):=
 ⟨PS.weak (Iv hN hi hx (EQ (t:=λ_ H Q=>∀ a,H a=none->Q (.ref a) (Eb H a (.dK []))) λ_ _ _ q=>q) hs hf) λDn σ H ⟨W₀,H₀,W,δ,st,q⟩=>by
  intro a ha
  have st1:=st.ownQ (i:=i) (ks:= []) (ds:= []) (kvs:= []) ha rfl HasL.nil
  have q':RS X.K xw W₀ H₀ W H (.nx (δ.set i (some (.q [] [])))) Dn:=q
  refine q' _ _ _ ⟨λb o e nb=>?_,λb z=>z.elim .inl λz=>.inr (by rw[z];exact ha)⟩ st1
  rw[Da (Ka e ha)];exact e⟩
def SX(i:Nat)(δ:Ba)(l:List (Bb×D))(d ix:D):Out:=match Kx ix with
 |some k=>if l.length<=1000 then .nx (δ.set i (some (.q ((Dh l k d).map (·.1)) ((Dh l k d).map (·.2))))) else .stuck
 |none=>.stuck
def N1(i:Nat)(fi:Ba->Res D)(δ:Ba)(d:D):Out:=match δ[i]? with
 |some (some (.q ks ds))=>Rl (fi δ) (SX i δ (ks.zip ds) d)
 |_=>.stuck
def Am(i:Nat)(fi f:Ba->Res D):Ba->Out:=λδ=>Rl (f δ) (N1 i fi δ)
theorem HY(i:Nat)(he:XE X xw e f)(hi:XE X xw ie fi)(hN:X.N[i]? =some x:=by rfl)(hv:Br X.env.scope x:=by first|exact Or.inl rfl|exact Or.inr (Or.inl rfl)|exact Or.inr (Or.inr rfl))(hd:(x==("__debug__":Str))=false:=by decide)(hcd:(x==("__classdict__":Str))=false:=by decide)(ha:∀ v,assign (.Subscript (.Name x p1) ie p2) X.env v=(do
   let ov <-holding [v] (eval (.Name x p1) X.env)
   let iv <-holding [v,ov] (eval ie X.env)
   standAt p2
   holding [v,ov,iv] (setItem ov iv v)
   release [v,ov,iv] []):=by intro _;rfl)(hs:swapsWithSole [.Subscript (.Name x p1) ie p2] e pos.line X.env=pure false:=by rfl)(hw:swappedStores [.Subscript (.Name x p1) ie p2] e X.env=pure none:=by rfl)(h1:(assignEach [.Subscript (.Name x p1) ie p2] X.env).map (·.2)= [assign (.Subscript (.Name x p1) ie p2) X.env]:=by rfl):
  XS X xw (.Assign [.Subscript (.Name x p1) ie p2] e pos) (Am i fi f):=
 ⟨PS.weak (NA he.h (GX (Pd hN hv hd hcd) hi.h YK ha) hs hw h1) λDn σ H ⟨W₀,H₀,W,δ,st,q⟩=>by
  unfold Am at q
  refine Fi st q λH2 d v st2 hv q2=>?_
  unfold N1 at q2
  split at q2
  .rename_i ks ds h
   obtain⟨v0,e1,a,kvs,rfl,r2,r3,r4,r5,r6⟩:=st2.at' i _ h
   refine⟨_,e1,W₀,H₀,W,δ,st2,?_⟩
   cases hf:fi δ with
   |stuck=>rw[hf]at q2;exact q2.elim
   |ex c gs=>rw[hf]at q2;exact λH3 k3=>q2 H3 (st2.fr.ext.trans k3)
   |ok ix=>
    rw[hf]at q2
    have q3:RS X.K xw W₀ H₀ W H2 (SX i δ (ks.zip ds) d ix) Dn:=q2
    unfold SX at q3
    split at q3
    .rename_i k hk
     split at q3
     .rename_i hlen
      intro vi H3 k3 hvi
      have hkk:=Zh (.inl hvi) hk
      subst hkk
      have st3:=st2.same k3
      obtain⟨v',e1',a',kvs',e',r2',r3',r4',r5',r6'⟩:=st3.at' i _ h
      rw[e1]at e1'
      cases e1'
      cases e'
      have hp:=(HasP.of r5' r6').1
      have hp2:=hp.put k (hv.same k3 st2.fr.wl)
      refine⟨a,kvs',k,rfl,rfl,r4',by have:=hp.len;rw[sizeLine_eq];omega,?_⟩
      refine q3 W _ σ ⟨λb o e n=>?_,λ_ z=>.inl z⟩ ?_
      .rw[Da (λz=>n (by rw[z];exact r2'))];exact k3 _ _ e
      .exact st3.changeQ h e1 r2' hp2.1 hp2.2
     .exact q3.elim
    .exact q3.elim
  .exact q2.elim⟩
def MO(i:Nat)(δ:Ba):Ba:=match δ[i]? with
 |some (some (.q ks ds))=>δ.set i (some (.d (.dct ks ds)))
 |some (some (.o ds))=>δ.set i (some (.d (.lst ds)))
 |_=>δ
theorem StHas.frzQ{a:Addr}(o:Obj)(h:StHas K W₀ H₀ W H σ δ)(hi:δ[i]? =some (some (.q ks ds)))(hs:σ[i]? =some (some (.ref a)))(hW:W a)(h4:kvs.map (·.1)=ks)(h5:HasL K W H ds (kvs.map (·.2))):StHas K W₀ H₀ (λb=>W b/\b≠a) (Eb H a (.frz o (.dK kvs))) σ (δ.set i (some (.d (.dct ks ds)))):=by
 have kk:Ph W H (Eb H a (.frz o (.dK kvs))):=λb u e n=>by rw[Da (λz=>n (by rw[z];exact hW))];exact e
 refine h.freezeH (J5 ks ds) hi hs ?_
 rw[Has]
 exact⟨a,kvs,rfl,⟨o,Ma⟩,h4,HasL.keep kk h.fr.wl (λb z=>.inl z.1) h5⟩
theorem Step.less{W2:WS}(hw:∀ b,W1 b->W b)(k:Step W1 H W2 H2):Step W H W2 H2:=⟨λb o e n=>k.keep b o e λz=>n (hw b z),λb z=>(k.new b z).imp (hw b) id⟩
theorem RS.less{xw:XW}(hw:∀ b,W1 b->W b)(q:RS K xw W₀ H₀ W H o Dn):RS K xw W₀ H₀ W1 H o Dn:=by
 cases o with
 |nx δ=>exact λW' H' σ k s=>q W' H' σ (k.less hw) s
 |bk δ=>exact λW' H' σ k s=>q W' H' σ (k.less hw) s
 |ct δ=>exact λW' H' σ k s=>q W' H' σ (k.less hw) s
 |rt d=>exact q
 |ex c fs=>exact q
 |stuck=>exact q
def AR(i:Nat)(g:Ba->Out):Ba->Out:=λδ=>g (MO i δ)
theorem RS.note{xw:XW}{a:Addr}{ob:HO}(hW:W a)(q:RS K xw W₀ H₀ W H o Dn):RS K xw W₀ H₀ (λb=>W b/\b≠a) (Eb H a ob) o Dn:=by
 have st:∀ W' H',Step (λb=>W b/\b≠a) (Eb H a ob) W' H'->Step W H W' H':=λW' H' k=>⟨λb u e n=>by
   have hb:b≠a:=λz=>n (by rw[z];exact hW)
   exact k.keep b u (by rw[Da hb];exact e) λz=>n z.1,λb z=>by
   rcases k.new b z with z|z
   .exact .inl z.1
   .by_cases hb:b=a
    .rw[hb,Ma]at z;cases z
    .rw[Da hb]at z;exact .inr z⟩
 cases o with
 |nx δ=>exact λW' H' σ k s=>q W' H' σ (st _ _ k) s
 |bk δ=>exact λW' H' σ k s=>q W' H' σ (st _ _ k) s
 |ct δ=>exact λW' H' σ k s=>q W' H' σ (st _ _ k) s
 |rt d=>exact q
 |ex c fs=>exact q
 |stuck=>exact q
theorem AI{pins:List (Addr×Obj)}(I:Inv X pins σ H s)(h:CL X.K xw (AR i g) Dn σ H):∃ H',Inv X pins σ H' s/\CL X.K xw g Dn σ H':=by
 obtain⟨W₀,H₀,W,δ,st,q⟩:=h
 have q':RS X.K xw W₀ H₀ W H (g (MO i δ)) Dn:=q
 unfold MO at q'
 split at q'
 .rename_i ks ds h
  obtain⟨v,e,a,kvs,rfl,r2,r3,r4,r5,r6⟩:=st.at' i _ h
  have ok:=I.hok _ _ r4
  obtain⟨z,hS,vs,rel,dd⟩:=id ok
  obtain⟨o,es,ep,ho,_⟩:=dd
  refine⟨_,I.write (x:=a) (e:=a) (o:=.frz o (.dK kvs)) (h':=s.heap) (t':=s.toks) (by rw[r4];exact trivial) (.inl rfl) (λb' u hb hu=>hu) ⟨_,ho⟩ ⟨ho,ok⟩,W₀,H₀,_,_,st.frzQ o h e r2 r5 r6,RS.note r2 q'⟩
 .rename_i ds h
  obtain⟨v,e,a,xs,rfl,_⟩:=st.at' i _ h
  exact⟨H,I,W₀,H₀,_,_,(st.freeze h e).1,RS.less (λb z=>z.1) q'⟩
 .exact⟨H,I,W₀,H₀,W,δ,st,q'⟩
theorem A2(i:Nat)(h:XS X xw st g):XS X xw st (AR i g):=⟨λpins s σ H Dn I q=>let ⟨H',I',q'⟩:=AI I q;h.h pins s σ H' Dn I' q'⟩
end
theorem BA(h:(Uc P w).is k u=true):RelV (kV k) u:=by
 rcases Dc h with⟨i,t,rfl,rfl⟩|⟨x,t,rfl,rfl⟩
 .exact⟨t,rfl⟩
 .exact⟨t,rfl⟩
variable{a:Addr}{es:Array DictEntry}{o:Obj}{ep:Nat}
theorem Zp{h:Heap}(ok:HOk P w H h)(e:H a=some (.frz o (.dK kvs)))(hd:o.data=.dict es ep):
  (a==sysModules)=false/\∃ vs,KV kvs vs/\h.DictAt (Uc P w) a vs ep:=by
 obtain⟨h1,_,h2,vs,r,o',es',ep',g1,g2,g3,g4⟩:=(show _/\_ from ok a _ e)
 rw[h1]at g1;cases g1
 rw[hd]at g3;cases g3
 exact⟨h2,vs,r,o,es,h1,g2,hd,g4⟩
theorem UI(r:KV kvs vs){p:Bb×V}(h:kvs[i]? =some p):∃ u,vs[i]? =some (p.1,u)/\RelV p.2 u:=by
 unfold KV at r
 induction r generalizing i with
 |nil=>cases h
 |@cons p' q ps qs hh t ih=>
  cases i with
  |zero=>cases h;exact⟨q.2,by rw[List.getElem?_cons_zero,hh.1],hh.2⟩
  |succ i=>exact ih (by simpa using h)
def C4(a:Addr)(o:Obj)(kvs:List (Bb×V)):It:=
 ⟨λi H=>H a=some (.frz o (.dK kvs))/\i<kvs.length,λi H x H'=>H'=H/\∃ p,kvs[i]? =some p/\x=kV p.1,λi H=>H a=some (.frz o (.dK kvs))/\i=kvs.length⟩
variable{tg:Expr}
theorem SR{it:Addr}(hdat:o.data=.dict es ep):Turn P w K tg (C4 a o kvs) [it] it (λi h=>h.IsKeyIter it a i kvs.length ep) where
 mem:=by simp
 obj:=λi h st b hb=>by
  have e:b=it:=by simpa using hb
  subst e
  obtain⟨o,e,c,d⟩:=st
  exact⟨o,e,λv z=>by rw[d]at z;cases z⟩
 keep:=λi h h' st k=>st.at λo e=>k it (by simp) o e
 item:=by
  intro X hP hw hK hc i pins s σ H E I hf st hg
  subst hP hw hK
  obtain⟨hq,hi⟩:=hg
  obtain⟨_,vs,rel,dat⟩:=Zp I.hok hq hdat
  obtain⟨u,hu,ru⟩:=UI rel (getElem?_eq_getElem hi)
  obtain⟨f0,f1,f2,f3,f4,f5⟩:=hf it (by simp)
  rw[Pi rel]at st
  refine wpAny_pyNext_dict_item st dat hu λkey h' hkey st' sb=>?_
  have I1:Inv X pins σ H {s with heap:=h'}:=I.turned (t':=s.toks) (λb o hb e=>(sb.2 b hb).trans e) f0 f1 f3 f4 f5
  obtain⟨o1,e,c,d⟩:=id st'
  rw[<-Pi rel]at st'
  exact⟨key,rfl,FC (s:= {s with heap:=h'}) e c d (by decide) ⟨kV (kvs[i]).1,H,I1,BA hkey,⟨rfl,_,getElem?_eq_getElem hi,rfl⟩,st',λb hb=>(hf b hb).1⟩⟩
 done:=by
  intro X hP hw hK hc i pins s σ H E I hf st hg
  subst hP hw hK
  obtain⟨hq,rfl⟩:=hg
  obtain⟨_,vs,rel,dat⟩:=Zp I.hok hq hdat
  obtain⟨f0,f1,f2,f3,f4,f5⟩:=hf it (by simp)
  rw[Pi rel]at st
  exact wpAny_pyNext_dict_end (I.ok.hd hc) st dat (by simp) λh' eb=>⟨rfl,I.turned (t':=s.toks) (λb o hb e=>eb b o hb e) f0 f1 f3 f4 f5⟩
 self:=λ_ _ _ _ _ st h=>wpAny_pyIter_keyiter st h
variable{apos:Pos}
section
def L7(te:TE):TI:=λσ H R=>te σ H λx H1=>∃ a o kvs,x=.ref a/\H1 a=some (.frz o (.dK kvs))/\R (C4 a o kvs) H1
theorem G1{te:TE}(h:PE X e te):PI X tg e (L7 te):=by
 intro pins s σ H R I h1
 refine thn (h pins s σ H _ I h1) λv s1 ⟨x,H1,I1,r1,q1⟩=>?_
 obtain⟨a,o,kvs,rfl,hq,q⟩:=q1
 cases r1
 obtain⟨h1',_,hS,vs',r',o',es,ep,g1,g2,g3,g4⟩:=(show _/\_ from I1.hok a _ hq)
 rw[h1']at g1;cases g1
 obtain⟨hs,vs,rel,dat⟩:=Zp I1.hok hq g3
 refine wpAny_pyIter_dict hs dat ?_
 refine⟨s1.heap.objs.size,[s1.heap.objs.size],_,_,H1,rfl,I1.kept (t':=s1.toks) λb o e=>get?_push_of_some _ e,SR g3,⟨_,get?_push_size _ rfl,rfl,by rw[Pi rel];rfl⟩,λb hb=>?_,q⟩
 have e:b=s1.heap.objs.size:=by simpa using hb
 subst e
 exact I1.fpOk (le_refl _) (I1.hok.fresh (le_refl _))
def Qn:Bb->D
 | .inl i=>.int i
 | .inr x=>.str x
theorem Rs(k:Bb):Has K W H (Qn k) (kV k):=by
 cases k with
 |inl i=>show Has K W H (.int i) (.int i);rw[Has]
 |inr x=>show Has K W H (.str x) (.str x);rw[Has]
theorem ZH{W':WS}{u:HO}(w:WL W H)(k:Step W H W' H2)(h:H a=some (.frz o u)):H2 a=some (.frz o u):=k.keep _ _ h λz=>by
 obtain⟨o',e',m⟩:=w a z
 rw[h]at e';cases e';exact m
theorem MV(w:WL W H)(h:H a=some (.frz o (.dK kvs)))(e:kvs.map (·.1)=ks):LG K W H (C4 a o kvs) (ks.map Qn):=by
 intro W' H2 k w2
 have h2:=ZH w k h
 have hl:ks.length=kvs.length:=by rw[<-e,length_map]
 refine⟨λi d ed=>?_,h2,by rw[length_map,hl]⟩
 have hi:i<kvs.length:=by
  have:=(List.getElem?_eq_some_iff.mp ed).1
  rw[length_map,hl]at this;exact this
 refine⟨⟨h2,hi⟩,λx H3 z=>?_⟩
 obtain⟨rfl,p,hp,rfl⟩:=z
 refine⟨Same.refl _,?_⟩
 rw[<-e,getElem?_map,getElem?_map,hp]at ed
 cases ed
 exact Rs _
def Ss:D->Res (List D)
 | .dct ks _=>.ok (ks.map Qn)
 |_=>.stuck
theorem GI(h:XE X xw e f):XI X xw tg e (Yq Ss f):=⟨PI.weak (G1 h.h) λσ H R ⟨W₀,H₀,W,δ,st,q⟩=>by
 refine⟨W₀,H₀,W,δ,st,?_⟩
 unfold Yq at q
 cases h1:f δ with
 |stuck=>rw[h1]at q;exact q
 |ex c fs=>rw[h1]at q;exact q
 |ok d=>
  rw[h1]at q
  intro v H1 k1 hv
  cases d with
  |dct ks ds=>
   rw[Has]at hv
   obtain⟨a,kvs,rfl,⟨o,ea⟩,r5,r6⟩:=hv
   exact⟨a,o,kvs,rfl,ea,q _ H1 k1 (MV (st.fr.wl.same k1) ea r5)⟩
  |_=>exact q.elim⟩
variable {elts:List Expr}{kt:Nat}{pt:Pos}
end
variable{a:Expr}
section
variable {p pos2:Pos}
end
variable{prog:Program}{A:Around}{E:Value->Shared->Prop}
section
variable {p:Pos}{fs:Ba->Res (List D)}
end
theorem On:entryFor table "dict.update.loop"=some Builtin.«dict.update.loop» :=entryFor_of_tree (by kernel_rfl)
theorem Jh:plainId "dict.update.loop"=true:=by decide +kernel
section
variable {KK:Type}[DecidableEq KK]{knd:KeyKind prog w KK}{R:Result->Shared->Prop}{I:Addr}{fp wr:List Addr}{G:Array GenState->Array GenState->Prop}{n:Nat}{P:Nat->Value->Prop}{St:Nat->Shared->Prop}
theorem IN(W:WalksS prog w A.in1 I fp wr G n P St)(S:Addr)(hSf:S∉fp)(base:Heap)(hnew:∀ b∈S::wr,base.objs.size<=b)(kvs:List (KK×Value))(hn:kvs.length=n)(hsz:n<=sizeLine)(hv:∀ i v,P i v->∃ t key k val,v=.ref t/\kvs[i]? =some (k,val)/\knd.is k key=true/\IsTup base t #[key,val]):
  ∀ (j i:Nat) (s:Shared),n-i=j->i<=n->St i s->(∀ b o,base.get? b=some o->s.heap.get? b=some o)->s.heap.DictOf knd S (merged [] (kvs.take i))->(∀ s',Moved (S::wr) G s s'->s'.heap.DictOf knd S (merged [] kvs)->R (.ok (.ret .none)) s')->
   codeAny (model prog w) A (.builtin "dict.update.loop" ⟨[.ref S,.ref I,rawInt (i:Int),.none],[]⟩) R s:=by
 have hSw:S∉wr:=λh=>hSf (W.sub _ h)
 have up:∀ b∈wr,b∈S::wr:=λb hb=>mem_cons_of_mem _ hb
 have old:∀ b o,base.get? b=some o->b∉S::wr:=λb o e m=>absurd (lt_size e) (Nat.not_lt.mpr (hnew b m))
 intro j
 induction j with
 |zero=>
  intro i s hk hi st hb hS hR
  have:i=n:=by omega
  subst this
  refine codeAny_builtin On ?_;rw[Around.under_plainId Jh _]
  show wpAny _ A.in1 (pyNext (.ref I) >>= _) _ _ s
  refine wpAny_bind (W.done s _ _ st λs' mv=>?_)
  show wpAny _ _ (Builtin.Dict.addKeywords S [] >>= _) _ _ s'
  refine wpAny_bind (wpAny_pure (wpAny_pure (hR s' (mv.mono up) ?_)))
  rw[List.take_of_length_le (Nat.le_of_eq hn)]at hS
  obtain⟨o,es,ep,ho,r⟩:=hS
  exact⟨o,es,ep,mv.heap S o hSw ho,r⟩
 |succ j ih=>
  intro i s hk hi st hb hS hR
  have lt:i<n:=by omega
  refine codeAny_builtin On ?_;rw[Around.under_plainId Jh _]
  show wpAny _ A.in1 (pyNext (.ref I) >>= _) _ _ s
  refine wpAny_bind (W.item i s _ _ lt st λv s' pv st' mv=>?_)
  obtain⟨t,key,k,val,rfl,hkv,hkey,ht⟩:=hv i v pv
  have hS':s'.heap.DictOf knd S (merged [] (kvs.take i)):=by
   obtain⟨o,es,ep,ho,r⟩:=hS
   exact⟨o,es,ep,mv.heap S o hSw ho,r⟩
  obtain⟨ot,e1,e2,e3⟩:=ht
  obtain⟨m,e3⟩:=e3
  have et:=mv.heap t ot (λz=>old t ot e1 (up _ z)) (hb t ot e1)
  have hT:s'.TypeIs (.ref t) "tuple":=⟨ot,et,e2⟩
  show wpAny _ A.in1 (holding [Value.ref t] _ >>= _) _ _ s'
  refine wpAny_bind (wpAny_holding ?_)
  refine wpAny_bind (wpAny_tryCatch ?_)
  unfold Builtin.Dict.pairItems
  refine wpAny_bind (wpAny_typeOf hT ?_)
  rw[if_pos (by decide)]
  refine wpAny_bind (wpAny_seqItems et e3 (wpAny_pure ?_))
  show wpAny _ _ (holding [key,val] (dictSet S key val)) _ _ _
  have hs0:(merged ([]:List (KK×Value)) (kvs.take i)).length<=sizeLine:=by
   have:=merged_length_le ([]:List (KK×Value)) (kvs.take i)
   rw[List.length_take,length_nil,zero_add]at this
   have h2:min i kvs.length<=i:=Nat.min_le_left _ _
   exact le_trans this (le_trans h2 (le_trans hi hsz))
  refine wpAny_holding (wpAny_dictSet_pairs (hsz:=hs0) hkey hS' λh' hS2 sb=>?_)
  refine wpAny_pure (show _/\codeAny (model prog w) A (.builtin "dict.update.loop" ⟨[.ref S,.ref I,rawInt ((i:Int)+1),.none],[]⟩) R {s' with heap:=h',toks:=s'.toks+1} from⟨plainId_quiet Jh _,?_⟩)
  have e5:rawInt ((i:Int)+1)=rawInt ((i+1:Nat):Int):=by congr 1
  rw[e5]
  refine ih (i+1) _ (by omega) lt (W.frame _ s' _ _ st' (le_succ _) λb hb o e=>sb.extBut _ _ (λq=>hSf (q▸hb)) e) (λb o e=>sb.extBut _ _ (λq=>old b o e (by rw[q];exact mem_cons_self)) (mv.heap b o (λz=>old b o e (up _ z)) (hb b o e))) (by rw[merged_take_succ _ _ i _ hkv];exact hS2) λs'' mv2 hS3=>hR s'' ?_ hS3
  exact Moved.trans W.gtrans ((mv.mono up).then_heap (le_succ _) λb o hb e=>sb.extBut _ _ (λq=>hb (by rw[q];exact mem_cons_self)) e) mv2
theorem Px:typeLookup (.type "list") "keys"=pure none:=by rw[typeLookup_type,builtinLookup_eq_fast];kernel_rfl
theorem EF{a:Addr}{xs:Array Value}{k:Nat}{Q:Option Value->Shared->Prop}(hx:s.heap.get? a=some o)(hc:o.cls=.type "list")(hdat:o.data=.seq xs k)(hd:o.dict=none)(hA:A.handled=none)(h:∀ h' tk,(∀ b ob,s.heap.get? b=some ob->h'.get? b=some ob)->Q none {s with heap:=h',toks:=tk}):
  wpAny (model prog w) A (getAttr? (.ref a) "keys") Q E s:=by
 obtain⟨c,dct,dat,sl⟩:=o
 simp only at hc hdat hd
 subst hc hdat hd
 obtain⟨hp,g,d,tk,os⟩:=s
 have hT:∀ tk',(⟨hp,g,d,tk',os⟩:Shared).TypeIs (.ref a) "list":=λ_=>⟨_,hx,rfl⟩
 have f1:=sub_AttributeError
 have f3:=F.slot_list_getattribute.lookup
 have f4:=F.slot_list_getattribute.bind (.ref a)
 have f5:=am_list_getattr_none
 unfold getAttr? getAttrBy? getAttrBy
 repeat (any_goals (first|assumption|exact hT _|((with_reducible show wpAny _ _ (call (Value.builtin "list.__getattribute__") _ _) _ _ _);refine call_meets F.slot_list_getattribute (hT _) am_entry_list_getattribute (F.args_list_getattribute_2 _ _) (meets_getattribute_miss_list a xs k sl "keys" _ Px (by decide) (by rw[sizeLine_eq];decide)) ⟨hx,hA,λh' tk' e hx'=>?_⟩)|wp_step))
 obtain⟨t',u',he⟩:=hx'.there
 show wpAny _ _ (getattributeRaised _ _ _ _ _ _ _) _ _ _
 unfold getattributeRaised
 repeat (any_goals (first|assumption|wp_step))
 exact h h' tk' hx'.keeps
theorem Mp{l:Addr}{items:Array Value}{n0:Nat}{kvs:List (KK×Value)}{Q:Value->Shared->Prop}(hh:A.handled=none)(hx:s.heap.get? l=some o)(hc:o.cls=.type "list")(hdat:o.data=.seq items n0)(hd:o.dict=none)(hn:kvs.length=items.size)(hsz:items.size<=sizeLine)(hv:∀ (i:Nat) (v:Value),items[i]? =some v->∃ t key k val,v=Value.ref t/\kvs[i]? =some (k,val)/\knd.is k key=true/\IsTup s.heap t #[key,val])(h:∀ h' tk,h'.DictOf knd s.heap.objs.size (merged [] kvs)->(∀ b o,s.heap.get? b=some o->h'.get? b=some o)->Q (.ref s.heap.objs.size) {s with heap:=h',toks:=tk}):
  wpAny (model prog w) A (call (.type "dict") [.ref l]) Q E s:=by
 refine callType_codes (Q₁:=λobj s₁=>obj=.ref s.heap.objs.size/\s₁= {s with heap:=s.heap.push {cls:=.type "dict",data:=.dict #[]}}) F.kt_called_dict (F.kt_typeCall_dict_1 _) F.entry_dict_init (kt_code_dict_new _ ⟨rfl,rfl⟩) ?_
 rintro obj s₁ ⟨rfl,rfl⟩
 have hnew:(s.heap.push {cls:=.type "dict",data:=.dict #[]}).DictOf knd s.heap.objs.size []:=Heap.DictOf.new s.heap
 have hx':=get?_push_of_some {cls:=.type "dict",data:=.dict #[]} hx
 have z1:(s.heap.push {cls:=.type "dict",data:=.dict #[]}).objs.size=s.heap.objs.size+1:=size_push ..
 have k1:∀ b o,s.heap.get? b=some o->(s.heap.push {cls:=.type "dict",data:=.dict #[]}).get? b=some o:=λb o e=>get?_push_of_some _ e
 generalize (s.heap.push {cls:=.type "dict",data:=.dict #[]})=h1 at hnew hx' z1 k1 ⊢
 refine⟨hnew.typeIs,F.args_dict_init_2 _ _,?_⟩
 unfold Builtin.«dict.__init__»
 refine wpAny_bind ?_
 unfold Builtin.Dict.selfAndRest
 refine wpAny_bind (wpAny_notOrdered_dict hnew.typeIs ?_)
 show wpAny _ _ (pure (s.heap.objs.size,[Value.ref l])) _ _ _
 refine wpAny_pure ?_
 show wpAny _ _ (Builtin.Dict.updateFrom "dict.__init__" s.heap.objs.size (.ref l) [] .none) _ _ _
 unfold Builtin.Dict.updateFrom
 have hT:Shared.TypeIs {s with heap:=h1} (.ref l) "list":=⟨_,hx',hc⟩
 refine wpAny_bind (wpAny_typeOf hT ?_)
 rw[if_pos (by decide)]
 refine wpAny_bind (EF (s:= {s with heap:=h1}) hx' hc hdat hd hh λh2 tk2 k2=>?_)
 rw[if_pos (show(none:Option Value).isNone=true from rfl)]
 refine wpAny_bind (wpAny_rule ?_)
 have hl2:h2.IsList l items:=⟨o,k2 _ _ hx',hc,n0,hdat⟩
 refine wpAny_bind (wpAny_pyIter_list (s:= {s with heap:=h2,toks:=tk2}) hl2 ?_)
 have lS:s.heap.objs.size<h2.objs.size:=by
  obtain⟨ob,_,_,hg,_⟩:=hnew
  exact lt_size (k2 _ _ hg)
 have ll:l<s.heap.objs.size:=lt_size hx
 have hS2:h2.DictOf knd s.heap.objs.size []:=by
  obtain⟨ob,es,ep,hg,r⟩:=hnew
  exact⟨ob,es,ep,k2 _ _ hg,r⟩
 have hlI:l≠h2.objs.size:=ne_of_lt (lt_trans ll lS)
 have W:=(Walks.list (prog:=prog) (w:=w) (A:=A.in1.in1) (show A.in1.in1.handled=none from hh) h2.objs.size l hlI items).toS
 refine wpAny_pure ⟨plainId_quiet Jh _,?_⟩
 refine IN (knd:=knd) (A:=A.in1) W s.heap.objs.size ?_ s.heap ?_ kvs hn hsz (λi v pv=>hv i v pv) items.size 0 _ (by omega) (zero_le _) ?_ ?_ ?_ ?_
 .simp only[mem_cons,not_mem_nil,or_false,not_or]
  exact⟨ne_of_lt lS,ne_of_gt ll⟩
 .intro b hb
  simp only[mem_cons,not_mem_nil,or_false]at hb
  rcases hb with rfl|rfl
  .exact le_refl _
  .exact le_of_lt lS
 .exact⟨⟨_,get?_push_size _ rfl,rfl,rfl⟩,⟨o,get?_push_of_some _ (k2 _ _ hx'),hc,n0,hdat⟩⟩
 .exact λb o e=>get?_push_of_some _ (k2 _ _ (k1 _ _ e))
 .obtain⟨ob,es,ep,hg,r⟩:=hS2
  exact⟨ob,es,ep,get?_push_of_some _ hg,r⟩
 .intro s' mv hS
  obtain⟨h',g',d',tk',os'⟩:=s'
  have eg:g'=s.gens:=mv.gens
  have ed:d'=s.drawn:=mv.drawn
  have eo:os'=s.os:=mv.os
  subst eg ed eo
  refine⟨rfl,h h' tk' hS λb ob e=>mv.heap b ob ?_ (get?_push_of_some _ (k2 _ _ (k1 _ _ e)))⟩
  have hb:=lt_size e
  simp only[mem_cons,not_mem_nil,or_false,not_or]
  exact⟨ne_of_lt hb,ne_of_lt (lt_trans hb lS)⟩
end
def Ig(l:List (Bb×α)):List (Bb×α):=l.foldl (λacc p=>Dh acc p.1 p.2) []
theorem VI(r:KV kvs vs):KV (Ig kvs) (merged [] vs):=by
 have go:∀ {kvs:List (Bb×V)} {vs:List (Bb×Value)},KV kvs vs->∀ {a:List (Bb×V)} {b:List (Bb×Value)},KV a b->KV (kvs.foldl (λacc p=>Dh acc p.1 p.2) a) (vs.foldl (λacc kv=>stored acc kv.1 kv.2) b):=by
  intro kvs vs r
  unfold KV at r
  induction r with
  |nil=>intro a b h;exact h
  |@cons p q ps qs h t ih=>
   intro a b hab
   obtain⟨h1,h2⟩:=h
   rw[foldl_cons,foldl_cons,<-h1]
   exact ih (WI hab p.1 h2)
 exact go r .nil
theorem HasP.merge(h:HasP K W H l kvs):HasP K W H (Ig l) (Ig kvs):=by
 have go:∀ (l:List (Bb×D)) (kvs:List (Bb×V)),HasP K W H l kvs->∀ (a:List (Bb×D)) (b:List (Bb×V)),HasP K W H a b->HasP K W H (l.foldl (λacc p=>Dh acc p.1 p.2) a) (kvs.foldl (λacc p=>Dh acc p.1 p.2) b):=by
  intro l
  induction l with
  |nil=>
   intro kvs h a b hab
   obtain⟨h1,_⟩:=h
   cases kvs with
   |nil=>exact hab
   |cons _ _=>cases h1
  |cons p l ih=>
   intro kvs h a b hab
   obtain⟨v,r,rfl,h1,h2⟩:=h.cons
   exact ih r h2 _ _ (hab.put p.1 h1)
 exact go l kvs h [] [] HasP.nil
theorem EA(l:List (Bb×α)):(Ig l).length<=l.length:=by
 have go:∀ (l a:List (Bb×α)),(l.foldl (λacc p=>Dh acc p.1 p.2) a).length<=a.length+l.length:=by
  intro l
  induction l with
  |nil=>intro a;simp
  |cons p l ih=>
   intro a
   have h1:=ih (Dh a p.1 p.2)
   have h2:=Xy a p.1 p.2
   rw[foldl_cons,List.length_cons];omega
 have:=go l [];simpa [Ig] using this
section
variable {p:Pos}
def PairsAt(K:Frag)(H:Hp):List V->List (Bb×V)->Prop
 | [],kvs=>kvs= []
 |x::xs,kvs=>∃ t k v r,x=.ref t/\kvs=(k,v)::r/\SqT K H t [kV k,v]/\PairsAt K H xs r
theorem PairsAt.len:∀ {xs:List V} {kvs:List (Bb×V)},PairsAt K H xs kvs->xs.length=kvs.length
 | [],_,h=>by rw[show _= [] from h];rfl
 |x::xs,_,h=>by
  obtain⟨t,k,v,r,_,rfl,_,h⟩:=h
  rw[List.length_cons,List.length_cons,h.len]
theorem Dt{pins:List (Addr×Obj)}{σ:L2.St}{H:Hp}{s:Shared}(I:Inv X pins σ H s):∀ {xs:List V} {its:List Value} {kvs:List (Bb×V)},PairsAt X.K H xs kvs->Vals xs its->
  ∃ vs:List (Bb×Value),KV kvs vs/\∀ (i:Nat) (v:Value),its[i]? =some v->∃ t key k val,v=Value.ref t/\vs[i]? =some (k,val)/\(Uc X.prog X.w).is k key=true/\IsTup s.heap t #[key,val]
 | [],its,kvs,h,r=>by
  cases r
  rw[show kvs= [] from h]
  exact⟨[],.nil,λi v e=>by simp at e⟩
 |x::xs,its,kvs,h,r=>by
  obtain⟨t,k,v,rr,rfl,rfl,sq,h⟩:=h
  cases r with
  |@cons _ u _ us r1 r2=>
   cases (show u=Value.ref t from r1)
   obtain⟨vs,e1,e2⟩:=Dt I h r2
   obtain⟨ys,ry,py,_⟩:=I.tuple sq
   cases ry with
   |@cons _ key _ _ q1 q2=>
    cases q2 with
    |@cons _ val _ _ q3 q4=>
     cases q4
     refine⟨(k,val)::vs,.cons ⟨rfl,q3⟩ e1,λi w hw=>?_⟩
     cases i with
     |zero=>cases hw;exact⟨t,key,k,val,rfl,rfl,Vm q1,py⟩
     |succ i=>exact e2 i w (by simpa using hw)
theorem Kz(hc:X.calm=true):Bl X (.type "dict") (λxs H Q=>∃ (l:Addr) (ys:List V) (kvs:List (Bb×V)),xs= [.ref l]/\SqL X.K H l ys/\PairsAt X.K H ys kvs/\∀ n o,H n=none->Q (.ref n) (Eb H n (.frz o (.dK (Ig kvs))))):=by
 intro pins s σ H xs us Q I r h
 obtain⟨l,ys,kvs,rfl,hq,hp,q⟩:=h
 obtain⟨u,rfl,ru⟩:=SL r
 cases ru
 obtain⟨its,rv,⟨ob,n0,e,hcl,hd,hs⟩,hz⟩:=I.list hq
 obtain⟨vs,kv,hv⟩:=Dt I hp rv
 have hl1:=hp.len
 have hl2:=rv.length
 have hl3:=Pi kv
 have big:sysModules<s.heap.objs.size:=by
  have h:mainGlobals<s.heap.objs.size:=(I.mod.glob.keeps I.bk).lt
  exact lt_trans (by decide) h
 refine Mp (knd:=Uc X.prog X.w) (kvs:=vs) (I.ok.hd hc) e hcl hs hd (by simp;omega) (by simp;omega) (λi v hw=>hv i v (by simpa using hw)) λh' tk dd kk=>?_
 obtain⟨ob',es,ep,ho',rr⟩:=id dd
 refine⟨.ref s.heap.objs.size,_,I.laid (a:=s.heap.objs.size) (o:=.frz ob' (.dK (Ig kvs))) (t':=tk) kk (le_refl _) ⟨ho',?_,beq_eq_false_iff_ne.mpr (Ne.symm (ne_of_lt big)),_,VI kv,dd⟩,rfl,q _ ob' I.fresh⟩
 have:=EA kvs
 omega
def Bi:List D->Option (List (Bb×D))
 | []=>some []
 | .tup [k,v]::ds=>match Kx k,Bi ds with
  |some kk,some l=>some ((kk,v)::l)
  |_,_=>none
 |_=>none
theorem Ct{K:Frag}{W:WS}{H:Hp}:∀ {ds:List D} {l:List (Bb×D)} {xs:List V},Bi ds=some l->HasL K W H ds xs->∃ kvs,PairsAt K H xs kvs/\HasP K W H l kvs
 | [],l,xs,e,h=>by
  cases e
  rw[HasL]at h
  subst h
  exact⟨[],rfl,HasP.nil⟩
 |d::ds,l,xs,e,h=>by
  unfold Bi at e
  split at e
  .rename_i h1;cases h1
  .rename_i k v ds' h1
   cases h1
   split at e
   .rename_i kk l' e1 e2
    cases e
    rw[HasL]at h
    obtain⟨x,r,rfl,g1,g2⟩:=h
    obtain⟨kvs,p1,p2⟩:=Ct e2 g2
    rw[Has]at g1
    obtain⟨t,ys,rfl,sq,hy⟩:=g1
    rw[HasL]at hy
    obtain⟨y1,r1,rfl,hk,hy⟩:=hy
    rw[HasL]at hy
    obtain⟨y2,r2,rfl,hv,hy⟩:=hy
    rw[HasL]at hy
    subst hy
    have:=Zh (.inl hk) e1
    subst this
    exact⟨(kk,y2)::kvs,⟨t,kk,y2,kvs,rfl,rfl,sq,p1⟩,HasP.mk hv p2⟩
   .cases e
  .cases e
def Jj:D->Res D
 | .lst ds=>match Bi ds with
  |some l=>.ok (.dct ((Ig l).map (·.1)) ((Ig l).map (·.2)))
  |none=>.stuck
 |_=>.stuck
theorem Yv(hc:X.calm=true)(hm:X.mg "dict"=none)(ha:XP X xw a fa)(hg:Gl X "dict":=by rfl)(he:starEach [a] X.env=(false,eval a X.env)::starEach [] X.env:=by rfl)(hpl:(backTo pos (starEach [] X.env)).any (·.1)=false:=by rfl):
  XE X xw (.Call (.Name "dict" p) [a] [] pos) (b1 Jj fa):=
 ⟨YD (Kz hc) (λW H d v Q w hv q=>by
  unfold Jj at q
  split at q
  .split at q
   .rename_i l hl
    obtain⟨ad,xs,e1,sq,r⟩:=hv.lst
    obtain⟨kvs,p1,p2⟩:=Ct hl r
    refine⟨ad,xs,kvs,by rw[e1],sq,p1,λn o hn=>q _ _ (Vd hn) ?_⟩
    have m:=(p2.merge).same (Vd (o:=.frz o (.dK (Ig kvs))) hn) w
    rw[Has]
    exact⟨n,Ig kvs,rfl,⟨o,Ma⟩,m.1,m.2⟩
   .exact q.elim
  .exact q.elim) hm (by decide +kernel) ha.h hg (by decide) (by decide) he hpl⟩
end
variable{Q:VK}{ad:Addr}
theorem Zy(r:KV kvs vs)(k:Bb):(valueAt vs k).isSome=(Kc kvs k).isSome:=by
 cases h:Kc kvs k with
 |none=>rw[(Nu r k).2 h];rfl
 |some v=>obtain⟨u,e,_⟩:=(Nu r k).1 v h;rw[e];rfl
theorem QW:OpR X (compareOp .In) (λy x H Q=>∃ ad kvs k,x=.ref ad/\Rd H ad (.dK kvs)/\y=kV k/\Q (.bl (Kc kvs k).isSome) H):=by
 intro pins s σ H y x u v Q I ry rx h
 obtain⟨ad,kvs,k,rfl,hd,rfl,q⟩:=h
 cases rx
 obtain⟨_,hS,vs,rel,dd⟩:=Hy I.hok hd
 refine wpAny_in_of (Vm ry) hS dd.mapOf ?_
 exact⟨.bl (Kc kvs k).isSome,H,I.tok _,by rw[<-Zy rel k];rfl,q⟩
theorem UP:OpR X (compareOp .NotIn) (λy x H Q=>∃ ad kvs k,x=.ref ad/\Rd H ad (.dK kvs)/\y=kV k/\Q (.bl (!(Kc kvs k).isSome)) H):=by
 intro pins s σ H y x u v Q I ry rx h
 obtain⟨ad,kvs,k,rfl,hd,rfl,q⟩:=h
 cases rx
 obtain⟨_,hS,vs,rel,dd⟩:=Hy I.hok hd
 refine wpAny_notIn_of (Vm ry) hS dd.mapOf ?_
 exact⟨.bl (!(Kc kvs k).isSome),H,I.tok _,by rw[<-Zy rel k];rfl,q⟩
def UE(d:D)(l:List (Bb×D)):Res D:=match Kx d with
 |some k=>.ok (.bl (Kc l k).isSome)
 |none=>.stuck
def Ys(d:D)(l:List (Bb×D)):Res D:=match Kx d with
 |some k=>.ok (.bl (!(Kc l k).isSome))
 |none=>.stuck
def UG(op:D->List (Bb×D)->Res D)(f:Ba->Res D)(g:Ba->Res (List (Bb×D))):Ba->Res D:=λδ=>(f δ).bind λd=>(g δ).bind λl=>op d l
theorem Bx{op:D->List (Bb×D)->Res D}{R:V->V->Hp->Prop}(st:StHas X.K W₀ H₀ W H σ δ)(q:RE X.K xw W H (UG op fa fq δ) Q)(h:∀ H2 d l v ad kvs,Same H H2->HasT X.K W H2 d v->Rd H2 ad (.dK kvs)->HasP X.K W H2 l kvs->RE X.K xw W H2 (op d l) Q->R v (.ref ad) H2):
  NR X.K xw fa σ H λx H1=>B7 X.K xw fq σ H1 λy H2=>R x y H2:=by
 refine⟨W₀,H₀,W,δ,st,?_⟩
 unfold UG at q
 cases h1:fa δ with
 |stuck=>rw[h1]at q;exact q
 |ex c fs=>rw[h1]at q;exact q
 |ok d=>
  rw[h1]at q
  intro v H1 k1 hv
  refine⟨W₀,H₀,W,δ,st.same k1,?_⟩
  have q':RE X.K xw W H ((fq δ).bind λl=>op d l) Q:=q
  cases h2:fq δ with
  |stuck=>rw[h2]at q';exact q'
  |ex c fs=>rw[h2]at q';exact λH2 k2=>q' H2 (k1.trans k2)
  |ok l=>
   rw[h2]at q'
   intro ad kvs H2 k2 hd hp
   exact h H2 d l v ad kvs (k1.trans k2) (hv.same k2 (st.fr.wl.same k1)) hd hp (RE.same q' (k1.trans k2))
theorem Rt(h:HasP K W H l kvs)(k:Bb):(Kc kvs k).isSome=(Kc l k).isSome:=by
 rw[<-Fm,<-Fm,h.has k]
theorem SO{v:V}(hv:HasT X.K W H d v)(hd:Rd H ad (.dK kvs))(hp:HasP X.K W H l kvs)(q:RE X.K xw W H (UE d l) Q):
  ∃ ad' kvs' k,V.ref ad=.ref ad'/\Rd H ad' (.dK kvs')/\v=kV k/\Q (.bl (Kc kvs' k).isSome) H:=by
 unfold UE at q
 split at q
 .rename_i k hk
  exact⟨ad,kvs,k,rfl,hd,Zh hv hk,by rw[Rt hp k];exact q.bl⟩
 .exact q.elim
theorem JJ{v:V}(hv:HasT X.K W H d v)(hd:Rd H ad (.dK kvs))(hp:HasP X.K W H l kvs)(q:RE X.K xw W H (Ys d l) Q):
  ∃ ad' kvs' k,V.ref ad=.ref ad'/\Rd H ad' (.dK kvs')/\v=kV k/\Q (.bl (!(Kc kvs' k).isSome)) H:=by
 unfold Ys at q
 split at q
 .rename_i k hk
  exact⟨ad,kvs,k,rfl,hd,Zh hv hk,by rw[Rt hp k];exact q.bl⟩
 .exact q.elim
theorem C3(ha:XP X xw a fa)(hb:XQ X xw b fq)(hm:behindInMarks .In b=false:=by rfl):XT X xw (.Compare a [.In] [b] pos) (tR (UG UE fa fq)):=
 ⟨DE.t_of (f:=UG UE fa fq) (PT.weak (Xo QW ha.h hb.h hm) λσ H Q ⟨W₀,H₀,W,δ,st,q⟩=>Bx st q λH2 d l v ad kvs k hv hd hp q2=>SO hv hd hp q2)⟩
theorem FZ(ha:XP X xw a fa)(hb:XQ X xw b fq)(hm:behindInMarks .NotIn b=false:=by rfl):XT X xw (.Compare a [.NotIn] [b] pos) (tR (UG Ys fa fq)):=
 ⟨DE.t_of (f:=UG Ys fa fq) (PT.weak (Xo UP ha.h hb.h hm) λσ H Q ⟨W₀,H₀,W,δ,st,q⟩=>Bx st q λH2 d l v ad kvs k hv hd hp q2=>JJ hv hd hp q2)⟩
structure FunD(K:Frag)(x qual:Str)(st:Stmt)(f:Addr)(fd:FuncData)(dV:Value):Prop where
 ex:∃ (oc:Value) (od:Option Addr) (kV doc pm:Value) (an:Option Addr) (cdv ct:Value) (osl:Array (Option Value)),
  fd=fnOf x qual (Gb st) (Va st) (Ca st) dV kV doc pm an cdv ct/\K.lookup f=some ⟨oc,od,.func fd,osl⟩/\codeIn K cdv qual=true
 kp:keepIn K (.ref f)=true
section
variable {mg:Str->Option Value}{base:Heap}
end
section
variable {p:Pos}
end
structure FnL(P:Program)(w:World)(K:Frag)(mg:Str->Option Value)(base:Heap)(k:Nat)(x:Str)(n:Nat)(m:List D->Res D)(i:Int):Prop where
 ex:∃ (fa:Addr) (fd:FuncData) (ps:List Str) (v0:Value),FnOk P w K mg base Al k fa fd ps (NY K n m)/\mg x=some (.ref fa)/\keepIn K (.ref fa)=true/\Binds K fd ps [v0]/\RelV (.int i) v0
end L3
namespace PySem
open Sem (wp)
def D2(o o':Obj):Prop:=o'.dict=o.dict/\∀ vs,o.data=.fields vs->∃ vs',o'.data=.fields vs'/\vs'[2]? =vs[2]?
theorem D2.refl(o:Obj):D2 o o:=⟨rfl,λvs e=>⟨vs,e,rfl⟩⟩
theorem D2.trans{a b c:Obj}(x:D2 a b)(y:D2 b c):D2 a c:=⟨y.1.trans x.1,λvs e=>by
 obtain⟨v1,e1,q1⟩:=x.2 vs e
 obtain⟨v2,e2,q2⟩:=y.2 v1 e1
 exact⟨v2,e2,q2.trans q1⟩⟩
def DK(h h':Heap):Prop:=∀ b o,h.get? b=some o->∃ o',h'.get? b=some o'/\D2 o o'
theorem DK.refl(h:Heap):DK h h:=λ_ o e=>⟨o,e,D2.refl o⟩
theorem DK.trans{h1 h2 h3:Heap}(x:DK h1 h2)(y:DK h2 h3):DK h1 h3:=λb o e=>
 let ⟨o1,e1,d1⟩:=x b o e
 let ⟨o2,e2,d2⟩:=y b o1 e1
 ⟨o2,e2,d1.trans d2⟩
theorem DK.push(h:Heap)(o:Obj):DK h (h.push o):=λb u e=>⟨u,get?_push_of_some o e,D2.refl u⟩
theorem DK.upd(h:Heap)(a:Addr)(f:Obj->Obj)(hd:∀ o,h.get? a=some o->D2 o (f o))(hf:∀ o,h.get? a=some o->(f o).isFreed=false):DK h (h.update a f):=λb u e=>by
 by_cases hb:a=b
 .subst hb
  exact⟨f u,Heap.get?_update_self f e (hf u e),hd u e⟩
 .exact⟨u,(Heap.get?_update_other h f hb).trans e,D2.refl u⟩
structure KeepD{α:Type}(t:Sem α):Prop where
 out:∀ (M:Model) (Γ:Ctx) (P:α->Pos->Shared->Prop) (Ee:Value->Pos->Shared->Prop) (p:Pos) (s:Shared),wp M Γ t P Ee p s->wp M Γ t (λa p' s'=>P a p' s'/\DK s.heap s'.heap) Ee p s
namespace KeepD
variable {α β:Type}
theorem now(a:α):KeepD (Pure.pure a:Sem α):=⟨λ_ _ _ _ _ _ h=>⟨h,DK.refl _⟩⟩
theorem off(w:String):KeepD (PySem.unsupported w:Sem α):=⟨λ_ _ _ _ _ _ h=>h⟩
theorem seq{m:Sem α}{f:α->Sem β}(hm:KeepD m)(hf:∀ a,KeepD (f a)):KeepD (m >>= f):=⟨λM Γ P Ee p s h=>by
 rw[Sem.wp_bind']at h ⊢
 refine Sem.wp_mono M Γ m (λa p1 s1 h1=>?_) (λ_ _ _ x=>x) p s (hm.out M Γ _ Ee p s h)
 exact Sem.wp_mono M Γ (f a) (λb p2 s2 h2=>⟨h2.1,h1.2.trans h2.2⟩) (λ_ _ _ x=>x) p1 s1 ((hf a).out M Γ P Ee p1 s1 h1.1)⟩
theorem cond{c:Prop}[Decidable c]{t u:Sem α}(ht:KeepD t)(hu:KeepD u):KeepD (if c then t else u):=by split<;>assumption
theorem ld(a:Addr):KeepD (PySem.load a):=⟨λM Γ P Ee p s h=>by
 unfold PySem.load at h ⊢
 rw[Sem.wp_load]at h ⊢
 obtain⟨o,e,q⟩:=h
 rw[Sem.wp_pure]at q
 exact⟨o,e,by rw[Sem.wp_pure];exact⟨q,DK.refl _⟩⟩⟩
theorem up(a:Addr)(f:Obj->Obj)(hd:∀ o,(f o).dict=o.dict)(he:∀ o,(f o).data=o.data):KeepD (PySem.update a f):=⟨λM Γ P Ee p s h=>by
 unfold PySem.update at h ⊢
 rw[Sem.wp_update]at h ⊢
 obtain⟨e,q⟩:=h
 rw[Sem.wp_pure]at q
 refine⟨e,?_⟩
 rw[Sem.wp_pure]
 refine⟨q,DK.upd _ _ _ (λo _=>⟨hd o,λvs e=>⟨vs,(he o).trans e,rfl⟩⟩) λo ho=>?_⟩
 have al:=((Heap.get?_eq_some _ _ _).1 ho).2
 have h1:=he o
 revert h1
 generalize f o=u
 intro h1
 obtain⟨c1,d1,t1,s1⟩:=u
 obtain⟨c2,d2,t2,s2⟩:=o
 dsimp only at h1
 subst h1
 cases t1<;>first|rfl|cases al⟩
theorem stk:KeepD PySem.stack:=⟨λM Γ P Ee p s h=>by
 unfold PySem.stack at h ⊢
 rw[Sem.wp_stack]at h ⊢
 rw[Sem.wp_pure]at h ⊢
 exact⟨h,DK.refl _⟩⟩
theorem new(o:Obj):KeepD (PySem.alloc o):=⟨λM Γ P Ee p s h=>by
 unfold PySem.alloc at h ⊢
 rw[Sem.wp_alloc,Sem.wp_pure]at h ⊢
 exact⟨h,DK.push _ _⟩⟩
theorem fld(v:Value)(i:Nat):KeepD (PySem.field v i):=⟨λM Γ P Ee p s h=>by
 rw[wp_field_iff]at h ⊢
 obtain⟨a,o,vs,x,e1,e2,e3,e4,q⟩:=h
 exact⟨a,o,vs,x,e1,e2,e3,e4,q,DK.refl _⟩⟩
theorem put(v:Value)(i:Nat)(x:Value)(hi:i≠2):KeepD (PySem.setField v i x):=⟨λM Γ P Ee p s h=>by
 rw[wp_setField_iff]at h ⊢
 obtain⟨a,o,vs,e1,e2,e3,e4,q⟩:=h
 refine⟨a,o,vs,e1,e2,e3,e4,q,DK.upd _ _ _ (λu hu=>⟨?_,λws ew=>⟨_,Obj.data_mapFields ew _,?_⟩⟩) λu hu=>?_⟩
 .unfold Obj.mapFields;split<;>rfl
 .exact Array.getElem?_setIfInBounds_ne hi
 .rw[e2]at hu;cases hu
  exact Obj.isFreed_of_fields (Obj.data_mapFields e3 _)⟩
end KeepD
local macro_rules| `(tactic| walk_at "keepd")=> `(tactic| repeat' with_reducible first
  |assumption
  |exact KeepD.now _
  |exact KeepD.off _
  |exact KeepD.fld _ _
  |exact KeepD.put _ _ _ (by decide)
  |exact KeepD.ld _
  |exact KeepD.stk
  |exact KeepD.new _
  |exact KeepD.up _ _ (λ_=>rfl) (λ_=>rfl)
  |apply KeepD.cond
  |apply KeepD.seq
  |intro _
  |split)
theorem TV(env:Env)(outer:List Env):KeepD (behindIsImport env outer):=by
 unfold behindIsImport
 walk_at "keepd"
theorem AF:KeepD underTheClaimsCaller:=by
 unfold underTheClaimsCaller
 walk_at "keepd"
theorem YO(env:Env)(i:Bool)(l:List Env):KeepD (keptBack env i l):=by
 have:=AF
 cases l<;>unfold keptBack<;>walk_at "keepd"
theorem Jx:∀ l:List Env,KeepD (readyFrames l)
 | []=>KeepD.now _
 |env::outer=>by
  have r:=Jx outer
  have a:=TV env outer
  have b:=λi=>YO env i outer
  unfold readyFrames
  walk_at "keepd"
  all_goals first|exact b _|skip
theorem OI(l:List Env):KeepD (frameObject l):=by
 cases l with
 |nil=>exact KeepD.now _
 |cons env outer=>
  have r:=Jx (env::outer)
  unfold frameObject
  walk_at "keepd"
theorem U0(env:Env):KeepD (frameOf env):=by
 have a:KeepD frameEnvs:=by unfold frameEnvs;walk_at "keepd"
 have b:=OI
 unfold frameOf
 walk_at "keepd"
 all_goals first|exact b _|skip
theorem QI(f:Addr)(b:Bool):KeepD (entryPlaceOf f b):=by
 unfold entryPlaceOf
 walk_at "keepd"
theorem NI(a b c d e:Value)(l:List Value):KeepD (EntryCells.newEntry a b c d e l):=by
 unfold EntryCells.newEntry newFields newObj newObjAsIs
 dsimp only
 walk_at "keepd"
theorem IC(e:Value)(env:Env):KeepD (noteFrame e env):=by
 have a:=U0 env
 have b:=QI
 have c:=NI
 unfold noteFrame
 walk_at "keepd"
 all_goals first|exact b _ _|exact c _ _ _ _ _ _|skip
theorem Um(e:Value)(f:Option Addr):KeepD (setFlight e f):=by
 unfold setFlight
 walk_at "keepd"
theorem Ix(env:Env)(e:Value):KeepD (leaving env e):=by
 have a:=IC e env
 have b:=Um e none
 unfold leaving
 walk_at "keepd"
variable{α:Type}{M:Model}{A:Around}{E:Value->Shared->Prop}{s:Shared}
theorem KeepD.anyK{t:Sem α}(k:KeepD t){Q:α->Shared->Prop}(h:wpAny M A t Q E s):wpAny M A t (λv s'=>Q v s'/\DK s.heap s'.heap) E s:=
 λΓ p hΓ=>k.out M Γ _ _ p s (h Γ p hΓ)
theorem KeepD.thn{t:Sem α}(k:KeepD t){Q Q':α->Shared->Prop}(h:wpAny M A t Q E s)(g:∀ v s',Q v s'->DK s.heap s'.heap->Q' v s'):wpAny M A t Q' E s:=
 wpAny_mono (KeepD.anyK k h) (λv s' q=>g v s' q.1 q.2) λ_ _ z=>z
end PySem
namespace L3
open PySem PySem.Spec PyProof.Rows L2 SeqAt
def DcOk(dx:Dx)(o:Obj):Prop:=o.dict=dx.1/\(dx.2=true->∃ vs,o.data=.fields vs/\vs[2]? =some .none)
variable{dx:Dx}{o:Obj}
theorem DcOk.to{o':Obj}(h:DcOk dx o)(d:D2 o o'):DcOk dx o':=⟨d.1.trans h.1,λz=>by
 obtain⟨vs,e,q⟩:=h.2 z
 obtain⟨vs',e',q'⟩:=d.2 vs e
 exact⟨vs',e',q'.trans q⟩⟩
structure Fly(P:Program)(w:World)(l:List Env)(H:Hp)(s:Shared)(H':Hp)(a:Addr)(cls:Value)(dx:Dx)(h:Heap):Prop where
 un:Un (Fh l) [] H H' s.heap h
 hok:HOk P w H' h
 frf:∀ b∈Fh l,H' b=none
 new:s.heap.get? a=none
 nh:H' a=none
 dc:∃ o,h.get? a=some o/\DcOk dx o
 fl:∃ B a0,FlyingW B l a cls a0 h/\∀ b,b∉Fh l->((H' b).isSome=true\/(s.heap.get? b).isSome=true)->(B.get? b).isSome=true
variable{P:Program}{w:World}{H:Hp}{a:Addr}
theorem KP{h:Heap}{o:HO}(x:ObjOk P w H h a o):∃ u,h.get? a=some u:=by
 induction o with
 |lst xs=>obtain⟨_,_,_,_,e⟩:=x;exact⟨_,e⟩
 |tup xs=>obtain⟨_,_,_,ob,e,_⟩:=x;exact⟨_,e⟩
 |dK kvs=>obtain⟨_,_,_,_,ob,_,_,e,_⟩:=x;exact⟨_,e⟩
 |dT kvs=>obtain⟨_,_,_,_,ob,_,_,e,_⟩:=x;exact⟨_,e⟩
 |set S n=>obtain⟨ob,_,_,_,e,_⟩:=x;exact⟨_,e⟩
 |ins C dx fs=>obtain⟨_,_,_,e,_⟩:=x;exact⟨_,e⟩
 |own y=>exact x
 |xd fs=>obtain⟨_,⟨_,_,_,e,_⟩,_⟩:=x;exact⟨_,e⟩
 |rng lo hi=>obtain⟨_,_,_,e⟩:=x;exact⟨_,e⟩
 |frz ob u ih=>obtain⟨e,_⟩:=x;exact⟨_,e⟩
 |tbl ps=>exact⟨_,x⟩
 |met f y=>exact⟨_,x⟩
 |ext φ=>exact x.2.1
variable{H':Hp}{s:Shared}{cls a0:Value}{h' B:Heap}{b:Addr}
section
variable {l:List Env}{h:Heap}
theorem Wh(cov:∀ b,b∉Fh l->((H' b).isSome=true\/(s.heap.get? b).isSome=true)->(B.get? b).isSome=true)(s1:B.StaysIn h)(s2:B.StaysIn h')(hb:b∉Fh l)(q:(H' b).isSome=true\/(s.heap.get? b).isSome=true):h'.get? b=h.get? b:=by
 obtain⟨o,e⟩:=isSome_iff_exists.mp (cov b hb q)
 rw[s1 b o e,s2 b o e]
theorem Rj(f:FlyingW B l a cls a0 h)(up:h.UpToSlots h')(hb:b∈Fh l)(e:h.get? b=some o):∃ sl,h'.get? b=some {o with slots:=sl}:=by
 obtain⟨_,o',e',nf⟩:=f.2.2.1.mem hb
 rw[e]at e'
 cases e'
 exact up b o e nf
theorem BV(un:Un (Fh l) [] H H' s.heap h)(cov:∀ b,b∉Fh l->((H' b).isSome=true\/(s.heap.get? b).isSome=true)->(B.get? b).isSome=true)(f:FlyingW B l a cls a0 h)(s2:B.StaysIn h')(up:h.UpToSlots h'):Un (Fh l) [] H H' s.heap h' where
 keep:=λb o e n hb hx=>(Wh cov f.1 s2 hb (.inr (by rw[e];rfl))).trans (un.keep b o e n hb hx)
 slot:=λb o e n hb hx=>by
  obtain⟨sl,e1⟩:=un.slot b o e n hb hx
  obtain⟨sl',e2⟩:=Rj f up hb e1
  exact⟨sl',e2⟩
 free:=un.free
 there:=λb o e hx=>by
  obtain⟨o',e1⟩:=un.there b o e hx
  by_cases hb:b∈Fh l
  .obtain⟨sl,e2⟩:=Rj f up hb e1
   exact⟨_,e2⟩
  .exact⟨o',(Wh cov f.1 s2 hb (.inr (by rw[e];rfl))).trans e1⟩
 tups:=un.tups
 frzs:=un.frzs
 tbls:=un.tbls
theorem CC(hok:HOk P w H' h)(frf:∀ b∈Fh l,H' b=none)(cov:∀ b,b∉Fh l->((H' b).isSome=true\/(s.heap.get? b).isSome=true)->(B.get? b).isSome=true)(s1:B.StaysIn h)(s2:B.StaysIn h'):HOk P w H' h':=λb u e=>by
 have tr:∀ c v,H' c=some v->c∉Fh l:=λc v q z=>by rw[frf c z]at q;cases q
 refine(hok b u e).stay (λc v hc q=>?_) (λ_ q=>q) λ_ _ q=>q
 rcases hc with rfl|hc
 .exact(Wh cov s1 s2 (tr c u e) (.inl (by rw[e];rfl))).trans q
 .exact(Wh cov s1 s2 (tr c _ hc) (.inl (by rw[hc];rfl))).trans q
end
def ND(P:Program)(w:World):Vt:=λl H s E e s'=>∃ a cls dx H',e=.ref a/\s'.os=s.os/\AllBare s'.gens/\Fly P w l H s H' a cls dx s'.heap/\E cls dx H'
variable{X:Cx}{pins:List (Addr×Obj)}{σ:L2.St}{s':Shared}{M:Model}{Ex:Value->Shared->Prop}{E:XK}{Q:Unit->Shared->Prop}
theorem Ls(hst:X.stack=X.env::X.outer)(hfr:X.env.frame=some X.env.locals):Fh X.stack=X.env.locals::Fh X.outer:=by
 rw[hst];unfold Fh;rw[List.filterMap_cons,hfr]
theorem Sm(I:Inv X pins σ H s)(os:s'.os=s.os)(bare:AllBare s'.gens)(x:Fly X.prog X.w X.stack H s H' a cls dx s'.heap):Inv X pins σ H' s':=
 I.call' (ch:= []) os x.un x.hok bare λb z=>absurd z (by simp)
theorem CV(I:Inv X pins σ H s)(hex:X.ex= [])(hst:X.stack=X.env::X.outer)(hfr:X.env.frame=some X.env.locals)(os:s'.os=s.os)(bare:AllBare s'.gens)(x:Fly X.prog X.w X.stack H s H' a cls dx s'.heap)(hE:E cls dx H')(hQ:∀ s'',ND X.prog X.w X.outer X.H₀ X.s₀ E (.ref a) s''->Q () s''):wpAny M X.A (leaving X.env (.ref a)) Q Ex s':=by
 have I':=Sm I os bare x
 obtain⟨B,a0,f,cov⟩:=x.fl
 have es:=Ls hst hfr
 have noex:∀ b,b∉X.ex:=λb=>by rw[hex];simp
 have f2:FlyingW B (X.env::X.outer) a cls a0 s'.heap:=by rw[<-hst];exact f
 have nl:∀ b,b∉Fh X.outer->((H' b).isSome=true\/(X.s₀.heap.get? b).isSome=true)->b∉Fh X.stack:=λb hb h z=>by
  rw[es]at z
  rcases mem_cons.mp z with z|z
  .rw[z]at h
   rcases h with h|h
   .rw[I'.free]at h;cases h
   .obtain⟨o,e⟩:=isSome_iff_exists.mp h
    exact absurd (lt_of_lt_of_le (lt_size e) I.ok.above) (lt_irrefl _)
  .exact hb z
 have old:∀ b,((H' b).isSome=true\/(X.s₀.heap.get? b).isSome=true)->((H' b).isSome=true\/(s.heap.get? b).isSome=true):=λb h=>by
  rcases h with h|h
  .exact .inl h
  .obtain⟨o,e⟩:=isSome_iff_exists.mp h
   obtain⟨o',e'⟩:=I.base.there b o e (noex b)
   exact .inr (by rw[e'];rfl)
 refine(Ix X.env (.ref a)).thn (Q:=λ_ s''=>∃ h',s''= {s' with heap:=h'}/\FlyingW B X.outer a cls a0 h'/\s'.heap.UpToSlots h') (wpAny_leaves_onW (by rw[<-hst];exact I.ok.frames) hfr f2 λh' f' up=>⟨h',rfl,f',up⟩) λ_ s'' ⟨h',e'',f',up⟩ dk=>?_
 subst e''
 obtain⟨od,ed,dd⟩:=x.dc
 obtain⟨od',ed',dd'⟩:=dk a od ed
 refine hQ _ ⟨a,cls,dx,H',rfl,?_,bare,⟨⟨λb o e n hb hx=>?_,λb o e n hb hx=>?_,λb o e n hx=>I'.base.free b o e n (noex b),λb o e hx=>?_,I'.base.tups,I'.base.frzs,I'.base.tbls⟩,?_,λb hb=>x.frf b (by rw[es];exact mem_cons_of_mem _ hb),?_,x.nh,⟨od',ed',dd.to dd'⟩,B,a0,f',λb hb h=>cov b (nl b hb h) (old b h)⟩,hE⟩
 .exact os.trans I.os
 .exact(Wh cov f.1 f'.1 (nl b hb (.inr (by rw[e];rfl))) (old b (.inr (by rw[e];rfl)))).trans (I'.base.keep b o e n hb (noex b))
 .obtain⟨sl,e1⟩:=I'.base.slot b o e n hb (noex b)
  obtain⟨sl',e2⟩:=Rj f up (by rw[es];exact mem_cons_of_mem _ hb) e1
  exact⟨sl',e2⟩
 .obtain⟨o',e1⟩:=I'.base.there b o e (noex b)
  by_cases hb:b∈Fh X.outer
  .obtain⟨sl,e2⟩:=Rj f up (by rw[es];exact mem_cons_of_mem _ hb) e1
   exact⟨_,e2⟩
  .exact⟨o',(Wh cov f.1 f'.1 (nl b hb (.inr (by rw[e];rfl))) (old b (.inr (by rw[e];rfl)))).trans e1⟩
 .exact CC x.hok x.frf cov f.1 f'.1
 .cases q:X.s₀.heap.get? a with
  |none=>rfl
  |some o=>
   obtain⟨o',e'⟩:=I.base.there a o q (noex a)
   have:=x.new
   rw[e']at this;cases this
def P3(K:Frag)(n:Nat)(m:List D->Res D):Sp:=λvs H Q E=>vs.length=n/\∃ W ds,WL W H/\HasL K W H ds vs/\match m ds with
 | .ok d=>∀ v H',Same H H'->Has K W H' d v->Q v H'
 | .ex c fs=>∀ cls dx H',nsIn K mainGlobals c=some (some cls)->Same H H'->ExF H' dx fs->E cls dx H'
 | .stuck=>False
structure FnX(P:Program)(w:World)(K:Frag)(mg:Str->Option Value)(base:Heap)(k:Nat)(x:Str)(n:Nat)(m:List D->Res D):Prop where
 ex:∃ f fd ps,FnOk P w K mg base (ND P w) k f fd ps (P3 K n m)/\mg x=some (.ref f)/\keepIn K (.ref f)=true/\Binds K fd ps []
variable{K:Frag}{mg:Str->Option Value}{base:Heap}{k n:Nat}{x:Str}{m:List D->Res D}
theorem FnX.mono{j:Nat}(F:FnX P w K mg base j x n m)(h:j<=k):FnX P w K mg base k x n m:=by
 obtain⟨f,fd,ps,a,b⟩:=F.ex
 exact⟨f,fd,ps,a.mono h,b⟩
structure FnXL(P:Program)(w:World)(K:Frag)(mg:Str->Option Value)(base:Heap)(k:Nat)(x:Str)(n:Nat)(m:List D->Res D)(i:Int):Prop where
 ex:∃ (fa:Addr) (fd:FuncData) (ps:List Str) (v0:Value),FnOk P w K mg base (ND P w) k fa fd ps (P3 K n m)/\mg x=some (.ref fa)/\keepIn K (.ref fa)=true/\Binds K fd ps [v0]/\RelV (.int i) v0
def Lr(n:Nat)(g:Ba->Out)(ds:List D):Res D:=match g (Sa n ds) with
 | .rt d=>.ok d
 | .nx _=>.ok .non
 | .ex c fs=>.ex c fs
 |_=>.stuck
def U3(K:Frag)(E:XK):XW:=λc fs H'=>∀ cls dx,nsIn K mainGlobals c=some (some cls)->ExF H' dx fs->E cls dx H'
def Z7(K:Frag)(xw:XW):XK:=λcls dx H'=>∃ c fs,nsIn K mainGlobals c=some (some cls)/\xw c fs H'/\ExF H' dx fs
def CS(X:Cx)(xw:XW):Prop:=Kk (ND X.prog X.w) X (Z7 X.K xw)
variable{N ps:List Str}{qual:Str}{f fa:Addr}{A:Around}{H₀:Hp}{st:Stmt}{fd:FuncData}{g:Ba->Out}
theorem Tl{scope:Scope}{cd:Value}{outer:List Env}{s₀:Shared}:CS (Ak (ND P w) P w K mg base N qual scope f cd A outer s₀ H₀ E) (U3 K E):=by
 intro pins σ H s e s' I h
 obtain⟨a,cls,dx,H',rfl,os,bare,x,c,fs,hn,q,xf⟩:=h
 exact CV I rfl rfl rfl os bare x (q cls dx hn xf) λs'' z=>z
theorem IT{dV oc:Value}{od:Option Addr}{kV doc pm:Value}{an:Option Addr}{cdv ct:Value}{osl:Array (Option Value)}(hf:fd=fnOf x qual (Gb st) (Va st) (Ca st) dV kV doc pm an cdv ct)(lk:K.lookup fa=some ⟨oc,od,.func fd,osl⟩)(hcd:codeIn K cdv qual=true)(S:FnScope N ps (Ca st))(body:∀ (cdv:Value) (A:Around) (outer:List Env) (s:Shared) (H:Hp) (E:XK),Room k (A.deeper (envOfC qual (Ca st) s.heap.objs.size fa cdv))->
   XSs (Ak (ND P w) P w K mg base N qual (Ca st) fa cdv A outer s H E) (U3 K E) (Va st) g):FnOk P w K mg base (ND P w) (k+1) fa fd ps (P3 K ps.length (Lr N.length g)):=by
 subst hf
 refine IS lk hcd S (λvs H Q E h=>h.1) λA outer s H vs Q E hr hsp=>?_
 obtain⟨hl,W,ds,hw,hd,q⟩:=hsp
 refine⟨_,(body cdv A outer s H E hr).h,W,H,W,Sa N.length ds,Yj hw hd,?_⟩
 unfold Lr at q
 cases h:g (Sa N.length ds) with
 |rt d=>rw[h]at q;exact λv H' k hv=>q v H' k hv
 |nx δ=>rw[h]at q;exact λW' H' σ' k st'=>q .non H' st'.fr.ext (by rw[Has])
 |bk δ=>rw[h]at q;exact q.elim
 |ct δ=>rw[h]at q;exact q.elim
 |ex c fs=>rw[h]at q;exact λH' k cls dx hn xf=>q cls dx H' hn k xf
 |stuck=>rw[h]at q;exact q.elim
theorem Ll(F:Fun K x qual st fa fd)(S:FnScope N ps (Ca st))(hm:mg x=some (.ref fa))(hb:Binds K fd ps [])(body:∀ (cdv:Value) (A:Around) (outer:List Env) (s:Shared) (H:Hp) (E:XK),Room k (A.deeper (envOfC qual (Ca st) s.heap.objs.size fa cdv))->
   XSs (Ak (ND P w) P w K mg base N qual (Ca st) fa cdv A outer s H E) (U3 K E) (Va st) g):FnX P w K mg base (k+1) x ps.length (Lr N.length g):=by
 obtain⟨oc,od,kV,doc,pm,an,cdv,ct,osl,hf,lk,hcd⟩:=F.ex
 exact⟨fa,fd,ps,IT hf lk hcd S body,hm,F.kp,hb⟩
def MC:Out->Out
 | .ex _ _=>.stuck
 |o=>o
variable{a e:Expr}{xw:XW}{es:List Expr}{pos:Pos}{sts:List Stmt}
section
variable {f:Ba->Res D}{ga:Ba->Res Bool}{fs:Ba->Res (List D)}{p:Pos}
theorem PS.nox{st:Stmt}{t:TS}(h:PS X.nox st t):PS X st t:=λpins s σ H D I hw=>
 wpAny_mono (h pins s σ H D (I.wish _) hw) (λ_ _ q=>q.unwish) λ_ _ z=>False.elim z
theorem PA.nox{t:TA}(h:PA X.nox es t):PA X es t:=λps pins s σ H Q I hw=>
 wpAny_mono (h ps pins s σ H Q (I.wish _) hw) (λ_ _ ⟨v,H',I',r,q⟩=>⟨v,H',I'.unwish,r,q⟩) λ_ _ z=>False.elim z
def Ag(f:Ba->Res (List D)):Ba->Res (List D):=λδ=>noex (f δ)
def HA(f:Ba->Res Bool):Ba->Res Bool:=λδ=>noex (f δ)
def Ck(g:Ba->Out):Ba->Out:=λδ=>MC (g δ)
theorem VS(h:XT X.nox Jm e ga):XT X xw e (HA ga):=⟨PT.weak (PT.nox h.h) λσ H Q ⟨W₀,H₀,W,δ,st,q⟩=>⟨W₀,H₀,W,δ,st,by
 have q:RT xw H (noex (ga δ)) Q:=q
 cases hq:ga δ with
 |ok d=>rw[hq]at q;exact q
 |ex c fs=>rw[hq]at q;exact q.elim
 |stuck=>rw[hq]at q;exact q.elim⟩⟩
theorem Bp(h:XA X.nox Jm es fs):XA X xw es (Ag fs):=⟨PA.weak (PA.nox h.h) λσ H Q ⟨W₀,H₀,W,δ,st,q⟩=>⟨W₀,H₀,W,δ,st,by
 have q:RA X.K xw W H (noex (fs δ)) Q:=q
 cases hq:fs δ with
 |ok d=>rw[hq]at q;exact q
 |ex c gs=>rw[hq]at q;exact q.elim
 |stuck=>rw[hq]at q;exact q.elim⟩⟩
theorem Hk(h:XS X.nox Jm st g):XS X xw st (Ck g):=⟨PS.weak (PS.nox h.h) λDn σ H ⟨W₀,H₀,W,δ,st,q⟩=>⟨W₀,H₀,W,δ,st,by
 have q:RS X.K xw W₀ H₀ W H (MC (g δ)) Dn:=q
 cases hq:g δ with
 |ex c fs=>rw[hq]at q;exact q.elim
 |_=>rw[hq]at q;exact q⟩⟩
def Gc(n:Nat)(m:List D->Res D)(ds:List D):Res D:=if ds.length=n then m ds else .stuck
theorem Ap(F:FnX X.prog X.w X.K X.mg X.base k x n m)(hp:CS X xw)(hr:Room k X.A)(ha:XA X xw (a::es) fs)(hg:Gl X x:=by rfl)(hdb:(x==("__debug__":Str))=false:=by decide)(he:starEach (a::es) X.env=(false,eval a X.env)::starEach es X.env:=by rfl)(hpl:(backTo pos (starEach es X.env)).any (·.1)=false:=by rfl):
  XE X xw (.Call (.Name x p) (a::es) [] pos) (b1 (Gc n m) fs):=⟨by
 obtain⟨fa,fd,ps,G,hm,hk,hb⟩:=F.ex
 refine PE.weak (Gv G hr hg hm hk hb .nil hp ha.h hdb he hpl) λσ H Q ⟨W₀,H₀,W,δ,st,q⟩=>?_
 refine Qh st q λH2 ds vs k w st2 hv _ q2=>?_
 unfold Gc at q2
 split at q2
 .rename_i hn
  rw[append_nil]
  refine⟨by rw[<-hv.length];exact hn,W,ds,w,hv,?_⟩
  cases h:m ds with
  |ok d=>rw[h]at q2;exact q2
  |ex c fs=>rw[h]at q2;exact λcls dx H' hn' k' xf=>⟨c,fs,hn',q2 H' k',xf⟩
  |stuck=>rw[h]at q2;exact q2
 .exact q2.elim⟩
end
abbrev G7:List Value:= [.type "ValueError",.type "Exception",.type "BaseException",.type "object"]
structure ClsX(K:Frag)(c:Str):Prop where
 ex:∃ C,nsIn K mainGlobals c=some (some (.ref C))/\PySem.W.excIn K C G7 "ValueError.__new__"=true
def CY(c:Str)(fs:Ba->Res (List D)):Ba->Out:=λδ=>Rl (fs δ) λds=>if ds.length=1 then .ex c [] else .stuck
variable{np cpos:Pos}
section
variable {fs:Ba->Res (List D)}{c:Str}
end
abbrev Ws(X:Cx)(a:Addr):Cx:= {X with A:=X.A.mark (some (.ref a)),calm:=false,xe:=λ_ _=>False}
abbrev EB(X:Cx)(pins:List (Addr×Obj))(E:Value->Shared->Prop):Cx:= {X with pn:=X.pn++pins,xe:=E}
variable{n:Str}{i:Nat}
section
variable {a:Addr}
theorem MP(ok:X.Ok)(a:Addr):(Ws X a).Ok:=
 ⟨ok.mod,ok.kind,ok.glob,ok.blt,ok.above,ok.inj,ok.has,ok.cab,λz=>absurd (show false=true from z) (by decide),ok.frames,ok.stk,ok.exf,ok.bs,ok.bsz,ok.noex,ok.exfs,ok.funs,ok.frf⟩
theorem Gx(I:Inv X pins σ H s)(a:Addr):Inv (Ws X a) pins σ H s:=⟨MP I.ok a,I.os,I.bare,I.base,I.loc,I.cell,I.free,I.freeC,I.pin,I.hok,I.len⟩
theorem Oi(ok:X.Ok)(I:Inv (Ws X a) pins σ H s):Inv X pins σ H s:=⟨ok,I.os,I.bare,I.base,I.loc,I.cell,I.free,I.freeC,I.pin,I.hok,I.len⟩
theorem LW(ok:X.Ok):(EB X pins Ex).Ok:=
 ⟨ok.mod,ok.kind,ok.glob,ok.blt,ok.above,ok.inj,ok.has,ok.cab,ok.hd,ok.frames,ok.stk,ok.exf,ok.bs,ok.bsz,ok.noex,ok.exfs,ok.funs,ok.frf⟩
theorem UO(I:Inv X pins σ H s):Inv (EB X pins Ex) [] σ H s:=⟨LW I.ok,I.os,I.bare,I.base,I.loc,I.cell,I.free,I.freeC,λp hp=>I.pin p (by simpa using hp),I.hok,I.len⟩
theorem Yh{more:List (Addr×Obj)}(ok:X.Ok)(I:Inv (EB X pins Ex) more σ H s):Inv X pins σ H s:=⟨ok,I.os,I.bare,I.base,I.loc,I.cell,I.free,I.freeC,λp hp=>I.pin p (mem_append_left _ hp),I.hok,I.len⟩
theorem VE{φ:Heap->Prop}(I:Inv X pins σ H s)(I':Inv X pins σ H' s')(hex:X.ex= [])(new:s.heap.get? a=none)(nh:H' a=none)(x:ObjOk X.prog X.w (Eb H' a (.ext φ)) s'.heap a (.ext φ)):Inv X pins σ (Eb H' a (.ext φ)) s':=by
 have ne:∀ b o,s.heap.get? b=some o->b≠a:=λb o e z=>by rw[z,new]at e;cases e
 have ne0:∀ b o,X.s₀.heap.get? b=some o->b≠a:=λb o e=>by
  obtain⟨o',e'⟩:=I.base.there b o e (by rw[hex];simp)
  exact ne b o' e'
 have up:∀ b o,H' b=some o->Eb H' a (.ext φ) b=some o:=λb o e=>by rw[Da (Ka e nh)];exact e
 refine⟨I'.ok,I'.os,I'.bare,⟨I'.base.keep,I'.base.slot,λb o e n hx=>?_,I'.base.there,λb xs e=>up _ _ (I'.base.tups b xs e),λb o u e=>up _ _ (I'.base.frzs b o u e),λb ps e=>?_⟩,I'.loc,I'.cell,?_,λy c e=>?_,λp hp=>?_,λb u e=>?_,I'.len⟩
 .rw[Da (ne0 b o e)];exact I'.base.free b o e n hx
 .obtain⟨m,e1⟩:=I'.base.tbls b ps e
  exact⟨m,up _ _ e1⟩
 .obtain⟨m,⟨o,_,_,ho,_⟩,_⟩:=I.loc
  rw[Da (ne _ o ho)];exact I'.free
 .obtain⟨v,o,ho,_⟩:=I.cell y c e
  rw[Da (ne c o ho)];exact I'.freeC y c e
 .obtain⟨e,n,r⟩:=I'.pin p hp
  refine⟨e,?_,r⟩
  rw[Da (ne p.1 _ (I.pin p hp).1)];exact n
 .by_cases hb:b=a
  .subst hb
   rw[Ma]at e
   cases e
   exact x
  .rw[Da hb]at e
   exact(I'.hok b u e).stay (λ_ _ _ q=>q) (λc q=>up _ _ q) λc xs q=>up _ _ q
theorem ZE{t:Nat}{v:Option Value}{m:Str->Option Value}(I:Inv X pins σ H s)(hN:X.N.Nodup)(hi:X.N[i]? =some n)(hm:s.heap.Ns X.env.locals m)(hl:∀ (j:Nat) (x:Str) (w:V),X.N[j]? =some x->σ[j]? =some (some w)->Br X.env.scope x->∃ u,RelV w u/\PZ X.env s.heap m x u)(hn:h'.Ns X.env.locals (λx=>if x=n then v else m x))(hs:SameBut X.env.locals s.heap h'):Inv X pins (σ.set i none) H {s with heap:=h',toks:=t}:=by
 obtain⟨oL,_,_,hoL,_⟩:=id hm
 have cne:=I.cne
 refine⟨I.ok,I.os,I.bare,⟨λb o e n hb hx=>?_,λb o e n hb hx=>?_,I.base.free,λb o e hx=>?_,I.base.tups,I.base.frzs,I.base.tbls⟩,⟨_,hn,λj y w e1 e2 e3=>?_⟩,λy c e=>?_,I.free,I.freeC,λp hp=>?_,λb u e=>?_,by simpa using I.len⟩
 .exact(hs.2 b (ne_of_lt (lt_of_lt_of_le (lt_size e) I.ok.above))).trans (I.base.keep b o e n hb hx)
 .obtain⟨sl,e1⟩:=I.base.slot b o e n hb hx
  exact⟨sl,(hs.2 b (ne_of_lt (lt_of_lt_of_le (lt_size e) I.ok.above))).trans e1⟩
 .obtain⟨o',e1⟩:=I.base.there b o e hx
  exact⟨o',(hs.2 b (ne_of_lt (lt_of_lt_of_le (lt_size e) I.ok.above))).trans e1⟩
 .have hj:j≠i:=by
   rintro rfl
   rw[getElem?_set_self']at e2
   cases q:σ[j]? with
   |none=>rw[q]at e2;cases e2
   |some z=>rw[q]at e2;cases e2
  rw[getElem?_set_ne (Ne.symm hj)]at e2
  obtain⟨u,r,q⟩:=hl j y w e1 e2 e3
  refine⟨u,r,?_⟩
  rcases q with⟨k,e⟩|⟨k,c,e,z⟩
  .have:y≠n:=λe=>hj (Kq hN e1 (e▸hi))
   exact .inl ⟨k,by simp[this,e]⟩
  .exact .inr ⟨k,c,e,z.sameBut hs (cne y c e)⟩
 .obtain⟨w,z⟩:=I.cell y c e
  exact⟨w,z.sameBut hs (cne y c e)⟩
 .obtain⟨e,n,ne,nf,d⟩:=I.pin p hp
  exact⟨(hs.2 p.1 ne).trans e,n,ne,nf,d⟩
 .refine(I.hok b u e).stay (λc w' hc q=>(hs.2 c ?_).trans q) (λ_ q=>q) λ_ _ q=>q
  rintro rfl
  rcases hc with rfl|hc
  .rw[I.free]at e;cases e
  .rw[I.free]at hc;cases hc
theorem Qo(I:Inv X pins σ H s)(hN:X.N.Nodup)(hi:X.N[i]? =some n)(hk:X.env.kindOf n=some .local)(h:∀ s',Inv X pins (σ.set i none) H s'->Q () s'):wpAny M A (do bindName X.env n .none;unbindBehindTheSuite X.env n pos) Q Ex s:=by
 obtain⟨m,hm,hl⟩:=id I.loc
 have hp:(X.env.scope.kind== .class||(X.env.scope.kind== .module&&X.env.locals != X.env.globals))=false:=by rw[I.ok.kind];rfl
 exact wpAny_nameGoes_keeps hk hm hp λh' v hn hs=>h _ (ZE I hN hi hm hl hn hs)
end
structure MatchX(K:Frag)(C c:Str):Prop where
 ex:∃ vc vC,nsIn K mainGlobals c=some (some vc)/\nsIn K mainGlobals C=some (some vC)/\exmOne K vc vC=some true
variable{C:Str}{b₀:Stmt}{suite:List Stmt}
section
variable {a:Addr}{vC:Value}{rest:List ExceptHandler}{Q:Flow->Shared->Prop}
theorem Jw{R:Result->Shared->Prop}(I:Inv X pins σ H s)(hst:X.stack=X.env::X.outer)(hfr:X.env.frame=some X.env.locals)(os:s'.os=s.os)(bare:AllBare s'.gens)(x:Fly X.prog X.w X.stack H s H' a cls dx s'.heap)(hC:Gl X C)(hm:nsIn X.K mainGlobals C=some (some vC))(he:exmOne X.K cls vC=some true)(hdb:(C==("__debug__":Str))=false)(k:∀ h',Fly X.prog X.w X.stack H s H' a cls dx h'->R (.ok .brk) {s' with heap:=h'}):
  codeAny (model X.prog X.w) (X.A.mark (some (.ref a))) (.handlers (.ref a) [.ExceptHandler (some (.Name C np)) none [] pos] X.env) R s':=by
 have I':=Gx (Sm I os bare x) a
 refine codeAny_handlers_test (Qi I' hC (mg_of I.ok.mod.kin I.ok.mod.glob hm) ?_ hdb)
 obtain⟨B,a0,f,cov⟩:=x.fl
 obtain⟨ob,hob,hc⟩:=f.there
 have LT:PySem.W.Looks (model X.prog X.w) s'.heap (typeOf (.ref a)) cls:=by
  subst hc
  exact(PySem.W.Looks.ld hob).andThen .now
 exact(PySem.W.exm_one I'.kIn LT he).here (k s'.heap x)
theorem Vw(x:Fly X.prog X.w X.stack H s H' a cls dx s'.heap)(f:FlyingW B X.stack a cls a0 s'.heap)(cov:∀ b,b∉Fh X.stack->((H' b).isSome=true\/(s.heap.get? b).isSome=true)->(B.get? b).isSome=true)(f':FlyingW B X.stack a cls a0 h')(up:s'.heap.UpToSlots h')(dk:DK s'.heap h'):Fly X.prog X.w X.stack H s H' a cls dx h':=
 ⟨BV x.un cov f f'.1 up,CC x.hok x.frf cov f.1 f'.1,x.frf,x.new,x.nh,(let ⟨o,e,d⟩:=x.dc;let ⟨o',e',d'⟩:=dk a o e;⟨o',e',d.to d'⟩),B,a0,f',cov⟩
theorem Iw{hs:List ExceptHandler}(I:Inv X pins σ H s)(hst:X.stack=X.env::X.outer)(hfr:X.env.frame=some X.env.locals)(x:Fly X.prog X.w X.stack H s H' a cls dx s'.heap)(k:∀ h',Fly X.prog X.w X.stack H s H' a cls dx h'->wpAny (model X.prog X.w) X.A (handleBy (.ref a) X.env hs) Q Ex {s' with heap:=h'}):
  wpAny (model X.prog X.w) X.A (noteFrame (.ref a) X.env) (λ_ s₂=>wpAny (model X.prog X.w) X.A (setFlight (.ref a) none) (λ_ s₃=>wpAny (model X.prog X.w) X.A (handleBy (.ref a) X.env hs) Q Ex s₃) Ex s₂) Ex s':=by
 obtain⟨B,a0,f,cov⟩:=x.fl
 have f2:FlyingW B (X.env::X.outer) a cls a0 s'.heap:=by rw[<-hst];exact f
 refine(IC (.ref a) X.env).thn (Q:=λ_ s4=>∃ h₄,s4= {s' with heap:=h₄}/\Heap.HeldW B (X.env::X.outer) a cls a0 X.env.locals h₄/\s'.heap.UpToSlots h₄) (wpAny_looks_onW (by rw[<-hst];exact I.ok.frames) hfr f2 λh₄ held up₄=>⟨h₄,rfl,held,up₄⟩) λ_ s4 ⟨h₄,e4,held,up₄⟩ dk4=>?_
 subst e4
 refine(Um (.ref a) none).thn (Q:=λ_ s5=>∃ h₅,s5= {s' with heap:=h₅}/\FlyingW B (X.env::X.outer) a cls a0 h₅/\h₄.UpToSlots h₅) (wpAny_landsW held λh₅ f₅ up₅=>⟨h₅,rfl,f₅,up₅⟩) λ_ s5 ⟨h₅,e5,f₅,up₅⟩ dk5=>?_
 subst e5
 exact k h₅ (Vw x f cov (by rw[hst];exact f₅) (up₄.trans up₅) (dk4.trans dk5))
theorem ZU{H:Hp}{h:Heap}(x:Dj a cls dx h):ObjOk P w H h a (.ext (Dj a cls dx)):=by
 obtain⟨o,vs,e,hc,hx,hd,hz⟩:=x
 exact⟨⟨o,vs,e,hc,hx,hd,hz⟩,⟨o,e⟩,λh1 h2 ⟨o1,vs1,e1,hc1,hx1,hd1⟩ k=>⟨o1,vs1,k _ e1,hc1,hx1,hd1⟩⟩
theorem EO{h:Heap}(x:Fly X.prog X.w X.stack H s H' a cls dx h):Dj a cls dx h:=by
 obtain⟨B,a0,f,cov⟩:=x.fl
 obtain⟨oe,vs,he,hc,hd,_⟩:=f.first
 obtain⟨od,ed,dd⟩:=x.dc
 rw[he]at ed
 cases ed
 exact⟨oe,vs,he,hc,dd.1,hd,λz=>by
  obtain⟨vs',e',q⟩:=dd.2 z
  rw[hd]at e';cases e'
  exact q⟩
theorem TD{D:Ends}{t:TS}(I:Inv X pins σ H s)(hex:X.ex= [])(hst:X.stack=X.env::X.outer)(hfr:X.env.frame=some X.env.locals)(os:s'.os=s.os)(bare:AllBare s'.gens)(x:Fly X.prog X.w X.stack H s H' a cls dx s'.heap)(hC:Gl X C)(hm:nsIn X.K mainGlobals C=some (some vC))(he:exmOne X.K cls vC=some true)(hdb:(C==("__debug__":Str))=false)(hN:X.N.Nodup)(hi:X.N[i]? =some n)(hk:X.env.kindOf n=some .local)(hsu:∀ a,PSs (Ws X a) (b₀::suite) t)(ht:t {nx:=λσ' H'=>D.nx (σ'.set i none) H',rt:=D.rt,bk:=λσ' H'=>D.bk (σ'.set i none) H',ct:=λσ' H'=>D.ct (σ'.set i none) H'} (σ.set i (some (.ref a))) (Eb H' a (.ext (Dj a cls dx)))):
  wpAny (model X.prog X.w) X.A (noteFrame (.ref a) X.env) (λ_ s₂=>wpAny (model X.prog X.w) X.A (setFlight (.ref a) none) (λ_ s₃=>
   wpAny (model X.prog X.w) X.A (handleBy (.ref a) X.env (.ExceptHandler (some (.Name C np)) (some n) (b₀::suite) pos::rest)) (SP X pins D) Ex s₃) Ex s₂) Ex s':=by
 refine Iw I hst hfr x λh5 x5=>?_
 refine wpAny_handleBy_cons (Jw (s':= {s' with heap:=h5}) I hst hfr os bare x5 hC hm he hdb λh6 x6=>codeAny_handlers_suite_as ?_) (by intro q;cases q)
 obtain⟨B,a0,f,cov⟩:=x6.fl
 refine(Um (.ref a) none).thn (Q:=λ_ s7=>∃ h7,s7= {s' with heap:=h7}/\FlyingW B X.stack a cls a0 h7/\h6.UpToSlots h7) (lands_againW f λh7 f7 up7=>⟨h7,rfl,f7,up7⟩) λ_ s7 ⟨h7,e7,f7,up7⟩ dk7=>?_
 subst e7
 have x7:=Vw (s':= {s' with heap:=h6}) x6 f cov f7 up7 dk7
 have I7:Inv X pins σ H' {s' with heap:=h7}:=Sm (s':= {s' with heap:=h7}) I os bare x7
 have I8:=VE I I7 hex x7.new x7.nh (ZU (EO x7))
 have hloc:Ez X.env.scope n:=.inl hk
 refine Dm I8 hN hi hloc (v:=.ref a) rfl (λs8 I9=>?_) (.inr hk)
 refine wpAny_mono (hsu a pins _ _ _ _ (Gx I9 a) ht) (λfl s9 q=>?_) λ_ _ z=>False.elim z
 cases fl with
 |next=>obtain⟨σ',H9,J,q⟩:=q;exact Qo (Oi I.ok J) hN hi hk λs10 K=>⟨_,H9,K,q⟩
 |brk=>obtain⟨σ',H9,J,q⟩:=q;exact Qo (Oi I.ok J) hN hi hk λs10 K=>⟨_,H9,K,q⟩
 |cont=>obtain⟨σ',H9,J,q⟩:=q;exact Qo (Oi I.ok J) hN hi hk λs10 K=>⟨_,H9,K,q⟩
 |ret u=>obtain⟨v,σ',H9,J,r,q⟩:=q;exact Qo (Oi I.ok J) hN hi hk λs10 K=>⟨v,_,H9,K,r,q⟩
end
section
variable {CX:Vt}{sp:Sp}{dvs:List V}{ds:List Value}{E:L2.St->XK}{p:Pos}{t:TA}
theorem WJ(F:FnOk X.prog X.w X.K X.mg X.base CX k f fd ps sp)(hr:Room k X.A)(hg:Gl X x)(hm:X.mg x=some (.ref f))(hk:keepIn X.K (.ref f)=true)(hb:Binds X.K fd ps ds)(hd:Vals dvs ds)(hx:∀ (pins:List (Addr×Obj)) (σ:L2.St) (H:Hp) (s:Shared) (e:Value) (s':Shared),Inv X pins σ H s->CX X.stack H s (E σ) e s'->X.xe e s')(ha:PA X (e::es) t)(hdb:(x==("__debug__":Str))=false)(he:starEach (e::es) X.env=(false,eval e X.env)::starEach es X.env)(hpl:(backTo pos (starEach es X.env)).any (·.1)=false):
  PE X (.Call (.Name x p) (e::es) [] pos) (λσ H Q=>t σ H λvs H1=>sp (vs++dvs) H1 Q (E σ)):=by
 intro pins s σ H Q I h
 refine wpAny_Call_Name_kw (Qi I hg hm ?_ hdb)
 refine callWith_K (h₀:=X.base) I.ok.mod.kin hk (thn (ha pos pins s σ H _ I h) λus s1 ⟨vs,H1,I1,r,q⟩=>⟨I1.kIn,?_⟩) he hpl
 have r2:Vals (vs++dvs) (us++ds):=r.append hd
 have hl:(us++ds).length=ps.length:=by rw[<-r2.length];exact F.len _ _ _ _ q
 refine wpAny_call (codeAny_mono (F.run X.A X.stack s1 H1 ⟨us,[]⟩ (us++ds) (vs++dvs) Q (E σ) hr I1.env0 (hb s1 us I1.kIn hl) r2 q) λr s' hq=>?_)
 cases r with
 |error e=>exact hx pins σ H1 s1 e s' I1 hq
 |ok fl=>
  cases fl with
  |ret u=>exact I1.after hq
  |next=>exact False.elim hq
  |brk=>exact False.elim hq
  |cont=>exact False.elim hq
theorem YW(h:PA X.nox es t):PA (EB X pins Ex) es t:=λq more s σ H Q I hw=>by
 have ok:X.Ok:=⟨I.ok.mod,I.ok.kind,I.ok.glob,I.ok.blt,I.ok.above,I.ok.inj,I.ok.has,I.ok.cab,I.ok.hd,I.ok.frames,I.ok.stk,I.ok.exf,I.ok.bs,I.ok.bsz,I.ok.noex,I.ok.exfs,I.ok.funs,I.ok.frf⟩
 have I':Inv X.nox (pins++more) σ H s:=⟨ok.wish _,I.os,I.bare,I.base,I.loc,I.cell,I.free,I.freeC,λz hz=>I.pin z (by show z∈(X.pn++pins)++more;rw[append_assoc];exact hz),I.hok,I.len⟩
 refine wpAny_mono (h q _ s σ H Q I' hw) (λus s1 ⟨v,H',J,r,z⟩=>⟨v,H',?_,r,z⟩) λ_ _ z=>False.elim z
 exact⟨I.ok,J.os,J.bare,J.base,J.loc,J.cell,J.free,J.freeC,λz hz=>J.pin z (by show z∈X.pn++(pins++more);rw[<-append_assoc];exact hz),J.hok,J.len⟩
end
structure KindX(X:Cx)(e:Expr)(st:Stmt)(gK:D->Ba->Out):Prop where
 ex:∃ cont:Ends->L2.St->VK,(∀ (pins:List (Addr×Obj)) (Ex:Value->Shared->Prop) (te:TE),PE (EB X pins Ex) e te->PS (EB X pins Ex) st (λDn σ H=>te σ H (cont Dn σ)))/\
  ∀ (xw:XW) (W₀:WS) (H₀:Hp) (W:WS) (H:Hp) (d:D) (v:V) (σ:L2.St) (δ:Ba) (Dn:Ends),StHas X.K W₀ H₀ W H σ δ->Has X.K W H d v->RS X.K xw W₀ H₀ W H (gK d δ) Dn->cont Dn σ v H
theorem Lu(hs:swapsWith e none pos.line X.env=pure false:=by rfl):KindX X e (.Expr e pos) (λ_ δ=>.nx δ):=
 ⟨λDn σ _ H=>Dn.nx σ H,λpins Ex te h=>Vl h hs,λxw W₀ H₀ W H d v σ δ Dn st hv q=>q W H σ Step.refl st⟩
def ZY(i:Nat):Out->Out
 | .nx δ=>.nx (δ.set i none)
 | .bk δ=>.bk (δ.set i none)
 | .ct δ=>.ct (δ.set i none)
 | .rt d=>.rt d
 |_=>.stuck
def Ho(cs:List Str)(f:Ba->Res D)(gK:D->Ba->Out)(go:Ba->Out)(gs:Str->List D->Ba->Out):Ba->Out:=λδ=>match f δ with
 | .ok d=>Wk (gK d δ) go
 | .ex c fs=>if c∈cs then gs c fs δ else .stuck
 | .stuck=>.stuck
theorem StHas.unset{W₀ W:WS}{δ:Ba}(h:StHas K W₀ H₀ W H σ δ)(i:Nat):StHas K W₀ H₀ W H (σ.set i none) (δ.set i none):=by
 have ne:∀ (j:Nat) (t:S),(δ.set i none)[j]? =some (some t)->i≠j/\δ[j]? =some (some t):=λj t e=>by
  have hj:i≠j:=by
   rintro rfl
   rw[getElem?_set_self']at e
   cases q:δ[i]? with
   |none=>rw[q]at e;cases e
   |some z=>rw[q]at e;cases e
  rw[getElem?_set_ne hj]at e
  exact⟨hj,e⟩
 refine⟨h.fr,by simp[h.len],λj s e=>?_,λj l s1 s2 u u' a hjl e1 e2 e3 e4 os ot=>?_⟩
 .obtain⟨hj,e'⟩:=ne j s e
  rw[getElem?_set_ne hj]
  exact h.at' j s e'
 .obtain⟨hj,g1⟩:=ne j s1 e1
  obtain⟨hl,g2⟩:=ne l s2 e2
  rw[getElem?_set_ne hj]at e3
  rw[getElem?_set_ne hl]at e4
  exact h.ap j l s1 s2 u u' a hjl g1 g2 e3 e4 os ot
variable{hpos tpos:Pos}{orelse:List Stmt}{nn:Nat}{gK:D->Ba->Out}{go gsu:Ba->Out}{hd:ExceptHandler}
section
variable {fs:Ba->Res (List D)}{p:Pos}
def UZ(X:Cx)(orelse:List Stmt)(pins:List (Addr×Obj))(Dn:Ends):Flow->Shared->Prop:=λf s₁=>match f with| .next=>wpAny (model X.prog X.w) X.A (execs orelse X.env) (SP X pins Dn) X.xe s₁|f=>SP X pins Dn f s₁
def TZ(X:Cx)(hd:ExceptHandler)(pins:List (Addr×Obj))(Dn:Ends):Value->Shared->Prop:=λe s₁=>wpAny (model X.prog X.w) X.A (noteFrame e X.env) (λ_ s₂=>wpAny (model X.prog X.w) X.A (setFlight e none) (λ_ s₃=>wpAny (model X.prog X.w) X.A (handleBy e X.env [hd]) (SP X pins Dn) X.xe s₃) X.xe s₂) X.xe s₁
def OG(X:Cx)(hd:ExceptHandler)(orelse:List Stmt)(pins:List (Addr×Obj))(Dn:Ends)(sts:List Stmt)(s:Shared):Prop:=wpAny (model X.prog X.w) X.A (execs sts X.env) (UZ X orelse pins Dn) (TZ X hd pins Dn) s
structure XB(X:Cx)(xw:XW)(hd:ExceptHandler)(orelse sts:List Stmt)(g:Ba->Out):Prop where
 h:∀ (pins:List (Addr×Obj)) (s:Shared) (σ:L2.St) (H:Hp) (Dn:Ends),Inv X pins σ H s->CL X.K xw g Dn σ H->OG X hd orelse pins Dn sts s
theorem XB.try(h:XB X xw hd orelse sts g):XS X xw (.Try sts [hd] orelse [] tpos) g:=⟨λpins s σ H Dn I q=>wpAny_Try_except (h.h pins s σ H Dn I q)⟩
theorem YZ{c:Expr}{as bs:List Stmt}{gc:Ba->Res Bool}{g1 g2:Ba->Out}(hc:XT X.nox Jm c gc)(ha:XB X xw hd orelse as g1)(hb:XB X xw hd orelse bs g2):XB X xw hd orelse [.If c as bs pos] (Yf (λδ=>noex (gc δ)) g1 g2):=⟨λpins s σ H Dn I ⟨W₀,H₀,W,δ,st,q⟩=>by
 have q:RS X.K xw W₀ H₀ W H (T0 (noex (gc δ)) (g1 δ) (g2 δ)) Dn:=q
 unfold OG
 refine wpAny_execs_cons (wpAny_mono (Q:=UZ X orelse pins Dn) (wpAny_If (wpAny_mono (hc.h pins s σ H (λb H1=>CL X.K xw (if b=true then g1 else g2) Dn σ H1) (I.wish _) ⟨W₀,H₀,W,δ,st,?_⟩) (λb s1 ⟨H1,I1,z⟩=>?_) λ_ _ z=>False.elim z)) (λf s1 z=>?_) λ_ _ z=>z)
 .cases hq:gc δ with
  |stuck=>rw[hq]at q;exact q
  |ex c fs=>rw[hq]at q;exact q.elim
  |ok k=>
   rw[hq]at q
   intro H1 k1
   have q':RS X.K xw W₀ H₀ W H (if k=true then g1 δ else g2 δ) Dn:=q
   cases k with
   |true=>exact⟨W₀,H₀,W,δ,st.same k1,q'.step (Step.same k1)⟩
   |false=>exact⟨W₀,H₀,W,δ,st.same k1,q'.step (Step.same k1)⟩
 .cases b with
  |true=>exact ha.h pins s1 σ H1 Dn I1.unwish z
  |false=>exact hb.h pins s1 σ H1 Dn I1.unwish z
 .cases f with
  |next=>exact wpAny_execs_nil z
  |ret v=>exact z
  |brk=>exact z
  |cont=>exact z⟩
theorem FL{vs0:List V}{ds0:List Value}{d0:List D}{gs:Str->List D->Ba->Out}(cs:List Str)(G:FnOk X.prog X.w X.K X.mg X.base (ND X.prog X.w) k fa fd ps (P3 X.K nn m))(hm:X.mg x=some (.ref fa))(hk:keepIn X.K (.ref fa)=true)(hb:Binds X.K fd ps ds0)(hd0:Vals vs0 ds0)(h0:∀ W H,HasL X.K W H d0 vs0)(hr:Room k X.A)(ha:XA X.nox Jm (a::es) fs)(kd:KindX X (.Call (.Name x p) (a::es) [] cpos) st gK)(hor:XSs X xw orelse go)(hcat:∀ (pins:List (Addr×Obj)) (σ:L2.St) (H H0 H':Hp) (s s':Shared) (ar:Addr) (cls:Value) (dx:Dx) (c:Str) (fs:List D) (W₀:WS) (H₀:Hp) (W:WS) (δ:Ba) (Dn:Ends),Inv X pins σ H s->s'.os=s.os->AllBare s'.gens->Fly X.prog X.w X.stack H s H' ar cls dx s'.heap->ExF H' dx fs->
   nsIn X.K mainGlobals c=some (some cls)->c∈cs->StHas X.K W₀ H₀ W H0 σ δ->Same H0 H'->RS X.K xw W₀ H₀ W H0 (gs c fs δ) Dn->
   wpAny (model X.prog X.w) X.A (noteFrame (.ref ar) X.env) (λ_ s₂=>wpAny (model X.prog X.w) X.A (setFlight (.ref ar) none) (λ_ s₃=>
    wpAny (model X.prog X.w) X.A (handleBy (.ref ar) X.env [hd]) (SP X pins Dn) X.xe s₃) X.xe s₂) X.xe s')(hg:Gl X x)(hdb:(x==("__debug__":Str))=false)(he:starEach (a::es) X.env=(false,eval a X.env)::starEach es X.env)(hpl:(backTo cpos (starEach es X.env)).any (·.1)=false):
  XB X xw hd orelse [st] (Ho cs (λδ=>(noex (fs δ)).bind λds=>Gc nn m (ds++d0)) gK go gs):=⟨by
 intro pins s σ H Dn I ⟨W₀,H₀,W,δ,sth,q⟩
 obtain⟨cont,kp,kr⟩:=kd.ex
 unfold OG TZ
 generalize hEx:(λ(e:Value) (s₁:Shared)=>wpAny (model X.prog X.w) X.A (noteFrame e X.env) (λ_ s₂=>wpAny (model X.prog X.w) X.A (setFlight e none) (λ_ s₃=>wpAny (model X.prog X.w) X.A (handleBy e X.env [hd]) (SP X pins Dn) X.xe s₃) X.xe s₂) X.xe s₁)=Ex
 have D1nx:∀ σ' H',CL X.K xw go Dn σ' H'->∀ s',Inv X pins σ' H' s'->wpAny (model X.prog X.w) X.A (execs orelse X.env) (SP X pins Dn) X.xe s':=λσ' H' h s' J=>hor.h pins s' σ' H' Dn J h
 have pe:=WJ (X:=EB X pins Ex) (p:=p) (pos:=cpos) (E:=λσ' cls dx H'=>σ'=σ/\Same H H'/\∃ c fs',nsIn X.K mainGlobals c=some (some cls)/\((noex (fs δ)).bind λds=>Gc nn m (ds++d0))=.ex c fs'/\ExF H' dx fs') G hr hg hm hk hb hd0 (λmore σ' H1 s1 e s' J h=>by
  obtain⟨ar,cls,dx,H',rfl,os,bare,fl,rfl,sm,c,fs',hn,hf,xf⟩:=h
  have J':=Yh I.ok J
  show Ex (.ref ar) s'
  subst hEx
  unfold Ho at q
  dsimp only at q
  rw[hf]at q
  have q':RS X.K xw W₀ H₀ W H (if c∈cs then gs c fs' δ else .stuck) Dn:=q
  split at q'
  .rename_i hc
   exact hcat pins σ' H1 H H' s1 s' ar cls dx c fs' W₀ H₀ W δ Dn J' os bare fl xf hn hc sth sm q'
  .exact q'.elim) (YW ha.h) hdb he hpl
 refine wpAny_mono (Jv (kp pins Ex _ pe) [] s σ H {nx:=CL X.K xw go Dn,rt:=Dn.rt,bk:=Dn.bk,ct:=Dn.ct} (UO I) ?_) (λfl s1 h1=>?_) λe s1 h1=>h1
 .refine⟨W₀,H₀,W,δ,sth,?_⟩
  unfold Ho at q
  dsimp only at q
  cases hf:fs δ with
  |stuck=>rw[hf]at q;exact q
  |ex c gs'=>rw[hf]at q;exact False.elim q
  |ok ds=>
   rw[hf]at q
   intro vs H1 k1 hv
   have hv':HasL X.K W H1 (ds++d0) (vs++vs0):=hv.append (h0 W H1)
   have q1:RS X.K xw W₀ H₀ W H (match Gc nn m (ds++d0) with| .ok d=>Wk (gK d δ) go| .ex c fs=>if c∈cs then gs c fs δ else .stuck| .stuck=>.stuck) Dn:=q
   have ec:((noex (Res.ok ds)).bind λds=>Gc nn m (ds++d0))=Gc nn m (ds++d0):=rfl
   by_cases hl:(ds++d0).length=nn
   .have em:Gc nn m (ds++d0)=m (ds++d0):=if_pos hl
    rw[em]at q1
    refine⟨by rw[<-hv'.length];exact hl,W,ds++d0,sth.fr.wl.same k1,hv',?_⟩
    cases h:m (ds++d0) with
    |ok d=>
     rw[h]at q1
     intro v H2 k2 hd2
     refine kr xw W₀ H₀ W H2 d v σ δ _ (sth.same (k1.trans k2)) hd2 ?_
     have q2:RS X.K xw W₀ H₀ W H (Wk (gK d δ) go) Dn:=q1
     have q3:=RS.step q2 (Step.same (W:=W) (k1.trans k2))
     cases hgk:gK d δ with
     |nx δ'=>
      rw[hgk]at q3
      exact λW' H' σ' kk st'=>⟨W₀,H₀,W',δ',st',RS.step (o:=go δ') q3 kk⟩
     |bk δ'=>rw[hgk]at q3;exact q3
     |ct δ'=>rw[hgk]at q3;exact q3
     |rt d'=>rw[hgk]at q3;exact q3
     |ex c' fs'=>rw[hgk]at q3;exact q3
     |stuck=>rw[hgk]at q3;exact q3
    |ex c fs'=>
     exact λcls dx H2 hn k2 xf=>⟨rfl,k1.trans k2,c,fs',hn,by rw[ec,em,h],xf⟩
    |stuck=>rw[h]at q1;exact q1
   .have em:Gc nn m (ds++d0)=.stuck:=if_neg hl
    rw[em]at q1
    exact q1.elim
 .cases fl with
  |next=>obtain⟨σ',H',J,z⟩:=h1;exact D1nx σ' H' z s1 (Yh I.ok J)
  |brk=>obtain⟨σ',H',J,z⟩:=h1;exact⟨σ',H',Yh I.ok J,z⟩
  |cont=>obtain⟨σ',H',J,z⟩:=h1;exact⟨σ',H',Yh I.ok J,z⟩
  |ret u=>obtain⟨v,σ',H',J,r,z⟩:=h1;exact⟨v,σ',H',Yh I.ok J,r,z⟩⟩
end
def Bn(fs:Ba->Res (List D))(nn:Nat)(m:List D->Res D)(d0:List D):Ba->Res D:=λδ=>(noex (fs δ)).bind λds=>Gc nn m (ds++d0)
def Eo(i:Nat)(gsu:Ba->Out):Str->List D->Ba->Out:=λc fs δ=>ZY i (gsu (δ.set i (some (.d (.exc c fs)))))
section
variable {fs:Ba->Res (List D)}{p:Pos}
theorem KT(i:Nat)(cs:List Str)(hcs:∀ c∈cs,MatchX X.K C c)(hex:X.ex= [])(hst:X.stack=X.env::X.outer)(hfr:X.env.frame=some X.env.locals)(hN:X.N.Nodup)(hi:X.N[i]? =some n)(hk:X.env.kindOf n=some .local)(hgC:Gl X C)(hdC:(C==("__debug__":Str))=false)(hsu:∀ a,XSs (Ws X a) Jm (b₀::suite) gsu)(pins:List (Addr×Obj))(σ:L2.St)(H H0 H':Hp)(s s':Shared)(ar:Addr)(cls:Value)(dx:Dx)(c:Str)(xs:List D)(W₀:WS)(H₀:Hp)(W:WS)(δ:Ba)(Dn:Ends)(I:Inv X pins σ H s)(os:s'.os=s.os)(bare:AllBare s'.gens)(fl:Fly X.prog X.w X.stack H s H' ar cls dx s'.heap)(xf:ExF H' dx xs)(hn:nsIn X.K mainGlobals c=some (some cls))(hc:c∈cs)(sth:StHas X.K W₀ H₀ W H0 σ δ)(sm:Same H0 H')(q:RS X.K xw W₀ H₀ W H0 (Eo i gsu c xs δ) Dn):
  wpAny (model X.prog X.w) X.A (noteFrame (.ref ar) X.env) (λ_ s₂=>wpAny (model X.prog X.w) X.A (setFlight (.ref ar) none) (λ_ s₃=>
   wpAny (model X.prog X.w) X.A (handleBy (.ref ar) X.env [.ExceptHandler (some (.Name C np)) (some n) (b₀::suite) hpos]) (SP X pins Dn) X.xe s₃) X.xe s₂) X.xe s':=by
 obtain⟨vc,vC,e1,e2,e3⟩:=(hcs c hc).ex
 rw[hn]at e1
 cases e1
 have k2:Same H0 (Eb H' ar (.ext (Dj ar cls dx))):=λb o e=>by rw[Da (Ka (sm b o e) fl.nh)];exact sm b o e
 refine TD (t:=CL X.K Jm gsu) I hex hst hfr os bare fl hgC e2 e3 hdC hN hi hk (λa=>(hsu a).h) ⟨W₀,H₀,W,δ.set i (some (.d (.exc c xs))),(sth.same k2).set (x:=.exc c xs) (v:=.ref ar) (by rw[Has];exact⟨ar,cls,dx,rfl,hn,Ma,xf.to (λb o u e=>by rw[Da (Ka e fl.nh)];exact e) λb kvs e=>by rw[Da (Ka e fl.nh)];exact e⟩),?_⟩
 unfold Eo at q
 cases hq:gsu (δ.set i (some (.d (.exc c xs)))) with
 |nx δ'=>rw[hq]at q;exact λW' H2 σ2 EM st2=>q W' H2 _ ((Step.same k2).trans EM) (st2.unset i)
 |bk δ'=>rw[hq]at q;exact λW' H2 σ2 EM st2=>q W' H2 _ ((Step.same k2).trans EM) (st2.unset i)
 |ct δ'=>rw[hq]at q;exact λW' H2 σ2 EM st2=>q W' H2 _ ((Step.same k2).trans EM) (st2.unset i)
 |rt d=>rw[hq]at q;exact q
 |ex c' fs'=>rw[hq]at q;exact q.elim
 |stuck=>rw[hq]at q;exact q.elim
theorem GT(i:Nat)(cs:List Str)(F:FnX X.prog X.w X.K X.mg X.base k x nn m)(hcs:∀ c∈cs,MatchX X.K C c)(hN:X.N.Nodup)(hr:Room k X.A)(ha:XA X.nox Jm (a::es) fs)(kd:KindX X (.Call (.Name x p) (a::es) [] cpos) st gK)(hor:XSs X xw orelse go)(hsu:∀ a,XSs (Ws X a) Jm (b₀::suite) gsu)(hi:X.N[i]? =some n:=by rfl)(hk:X.env.kindOf n=some .local:=by rfl)(hex:X.ex= []:=by rfl)(hst:X.stack=X.env::X.outer:=by rfl)(hfr:X.env.frame=some X.env.locals:=by rfl)(hgC:Gl X C:=by rfl)(hdC:(C==("__debug__":Str))=false:=by decide)(hg:Gl X x:=by rfl)(hdb:(x==("__debug__":Str))=false:=by decide)(he:starEach (a::es) X.env=(false,eval a X.env)::starEach es X.env:=by rfl)(hpl:(backTo cpos (starEach es X.env)).any (·.1)=false:=by rfl):
  XB X xw (.ExceptHandler (some (.Name C np)) (some n) (b₀::suite) hpos) orelse [st] (Ho cs (Bn fs nn m []) gK go (Eo i gsu)):=by
 obtain⟨fa,fd,ps,G,hm,hkp,hb⟩:=F.ex
 exact FL cs G hm hkp hb .nil (λW H=>HasL.nil) hr ha kd hor (KT i cs hcs hex hst hfr hN hi hk hgC hdC hsu) hg hdb he hpl
end
end L3
namespace L3
open PySem PySem.Spec PySem.Calls PyProof.Rows PySem.W Builtin Builtin.ObjectAttr Builtin.Getset_descriptor
structure ExcK(K:Frag)(C:Addr):Prop where
 ga:findIn K (.ref C) "__getattribute__"=some (some (.builtin "BaseException.__getattribute__"))
 gt:findIn K (.ref C) "__getattr__"=some none
 cl:findIn K (.ref C) "__class__"=some (some (.builtin "object.__class__"))
 ob:mroIn K C (.type "object")=some true
 be:mroIn K C (.type "BaseException")=some true
variable{K:Frag}{C:Addr}
theorem ExcK.ci(z:ExcK K C):(clsIn K C).isSome=true:=by
 obtain⟨cd,e,_⟩:=Option.bind_eq_some_iff.mp z.ob
 rw[e];rfl
variable{R:Result->Shared->Prop}{tk:Tok}
section
variable {prog:Program}{w:World}{A:Around}{E:Value->Shared->Prop}{h:Heap}{g:Array GenState}{d:Drawn}{t:Nat}{os:OsState}{a:Addr}{o:Obj}
theorem EZ{tp:Value}(X:K.In h)(hx:h.get? a=some o)(hc:o.cls=.ref C)(z:ExcK K C)(hq:R (.ok (.ret (.ref C))) ⟨h,g,d,t,os⟩):
  codeAny (model prog w) A (.call (.builtin "getset_descriptor.__get__") ⟨[.builtin "object.__class__",.ref a,tp],[]⟩) R ⟨h,g,d,t,os⟩:=by
 have L0:Looks (model prog w) h (typeOf (.ref a)) (.ref C):=hc▸(Looks.ld hx).andThen .now
 have L1:=looks_mroIn (M:=model prog w) X z.ob
 refine codeAny_call_builtin KF.slot_gs.plain KF.entry_gs (KF.slot_gs.check _ _ _ _ _ _ _ _ KF.type_class (KF.args_gs _ _ _) ?_)
 unfold Builtin.«getset_descriptor.__get__» descrGet
 rw[dga_obj]
 refine wpAny_bind (wpAny_pure ?_)
 unfold descrGetter descrCheckInstance descrNameAndClass isInstance
 simp only[KF.owner_class]
 repeat lk
 refine⟨Code.quiet_builtin _ (by decide +kernel),codeAny_builtin KF.entry_class ?_⟩
 unfold Builtin.«object.__class__» shownTypeOf
 repeat lk
 exact hq
theorem ZL{Q:Fin->Shared->Prop}(X:K.In h)(hx:h.get? a=some o)(hc:o.cls=.ref C)(z:ExcK K C)(hq:Q (.done (.ret (.ref C))) ⟨h,g,d,t,os⟩):
  wpAny (model prog w) A (Builtin.«object.__getattribute__» ⟨[.ref a,.str "__class__" tk],[]⟩) Q E ⟨h,g,d,t,os⟩:=by
 have hT5:(⟨h,g,d,t,os⟩:Shared).TypeIs (.builtin "object.__class__") "getset_descriptor":=F.typeOf_object_class
 have L0:Looks (model prog w) h (typeOf (.ref a)) (.ref C):=hc▸(Looks.ld hx).andThen .now
 have L3:=looks_findIn (M:=model prog w) X z.cl
 have f5:=F.typeOf_object_class
 have f6:=F.slot_gs_get.lookup
 have f7:=F.slot_gs_set.lookup
 repeat (any_goals (first|assumption|refine wpAny_bind (L0.at ?_)|refine wpAny_bind (L3.at ?_)|wp_step))
 refine EZ X hx hc z ?_
 repeat (any_goals (first|assumption|wp_step))
theorem AS(X:K.In h)(hx:h.get? a=some o)(hc:o.cls=.ref C)(z:ExcK K C)(hq:R (.ok (.ret (.ref C))) ⟨h,g,d,t,os⟩):
  codeAny (model prog w) A (.call (.builtin "BaseException.__getattribute__") ⟨[.ref a,.str "__class__" tk],[]⟩) R ⟨h,g,d,t,os⟩:=by
 have L0:Looks (model prog w) h (typeOf (.ref a)) (.ref C):=hc▸(Looks.ld hx).andThen .now
 have L1:=looks_mroIn (M:=model prog w) X z.be
 have hk:builtinKind "BaseException.__getattribute__"=some .slot:=by decide +kernel
 have hsplit:splitId "BaseException.__getattribute__"=some ("BaseException","__getattribute__"):=by decide +kernel
 have ha:=F.args_bexc_ga (.ref a) (.str "__class__" tk)
 have hp:plainId "BaseException.__getattribute__"=true:=by decide +kernel
 refine codeAny_call_builtin hp F.entry_bexc_ga ?_
 simp only[checkBuiltinCall,hk,hsplit]
 refine wpAny_bind ((L0.andThen L1).at ?_)
 simp only[Bool.not_true,false_eq_true,if_false]
 repeat (first|assumption|exact ZL X hx hc z hq|wp_step)
theorem B3{fill expr:Bool}{Q:Value->Shared->Prop}(X:K.In h)(hx:h.get? a=some o)(hc:o.cls=.ref C)(z:ExcK K C)(hq:Q (.ref C) ⟨h,g,d,t,os⟩):
  wpAny (model prog w) A (getAttrBy (.ref a) (.str "__class__" tk) fill expr) Q E ⟨h,g,d,t,os⟩:=by
 have L0:Looks (model prog w) h (typeOf (.ref a)) (.ref C):=hc▸(Looks.ld hx).andThen .now
 have L1:=looks_findIn (M:=model prog w) X z.ga
 have L2:=looks_findIn (M:=model prog w) X z.gt
 have f3:bindSpecial (.builtin "BaseException.__getattribute__") (.ref a)=pure (.builtin "BaseException.__getattribute__",[.ref a]):=F.excAttr_ValueError.ga.bind (.ref a)
 have hx0:(expr&&onTheHeap (Value.builtin "BaseException.__getattribute__"))=false:=by cases expr<;>rfl
 have hx2:(Value.builtin "BaseException.__getattribute__"==Value.builtin "object.__getattribute__")=false:=by decide +kernel
 have hx1:(onTheHeap (Value.ref C)&&Value.builtin "BaseException.__getattribute__"==Value.builtin "object.__getattribute__")=false:=by rw[hx2];rfl
 repeat (any_goals (first|assumption|refine wpAny_bind (L0.at ?_)|refine wpAny_bind (L1.at ?_)|refine wpAny_bind (L2.at ?_)|wp_step))
 refine AS X hx hc z ?_
 repeat (any_goals (first|assumption|wp_step))
theorem YL{Q:Option Value->Shared->Prop}(X:K.In h)(hx:h.get? a=some o)(hc:o.cls=.ref C)(z:ExcK K C)(hq:Q (some (.ref C)) ⟨h,g,d,t+1,os⟩):
  wpAny (model prog w) A (getAttr? (.ref a) "__class__") Q E ⟨h,g,d,t,os⟩:=by
 unfold getAttr? getAttrBy?
 exact wpAny_bind (wpAny_mkText (wpAny_bind (wpAny_attempt (B3 X hx hc z (wpAny_pure hq)))))
theorem Lx(z:ExcK K C):KitX K (.ref a) (.ref C) (λh=>∃ o,h.get? a=some o/\o.cls=.ref C) where
 ty:=λM h _ ⟨o,hx,hc⟩=>hc▸(Looks.ld hx).andThen .now
 it:=λM h X _=>by
  have hci:=z.ci
  unfold clsIn at hci
  split at hci
  .rename_i c' d' cd' sl' ho
   intro A' Q' E' s' k q
   unfold isType loadHead
   exact wpAny_bind (wpAny_loadPart (k _ _ (X _ _ ho)) (wpAny_pure q))
  .cases hci
 ne:=λh tp dd its n sl X htp=>by
  have hci:=z.ci
  refine Bool.eq_false_iff.mpr λq=>?_
  have e:C=tp:=Value.ref.inj (beq_iff_eq.mp q)
  subst e
  unfold clsIn at hci
  split at hci
  .rename_i c' d' cd' sl' ho
   have zz:=(X _ _ ho).symm.trans htp
   cases zz
  .cases hci
 ca:=λ{prog w A E Q s} X ⟨o,hx,hc⟩ k=>by
  obtain⟨hh,g,d,t,os⟩:=s
  exact YL X hx hc z k
end
end L3
namespace L3
open PySem PySem.Spec PyProof.Rows L2 SeqAt
variable{X:Cx}{xw:XW}{a e:Expr}{es:List Expr}{fa:Ba->Res D}{pos p2:Pos}{c x:Str}{k n:Nat}{vs:List V}{K:Frag}{C:Addr}{tb:List (Str×Bool)}{W:WS}{H:Hp}{vc:V}
section
variable {fs:Ba->Res (List D)}{p:Pos}
theorem ZP:Kk (ND X.prog X.w) X (λ_ _ _=>False):=λpins σ H s e s' I ⟨a,cls,dx,H',_,_,_,_,z⟩=>z.elim
theorem XR{m:List D->Res D}(F:FnX X.prog X.w X.K X.mg X.base k x n m)(hr:Room k X.A)(ha:XA X xw (a::es) fs)(hg:Gl X x:=by rfl)(hdb:(x==("__debug__":Str))=false:=by decide)(he:starEach (a::es) X.env=(false,eval a X.env)::starEach es X.env:=by rfl)(hpl:(backTo pos (starEach es X.env)).any (·.1)=false:=by rfl):
  XE X xw (.Call (.Name x p) (a::es) [] pos) (b1 (Oa n m) fs):=⟨by
 obtain⟨fa,fd,ps,G,hm,hk,hb⟩:=F.ex
 refine PE.weak (Gv G hr hg hm hk hb .nil ZP ha.h hdb he hpl) λσ H Q ⟨W₀,H₀,W,δ,st,q⟩=>?_
 refine Qh st q λH2 ds vs k w st2 hv _ q2=>?_
 unfold Oa at q2
 split at q2
 .rename_i hn
  rw[append_nil]
  refine⟨by rw[<-hv.length];exact hn,W,ds,w,hv,?_⟩
  cases h:m ds with
  |ok d=>rw[h]at q2;exact q2
  |ex c fs=>rw[h]at q2;exact q2.elim
  |stuck=>rw[h]at q2;exact q2
 .exact q2.elim⟩
inductive IsC(K:Frag)(mg:Str->Option Value):Str->V->Prop
 |own {c:Str} {C:Addr}:mg c=some (.ref C)->IsC K mg c (.ref C)
 |blt {c:Str} {T:String}:mg c=none->bootBuiltins c=some (.type T)->c≠"__name__"->IsC K mg c (.ty T)
structure XC(X:Cx)(e:Expr)(v:V):Prop where
 h:PE X e (tC v)
structure XCs(X:Cx)(es:List Expr)(vs:List V):Prop where
 h:PA X es (λ_ H Q=>Q vs H)
theorem Om{v:V}(hc:IsC X.K X.mg c v)(hg:Gl X c:=by rfl)(hd:(c==("__debug__":Str))=false:=by decide):XC X (.Name c pos) v:=⟨by
 cases hc with
 |own h=>exact HQ hg h rfl hd
 |blt h1 h2 h3=>exact BQ hg h1 h2 rfl h3 hd⟩
theorem MT:XCs X [] []:=⟨Nh⟩
theorem Mo{v:V}(h:XC X e v)(t:XCs X es vs)(hs:starEach (e::es) X.env=(false,eval e X.env)::starEach es X.env:=by rfl):XCs X (e::es) (v::vs):=⟨PA.weak (Hd h.h t.h hs) λσ H Q q=>q⟩
def IB:V->Value
 | .ref a=>.ref a
 | .ty T=>.type T
 |_=>.none
def Nl(tb:List (Str×Bool)):D->Res D
 | .exc c _=>match tb.lookup c with
  |some b=>.ok (.bl b)
  |none=>.stuck
 |_=>.stuck
structure IsiX(K:Frag)(tb:List (Str×Bool))(vs:List V):Prop where
 cls:∀ v∈vs,(∃ a,v=.ref a)\/∃ T,v=.ty T
 ok:∀ c b,tb.lookup c=some b->∃ C,nsIn K mainGlobals c=some (some (.ref C))/\ExcK K C/\kitAny K (.ref C) (vs.map IB)=some b
theorem Op:∀ v∈([]:List V),(∃ a,v=V.ref a)\/∃ T,v=V.ty T:=λv h=>absurd h (by simp)
theorem Ij{a:Addr}(h:∀ v∈vs,(∃ a,v=V.ref a)\/∃ T,v=V.ty T):∀ v∈V.ref a::vs,(∃ a,v=V.ref a)\/∃ T,v=V.ty T:=forall_mem_cons.mpr ⟨.inl ⟨a,rfl⟩,h⟩
theorem UM{T:String}(h:∀ v∈vs,(∃ a,v=V.ref a)\/∃ T,v=V.ty T):∀ v∈V.ty T::vs,(∃ a,v=V.ref a)\/∃ T,v=V.ty T:=forall_mem_cons.mpr ⟨.inr ⟨T,rfl⟩,h⟩
theorem Bq(h:∀ v∈vs,(∃ a,v=V.ref a)\/∃ T,v=V.ty T):IsiX K [] vs:=⟨h,λc b e=>by simp at e⟩
theorem Tm{c:Str}{b:Bool}(hn:nsIn K mainGlobals c=some (some (.ref C)))(z:ExcK K C)(hk:kitAny K (.ref C) (vs.map IB)=some b)(t:IsiX K tb vs):IsiX K ((c,b)::tb) vs:=⟨t.cls,λc' b' e=>by
 rw[lookup_cons]at e
 cases hx:c'==c with
 |true=>
  rw[hx]at e
  have e':b=b':=Option.some.inj e
  have ec:c'=c:=by simpa using hx
  subst e';subst ec
  exact⟨C,hn,z,hk⟩
 |false=>rw[hx]at e;exact t.ok c' b' e⟩
theorem TL:∀ {us:List Value},(∀ v∈vs,(∃ a,v=V.ref a)\/∃ T,v=V.ty T)->Vals vs us->us=vs.map IB:=by
 induction vs with
 |nil=>intro us _ r;cases r;rfl
 |cons v vs ih=>
  intro us h r
  cases r with
  |cons r t=>
   rw[map_cons,<-ih (λw hw=>h w (mem_cons_of_mem _ hw)) t]
   rcases h v mem_cons_self with⟨a,rfl⟩|⟨T,rfl⟩
   .rw[show _=Value.ref a from r];rfl
   .rw[show _=Value.type T from r];rfl
theorem WB{c:Str}{fs:List D}{v:V}(h:HasT K W H (.exc c fs) v):∃ a C dx,v=.ref a/\nsIn K mainGlobals c=some (some C)/\H a=some (.ext (Dj a C dx))/\ExF H dx fs:=by
 rcases h with h|⟨ds,a,xs,h1,_⟩
 .rw[Has]at h
  exact h
 .cases h1
theorem SD(hi:IsiX X.K tb vs):Bl X (.builtin "isinstance") (λxs H Q=>∃ x c a C dx t b,xs= [x,.ref t]/\x=.ref a/\nsIn X.K mainGlobals c=some (some C)/\H a=some (.ext (Dj a C dx))/\H t=some (.tup vs)/\tb.lookup c=some b/\Q (.bl b) H):=by
 intro pins s σ H xs us Q I r h
 obtain⟨x,c,a,C,dx,t,b,rfl,rfl,hn,ha,ht,hb,q⟩:=h
 obtain⟨u,u2,rfl,rx,rc⟩:=r.two
 obtain rfl:u=Value.ref a:=rx
 obtain rfl:u2=Value.ref t:=rc
 obtain⟨C',hn',z,hk⟩:=hi.ok c b hb
 rw[hn]at hn'
 cases hn'
 obtain⟨⟨oe,ws,he,hc,_⟩,_⟩:=I.hok a _ ha
 obtain⟨_,its,rv,⟨cl,dd,dat,sl⟩,ho,hcl,n,hd⟩:=I.hok t _ ht
 simp only at hcl hd
 subst hcl hd
 have ei:=TL hi.cls rv
 rw[<-ei]at hk
 exact PySem.W.kia_tup (Lx (a:=a) z) I.kIn ⟨oe,he,hc⟩ ho hk (λz=>nomatch z) λtk=>⟨.bl b,H,I.tok tk,rfl,q⟩
theorem Lz(hi:IsiX X.K tb [vc]):Bl X (.builtin "isinstance") (λxs H Q=>∃ x c a C dx b,xs= [x,vc]/\x=.ref a/\nsIn X.K mainGlobals c=some (some C)/\H a=some (.ext (Dj a C dx))/\tb.lookup c=some b/\Q (.bl b) H):=by
 intro pins s σ H xs us Q I r h
 obtain⟨x,c,a,C,dx,b,rfl,rfl,hn,ha,hb,q⟩:=h
 obtain⟨u,u2,rfl,rx,rc⟩:=r.two
 obtain rfl:u=Value.ref a:=rx
 obtain⟨C',hn',z,hk⟩:=hi.ok c b hb
 rw[hn]at hn'
 cases hn'
 obtain⟨⟨oe,ws,he,hc,_⟩,_⟩:=I.hok a _ ha
 have ei:u2=IB vc:=by
  rcases hi.cls vc mem_cons_self with⟨a,rfl⟩|⟨T,rfl⟩
  .exact rc
  .exact rc
 subst ei
 have hk1:kitOne X.K (.ref C') (IB vc)=some b:=by
  have hk':(match kitOne X.K (.ref C') (IB vc) with|some true=>some true|some false=>some false|none=>none)=some b:=hk
  split at hk'<;>simp_all
 exact PySem.W.kia_one (Lx (a:=a) z) I.kIn ⟨oe,he,hc⟩ hk1 (λz=>nomatch z) λtk=>⟨.bl b,H,I.tok tk,rfl,q⟩
theorem CZ{ces:List Expr}{kt:Nat}(hi:IsiX X.K tb vs)(hm:X.mg "isinstance"=none)(ha:XP X xw a fa)(hcs:XCs X ces vs)(hl:vs.length<=1000:=by simp)(hg:Gl X "isinstance":=by rfl)(he:starEach [a, .Tuple ces kt p2] X.env=(false,eval a X.env)::starEach [.Tuple ces kt p2] X.env:=by rfl)(he2:starEach [.Tuple ces kt p2] X.env=(false,eval (.Tuple ces kt p2) X.env)::starEach [] X.env:=by rfl)(hpl:(backTo pos (starEach [.Tuple ces kt p2] X.env)).any (·.1)=false:=by rfl):
  XE X xw (.Call (.Name "isinstance" p) [a, .Tuple ces kt p2] [] pos) (b1 (Nl tb) fa):=⟨
 PE.weak (Nq (SD hi) hg hm (by decide +kernel) (Hd ha.h (Hd (FK hcs.h) Nh he2) he) (by decide) (by decide) he hpl) λσ H Q ⟨W₀,H₀,W,δ,st,q⟩=>Ai st q λH2 d v k w st2 hv _ q2=>by
  unfold Nl at q2
  cases d with
  |exc c fs=>
   dsimp only at q2
   split at q2
   .rename_i b hb
    obtain⟨ar,C,dx,e,hn,hH,_⟩:=WB hv
    refine⟨by rw[sizeLine_eq];omega,λt ht=>⟨v,c,ar,C,dx,t,b,rfl,e,hn,?_,Ma,hb,?_⟩⟩
    .rw[Da (Ka hH ht)];exact hH
    .exact q2 _ _ (λb o e=>by rw[Da (Ka e ht)];exact e) (by rw[Has])
   .exact q2.elim
  |_=>exact q2.elim⟩
theorem KD{ce:Expr}(hi:IsiX X.K tb [vc])(hm:X.mg "isinstance"=none)(ha:XP X xw a fa)(hcs:XC X ce vc)(hg:Gl X "isinstance":=by rfl)(he:starEach [a,ce] X.env=(false,eval a X.env)::starEach [ce] X.env:=by rfl)(he2:starEach [ce] X.env=(false,eval ce X.env)::starEach [] X.env:=by rfl)(hpl:(backTo pos (starEach [ce] X.env)).any (·.1)=false:=by rfl):
  XE X xw (.Call (.Name "isinstance" p) [a,ce] [] pos) (b1 (Nl tb) fa):=⟨
 PE.weak (Nq (Lz hi) hg hm (by decide +kernel) (Hd ha.h (Hd hcs.h Nh he2) he) (by decide) (by decide) he hpl) λσ H Q ⟨W₀,H₀,W,δ,st,q⟩=>Ai st q λH2 d v k w st2 hv _ q2=>by
  unfold Nl at q2
  cases d with
  |exc c fs=>
   dsimp only at q2
   split at q2
   .rename_i b hb
    obtain⟨ar,C,dx,e,hn,hH,_⟩:=WB hv
    exact⟨v,c,ar,C,dx,b,rfl,e,hn,hH,hb,q2.bl⟩
   .exact q2.elim
  |_=>exact q2.elim⟩
end
variable{b:Expr}
section
variable {c tg:Expr}{p:Pos}
end
section
variable {lo:Option Expr}{st:Expr}{fl fh:Ba->Res (Option Int)}
end
variable{st:Stmt}{g:Ba->Out}{σ:L2.St}
def OE(i:Nat)(δ:Ba):Ba:=match δ[i]? with
 |some (some (.o ds))=>δ.set i (some (.d (.lst ds)))
 |_=>δ
def Zg(i:Nat)(g:Ba->Out):Ba->Out:=λδ=>g (OE i δ)
theorem QE{i:Nat}{Dn:Ends}(h:CL X.K xw (Zg i g) Dn σ H):CL X.K xw g Dn σ H:=by
 obtain⟨W₀,H₀,W,δ,st,q⟩:=h
 have q':RS X.K xw W₀ H₀ W H (g (OE i δ)) Dn:=q
 unfold OE at q'
 split at q'
 .rename_i ds h
  obtain⟨v,e,a,xs,r1,r2,r3,r4,r5⟩:=st.at' i _ h
  subst r1
  obtain⟨st2,hd⟩:=st.freeze h e
  exact⟨W₀,H₀,_,_,st2,RS.less (λb z=>z.1) q'⟩
 .exact⟨W₀,H₀,W,δ,st,q'⟩
theorem Lv(i:Nat)(h:XS X xw st g):XS X xw st (Zg i g):=⟨λpins s σ H Dn I q=>h.h pins s σ H Dn I (QE q)⟩
variable{P:List Value->Prop}
theorem FM(h:∀ a0:Value,P [a0]):∀ us:List Value,us.length=1->P us
 | [a0],_=>h a0
theorem QL(h:∀ a0 a1:Value,P [a0,a1]):∀ us:List Value,us.length=2->P us
 | [a0,a1],_=>h a0 a1
theorem C7(h:∀ a0 a1 a2:Value,P [a0,a1,a2]):∀ us:List Value,us.length=3->P us
 | [a0,a1,a2],_=>h a0 a1 a2
theorem Y7(h:∀ a0 a1 a2 a3 a4:Value,P [a0,a1,a2,a3,a4]):∀ us:List Value,us.length=5->P us
 | [a0,a1,a2,a3,a4],_=>h a0 a1 a2 a3 a4
theorem Ey(f:Str)(v:V):∀ fs:List (Str×V),f∉fs.map (·.1)->Bj f v fs=fs++ [(f,v)]
 | [],_=>rfl
 |(g,x)::r,h=>by
  rw[map_cons]at h
  have h1:¬ g=f:=λz=>h (by rw[<-z];exact mem_cons_self)
  have h2:f∉r.map (·.1):=λz=>h (mem_cons_of_mem _ z)
  show(if g=f then(g,v)::r else(g,x)::Bj f v r)=_
  rw[if_neg h1,Ey f v r h2];rfl
variable{dx:Addr}
section
variable {W₀:WS}{H₀ H':Hp}{δ:Ba}
theorem StHas.poke{x:Addr}{fl fl':List (Str×V)}(h:StHas K W₀ H₀ W H σ δ)(hW:W x)(h0:H₀ x=none)(hx:H x=some (.ins C dx fl))(no:∀ (j:Nat) (t:S) (v:V),δ[j]? =some (some t)->σ[j]? =some (some v)->¬ Owns H t v x):StHas K W₀ H₀ W (Eb H x (.ins C dx fl')) σ δ:=by
 have kk:Ph W H (Eb H x (.ins C dx fl')):=λb o e n=>by rw[Da (λz=>n (by rw[z];exact hW))];exact e
 have hw:∀ b,W b->W b\/H b=none:=λb z=>.inl z
 have bk:∀ (j:Nat) (s:S) (v:V) (b:Addr),δ[j]? =some (some s)->σ[j]? =some (some v)->Owns (Eb H x (.ins C dx fl')) s v b->Owns H s v b:=λj s v b e e' o=>by
  obtain⟨v',h1,h2⟩:=h.at' j s e
  rw[e']at h1;cases h1
  refine Owns.back h2 (λc o ec z y=>?_) o
  rcases y with⟨y,_⟩|⟨zs,y⟩
  .rw[Da (λq=>by rw[q]at y;exact no j s v e e' y)];exact z
  .rw[Da (λq=>by rw[q,hx]at z;cases z;cases y)];exact z
 refine⟨⟨λb o e=>by rw[Da (Ka e h0)];exact h.fr.ext _ _ e,h.fr.sub,λb z=>?_,h.fr.wl0⟩,h.len,λi s e=>?_,λi j s t u v b ij e1 e2 e3 e4 o1 o2=>h.ap i j s t u v b ij e1 e2 e3 e4 (bk i s u b e1 e3 o1) (bk j t v b e2 e4 o2)⟩
 .by_cases hb:b=x
  .rw[hb];exact⟨_,Ma,trivial⟩
  .rw[Da hb];exact h.fr.wl b z
 .obtain⟨v,h1,h2⟩:=h.at' i s e
  exact⟨v,h1,h2.mv h.fr.wl kk hw λb o e1 h1' _ h3' _=>⟨h1',by rw[Da (λz=>by rw[z]at e1;exact no i s v e h1 e1)];exact h3'⟩⟩
theorem StHas.born{x:Addr}(h:StHas K W₀ H₀ W H σ δ)(hx:H x=none)(hd:H dx=none)(ne:dx≠x):
  StHas K W₀ H₀ (λb=>W b\/b=x) (Eb (Eb H dx (.own x)) x (.ins C dx [])) σ δ:=by
 have sm:Same H (Eb (Eb H dx (.own x)) x (.ins C dx [])):=λb o e=>by rw[Da (Ka e hx),Da (Ka e hd)];exact e
 have hw:∀ b,(W b\/b=x)->W b\/H b=none:=λb z=>z.elim .inl λz=>.inr (by rw[z];exact hx)
 refine⟨⟨h.fr.ext.trans sm,λb z=>.inl (h.fr.sub b z),λb z=>?_,h.fr.wl0⟩,h.len,λi s e=>?_,(h.same sm).ap⟩
 .rcases z with z|z
  .exact h.fr.wl.same sm b z
  .rw[z];exact⟨_,Ma,trivial⟩
 .obtain⟨v,h1,h2⟩:=h.at' i s e
  exact⟨v,h1,h2.mv h.fr.wl (Same.keep sm) hw λb o _ h1' _ h3' _=>⟨.inl h1',sm _ _ h3'⟩⟩
theorem StHas.front{v:Option V}(h:StHas K W₀ H₀ W H σ δ):StHas K W₀ H₀ W H (v::σ) (none::δ):=by
 refine⟨h.fr,by simp[h.len],λi s e=>?_,λi j s t u v' a hij e1 e2 e3 e4 os ot=>?_⟩
 .cases i with
  |zero=>cases e
  |succ i=>exact h.at' i s e
 .cases i with
  |zero=>cases e1
  |succ i=>
   cases j with
   |zero=>cases e2
   |succ j=>exact h.ap i j s t u v' a (λz=>hij (by rw[z])) e1 e2 e3 e4 os ot
end
def Ek:List (Str×(Ba->Res D))->Ba->Res (List D)
 | [],_=>.ok []
 |p::r,δ=>(p.2 δ).bind λd=>(Ek r δ).bind λds=>.ok (d::ds)
def Fq(n:Nat)(c:Str)(fs:List (Str×(Ba->Res D)))(ds:List D):Res D:=(Ek fs (none::Sa n ds)).bind λes=>.ok (.obj c (fs.map (·.1)) es)
def RI(K:Frag)(W₀:WS)(H₀:Hp)(W:WS)(δ:Ba)(σ:L2.St)(C dx x:Addr)(ks:List Str)(ds:List D)(r:Res (List D))(Dn:Ends):Prop:=match r with
 | .ok es=>∀ H' fl',StHas K W₀ H₀ W H' σ δ->H' x=some (.ins C dx fl')->fl'.map (·.1)=ks->HasL K W H' (ds++es) (fl'.map (·.2))->Dn.nx σ H'
 |_=>False
def F2(K:Frag)(C:Addr)(fs:List (Str×(Ba->Res D))):TS:=λDn σ H=>∃ W₀ H₀ W δ x dx fl ds,(StHas K W₀ H₀ W H σ δ/\∀ (j:Nat) (t:S) (v:V),δ[j]? =some (some t)->σ[j]? =some (some v)->¬ Owns H t v x)/\σ[0]? =some (some (.ref x))/\W x/\H₀ x=none/\H x=some (.ins C dx fl)/\
 HasL K W H ds (fl.map (·.2))/\(fl.map (·.1)++fs.map (·.1)).Nodup/\fl.length+fs.length<1000/\RI K W₀ H₀ W δ σ C dx x (fl.map (·.1)++fs.map (·.1)) ds (Ek fs δ) Dn
structure XIn(X:Cx)(C:Addr)(sts:List Stmt)(fs:List (Str×(Ba->Res D))):Prop where
 h:PSs X sts (F2 X.K C fs)
variable{f fb:Ba->Res D}{p1 p3:Pos}
section
variable {fs:List (Str×(Ba->Res D))}{sts:List Stmt}{p:Pos}{fld:Str}
theorem LV:XIn X C [] []:=⟨PSs.weak TC λDn σ H ⟨W₀,H₀,W,δ,x,dx,fl,ds,⟨st,_⟩,_,_,_,hx,hds,_,_,q⟩=>q H fl st hx (by simp) (by rw[append_nil];exact hds)⟩
theorem Ro(cl:Cls X.K C)(hn:NoAttr X.K C fld)(he:XE X Jm e f)(hr:XIn X C sts fs){self:Str}(hN:X.N[0]? =some self:=by rfl)(hv:Br X.env.scope self:=by first|exact Or.inl rfl|exact Or.inr (Or.inl rfl)|exact Or.inr (Or.inr rfl))(hd:(self==("__debug__":Str))=false:=by decide)(hcd:(self==("__classdict__":Str))=false:=by decide)(hs:swapsWith e (some (.Attribute (.Name self p1) fld p2)) pos.line X.env=pure false:=by rfl):
  XIn X C (.Assign [.Attribute (.Name self p1) fld p2] e pos::sts) ((fld,f)::fs):=⟨by
 refine PSs.weak (Wl (OX (Pd hN hv hd hcd) he.h hs) hr.h) λDn σ H ⟨W₀,H₀,W,δ,x,dx,fl,ds,⟨st,no⟩,e0,hW,h0,hx,hds,nd,ln,q⟩=>?_
 rw[List.length_cons]at ln
 show QS X.K Jm f σ H _
 refine⟨W₀,H₀,W,δ,st,?_⟩
 have eq1:Ek ((fld,f)::fs) δ=(f δ).bind λd=>(Ek fs δ).bind λds=>.ok (d::ds):=rfl
 rw[eq1]at q
 cases h1:f δ with
 |stuck=>rw[h1]at q;exact q.elim
 |ex c fs=>rw[h1]at q;exact q.elim
 |ok d=>
  rw[h1]at q
  intro v H1 k hv
  have hx1:=k _ _ hx
  have st1:=st.same k
  have no1:∀ (j:Nat) (t:S) (v:V),δ[j]? =some (some t)->σ[j]? =some (some v)->¬ Owns H1 t v x:=λj t v e e' o=>by
   obtain⟨v',h1,h2⟩:=st.at' j t e
   rw[e']at h1;cases h1
   exact no j t v e e' (Owns.back h2 (λc o _ z _=>k _ _ z) o)
  refine⟨.ref x,e0,x,C,dx,fl,rfl,hx1,cl,hn,by omega,?_⟩
  have hf:fld∉fl.map (·.1):=λz=>by
   rw[map_cons,List.nodup_append]at nd
   exact nd.2.2 _ z _ mem_cons_self rfl
  rw[Ey _ _ _ hf]
  have kk:Ph W H1 (Eb H1 x (.ins C dx (fl++ [(fld,v)]))):=λb o e n=>by rw[Da (λz=>n (by rw[z];exact hW))];exact e
  have ek:(fl++ [(fld,v)]).map (·.1)++fs.map (·.1)=fl.map (·.1)++((fld,f)::fs).map (·.1):=by simp
  refine⟨W₀,H₀,W,δ,x,dx,fl++ [(fld,v)],ds++ [d],⟨st1.poke hW h0 hx1 no1,λj t v e e' o=>by
   obtain⟨v',h1,h2⟩:=st1.at' j t e
   rw[e']at h1;cases h1
   refine no1 j t v e e' (Owns.back h2 (λc o _ z y=>?_) o)
   rcases y with⟨y,_⟩|⟨zs,y⟩
   .rw[Da (λq=>by rw[q]at y;exact no1 j t v e e' y)];exact z
   .rw[Da (λq=>by rw[q,hx1]at z;cases z;cases y)];exact z⟩,e0,hW,h0,Ma,?_,by rw[ek];exact nd,by rw[length_append,length_singleton];omega,?_⟩
  .rw[map_append]
   exact HasL.keep kk st1.fr.wl (λb z=>.inl z) ((hds.same k st.fr.wl).snoc hv)
  .rw[ek]
   cases h2:Ek fs δ with
   |stuck=>rw[h2]at q;exact q.elim
   |ex c gs=>rw[h2]at q;exact q.elim
   |ok es=>
    rw[h2]at q
    intro H' fl' g1 g2 g3 g4
    rw[append_assoc]at g4
    exact q H' fl' g1 g2 g3 g4⟩
end
def R7(K:Frag)(C:Addr)(n:Nat)(nl:Nat)(c:Str)(fs:List (Str×(Ba->Res D))):Sp:=λvs H Q _=>∃ x dx vs' H1 W ds,vs=V.ref x::vs'/\vs'.length=n/\H=Eb (Eb H1 dx (.own x)) x (.ins C dx [])/\H1 x=none/\H1 dx=none/\dx≠x/\
 WL W H1/\HasL K W H1 ds vs'/\match Ek fs (none::Sa nl ds) with
  | .ok es=>∀ H' fl,Same H1 H'->H' x=some (.ins C dx fl)->fl.map (·.1)=fs.map (·.1)->HasL K W H' es (fl.map (·.2))->Q .non H'
  |_=>False
structure FnI(P:Program)(w:World)(K:Frag)(mg:Str->Option Value)(base:Heap)(k:Nat)(c:Str)(n nl:Nat)(fs:List (Str×(Ba->Res D))):Prop where
 ex:∃ j C f fd ps,j+1<=k/\FnOk P w K mg base Al j f fd ps (R7 K C n nl c fs)/\Mk K C f/\mg c=some (.ref C)/\nsIn K mainGlobals c=some (some (.ref C))/\Binds K fd ps []
variable{P:Program}{w:World}{mg:Str->Option Value}{base:Heap}{nl:Nat}
theorem FnI.mono{j:Nat}{fs:List (Str×(Ba->Res D))}(F:FnI P w K mg base j c n nl fs)(h:j<=k):FnI P w K mg base k c n nl fs:=by
 obtain⟨i,C,f,fd,ps,a,b⟩:=F.ex
 exact⟨i,C,f,fd,ps,le_trans a h,b⟩
theorem KO{qual:Str}{fa:Addr}{fd:FuncData}{N ps:List Str}{fs:List (Str×(Ba->Res D))}(F:Fun K "__init__" qual st fa fd)(S:FnScope N ps (Ca st))(M:Mk K C fa)(hm:mg c=some (.ref C))(hc:nsIn K mainGlobals c=some (some (.ref C)))(hb:Binds K fd ps [])(body:∀ (cdv:Value) (A:Around) (outer:List Env) (s:Shared) (H:Hp) (E:XK),Room k (A.deeper (envOfC qual (Ca st) s.heap.objs.size fa cdv))->
   XIn (Ak Al P w K mg base N qual (Ca st) fa cdv A outer s H E).nox C (Va st) fs)(hps:ps.length=n+1:=by rfl)(hN:N.length=nl+1:=by rfl)(hnd:(fs.map (·.1)).Nodup:=by decide +kernel)(hl:fs.length<1000:=by decide):FnI P w K mg base (k+1+1) c n nl fs:=by
 refine⟨k+1,C,fa,fd,ps,le_refl _,F.ok S (λvs H Q E h=>?_) (λcdv A outer s H vs Q E hr h=>?_),M,hm,hc,hb⟩
 .obtain⟨x,dx,vs',H1,W,ds,rfl,h1,_⟩:=h
  rw[List.length_cons,h1,hps]
 .obtain⟨x,dx,vs',H1,W,ds,rfl,h1,rfl,hx,hdx,ne,wl,hd,q⟩:=h
  have s0:=Yj (N:=replicate nl ("":Str)) wl hd
  rw[length_replicate]at s0
  have es:L2.start N (V.ref x::vs')=some (V.ref x)::L2.start (replicate nl ("":Str)) vs':=by
   unfold L2.start
   rw[length_replicate,hN,List.length_cons,map_cons,cons_append,Nat.add_sub_add_right]
  refine⟨_,(body cdv A outer s _ E hr).h,W,H1,(λb=>W b\/b=x),none::Sa nl ds,x,dx,[],[],?_,by rw[es];rfl,.inr rfl,hx,Ma,HasL.nil,by simpa using hnd,by simpa using hl,?_⟩
  .rw[es]
   refine⟨(s0.born hx hdx ne).front,λj t v e _ o=>?_⟩
   cases j with
   |zero=>cases e
   |succ j=>
    have e:(Sa nl ds)[j]? =some (some t):=e
    unfold Sa at e
    rcases mem_append.mp (mem_of_getElem? e) with m|m
    .obtain⟨d,_,ed⟩:=mem_map.mp m
     cases ed
     exact o
    .have:=(List.mem_replicate.mp m).2
     cases this
  .cases h2:Ek fs (none::Sa nl ds) with
   |stuck=>rw[h2]at q;exact q.elim
   |ex c gs=>rw[h2]at q;exact q.elim
   |ok es=>
    rw[h2]at q
    exact λH' fl' st' g2 g3 g4=>q H' fl' st'.fr.ext g2 (by simpa using g3) (HasL.keep (λ_ _ e _=>e) st'.fr.wl (λb z=>.inl (.inl z)) (show HasL K (λb=>W b\/b=x) H' es (fl'.map (·.2)) from g4))
variable{gs:Ba->Res (List D)}
section
variable {fs:List (Str×(Ba->Res D))}{p:Pos}{fld:Str}
theorem DZ(F:FnI X.prog X.w X.K X.mg X.base k c n nl fs)(hr:Room k X.A)(ha:XA X xw (a::es) gs)(hg:Gl X c:=by rfl)(hdb:(c==("__debug__":Str))=false:=by decide)(he:starEach (a::es) X.env=(false,eval a X.env)::starEach es X.env:=by rfl)(hpl:(backTo pos (starEach es X.env)).any (·.1)=false:=by rfl):
  XE X xw (.Call (.Name c p) (a::es) [] pos) (b1 (Oa n (Fq nl c fs)) gs):=⟨by
 obtain⟨j,C,fi,fd,ps,hj,G,M,hm,hn,hb⟩:=F.ex
 refine PE.weak (JQ M G (hr.mono hj) hg hm hb .nil KS ha.h hdb he hpl) λσ H Q ⟨W₀,H₀,W,δ,st,q⟩=>?_
 refine Qh st q λH2 ds vs k w st2 hv _ q2=>?_
 unfold Oa at q2
 split at q2
 .rename_i hl
  intro x dx hx hdx ne
  rw[append_nil]
  refine⟨x,dx,vs,H2,W,ds,rfl,by rw[<-hv.length];exact hl,rfl,hx,hdx,ne,w,hv,?_⟩
  unfold Fq at q2
  cases h:Ek fs (none::Sa nl ds) with
  |stuck=>rw[h]at q2;exact q2.elim
  |ex c gs=>rw[h]at q2;exact q2.elim
  |ok es=>
   rw[h]at q2
   exact λH' fl k' g1 g2 g3=>⟨rfl,q2 _ _ k' (by
    rw[Has]
    exact⟨x,C,dx,fl,rfl,hn,g1,(λz=>by obtain⟨o,e,_⟩:=w x z;rw[hx]at e;cases e),g2,g3⟩)⟩
 .exact q2.elim⟩
def Ni(c fld:Str):D->Res D
 | .obj c' ks ds=>if c'=c then(match (ks.zip ds).lookup fld with|some d=>.ok d|none=>.stuck) else .stuck
 |_=>.stuck
structure FldK(K:Frag)(c fld:Str):Prop where
 ex:∃ C,nsIn K mainGlobals c=some (some (.ref C))/\Cls K C/\NoAttr K C fld
theorem BC{K:Frag}{W:WS}{H:Hp}{g:Str}{d:D}:∀ {fl:List (Str×V)} {ds:List D},HasL K W H ds (fl.map (·.2))->((fl.map (·.1)).zip ds).lookup g=some d->∃ v,fl.lookup g=some v/\Has K W H d v
 | [],ds,_,e=>by simp at e
 |(k,v)::r,[],h,e=>by simp at e
 |(k,v)::r,d'::ds,h,e=>by
  rw[HasL]at h
  obtain⟨x,r',e1,h1,h2⟩:=h
  rw[map_cons]at e1
  cases e1
  rw[map_cons,List.zip_cons_cons,lookup_cons]at e
  rw[lookup_cons]
  cases hk:g==k with
  |true=>rw[hk]at e;cases e;exact⟨_,rfl,h1⟩
  |false=>rw[hk]at e;exact BC h2 e
theorem Ut(T:FldK X.K c fld)(he:XE X xw e f)(hb:attributeBase e fld X.env (eval e X.env)=eval e X.env:=by rfl):XE X xw (.Attribute e fld pos) (b1 (Ni c fld) f):=
 ⟨PE.weak (DX he.h hb) λσ H Q ⟨W₀,H₀,W,δ,st,q⟩=>Zs st q λH2 d v k w st2 hv _ q2=>by
  unfold Ni at q2
  cases d with
  |obj c' ks ds=>
   dsimp only at q2
   split at q2
   .rename_i hc
    subst hc
    split at q2
    .rename_i d' hd
     rw[Has]at hv
     obtain⟨ar,C,dx,fl,rfl,hn,hH,_,rfl,hL⟩:=hv
     obtain⟨C',hn',cl,na⟩:=T.ex
     rw[hn]at hn'
     cases hn'
     obtain⟨u,hu,hh⟩:=BC hL hd
     exact⟨ar,C,dx,fl,u,rfl,hH,cl,na,hu,q2 u H2 (Same.refl _) hh⟩
    .exact q2.elim
   .exact q2.elim
  |_=>exact q2.elim⟩
def B4(w:World)(e:DictEntry)(p:Str×Str):Prop:=e.hash=UV w (.inr p.1)/\(∃ t,e.key=.str p.1 t)/\∃ t,e.val=.str p.2 t
structure GlobQ(w:World)(K:Frag)(mg:Str->Option Value)(x:Str)(l:List (Str×Str)):Prop where
 h:∃ (ad:Addr) (o:Obj) (es:Array DictEntry) (n:Nat),mg x=some (.ref ad)/\K.lookup ad=some o/\o.ExactDict/\o.data=.dict es n/\Paired (B4 w) es.toList l/\(l.map (·.1)).Nodup
end
variable{apos cpos:Pos}
section
variable {pos' p:Pos}
def Mt(j i:Nat):Ba->Out:=λδ=>match δ[i]? with
 |some (some (.o ds))=>match ds[ds.length-1]? with
  |some d=>.nx ((δ.set i (some (.o ds.dropLast))).set j (some (.d d)))
  |none=>.stuck
 |_=>.stuck
theorem HasL.dropLast{ds:List D}{xs:List V}(h:HasL K W H ds xs):HasL K W H ds.dropLast xs.dropLast:=by
 rw[List.dropLast_eq_take,List.dropLast_eq_take,h.length]
 exact HasL.take _ h
theorem GY(j i:Nat){y:Str}(hNd:X.N.Nodup)(hN:X.N[i]? =some x:=by rfl)(hNj:X.N[j]? =some y:=by rfl)(hv:Br X.env.scope x:=by first|exact Or.inl rfl|exact Or.inr (Or.inl rfl)|exact Or.inr (Or.inr rfl))(hd:(x==("__debug__":Str))=false:=by decide)(hcd:(x==("__classdict__":Str))=false:=by decide)(hx:Ez X.env.scope y:=by first|exact Or.inl rfl|exact Or.inr rfl)(hbase:attributeBase (.Name x p1) "pop" X.env (eval (.Name x p1) X.env)=eval (.Name x p1) X.env:=by rfl)(hline:(p2.endLine==p3.line)=true:=by rfl)(hsw:swapsWith (.Call (.Attribute (.Name x p1) "pop" p2) [] [] p3) (some (.Name y pos')) pos.line X.env=pure false:=by rfl)(hf:X.fn y=true\/X.env.scope.names.lookup y=some .local:=by first|exact .inl rfl|exact .inr rfl|assumption):
  XS X xw (.Assign [.Name y pos'] (.Call (.Attribute (.Name x p1) "pop" p2) [] [] p3) pos) (Mt j i):=⟨
 PS.weak (Iv hNd hNj hx (AX PySem.F.plainAttrs_list PySem.F.slot_list_pop PySem.F.type_list_pop EW (Pd hN hv hd hcd) hbase hline) hsw hf) λDn σ H h=>by
  obtain⟨W₀,H₀,W,δ,st,q⟩:=h
  unfold Mt at q
  split at q
  .rename_i ds h
   split at q
   .rename_i d hd
    obtain⟨v,e1,a,xs,rfl,r2,r3,r4,r5⟩:=st.at' i _ h
    rw[r5.length]at hd
    obtain⟨u,hu,hh⟩:=r5.get hd
    have kk:Ph W H (Eb H a (.lst xs.dropLast)):=λb o e n=>by rw[Da (λz=>n (by rw[z];exact r2))];exact e
    have st2:=st.change h e1 r4 r2 r5.dropLast
    exact⟨_,e1,.inl ⟨rfl,xs,.of r4⟩,a,xs,u,rfl,rfl,r4,hu,q W _ _ ⟨kk,λ_ z=>.inl z⟩ (st2.set (Has.keep kk st.fr.wl (λb z=>.inl z) hh))⟩
   .exact q.elim
  .exact q.elim⟩
theorem Qu(l b:Addr)(xs ys:Array Value)(n m:Nat)(sl:Array (Option Value))(g0:¬(!xs.isEmpty&&Builtin.List.listTooLong (xs.size+ys.size))=true)(g1:xs.size<=sizeLine)(g2:xs.size+ys.size<=sizeLine+1):
  Meets (Builtin.«list.extend» ⟨[.ref l,.ref b],[]⟩) (λ_ R s=>s.heap.get? l=some {cls:=.type "list",data:=.seq xs n}/\s.heap.get? b=some {cls:=.type "list",data:=.seq ys m,slots:=sl}/\
   R (.ok (.ret .none)) {s with heap:=s.heap.update l (Obj.mapSeq (· ++ys))}):=
 .of_wp λ_ _ _ _ s h=>by
  obtain⟨h0,h1,h2,h3,h4⟩:=s
  obtain⟨el,eb,r⟩:=h
  have g3:(xs++ys).size<=sizeLine+1:=by rw[size_append];exact g2
  wp_walk using (wpAny_updateSeq el rfl (hz:=g1) (_hz':=g3)),wpAny_loadPart' el,wpAny_loadPart' eb
  exact⟨_,rfl,r⟩
def R1(K:Frag):V->List V->Hp->VK->Prop:=λx vs H Q=>∃ l b xs zs,x=.ref l/\vs= [.ref b]/\H l=some (.lst xs)/\SqL K H b zs/\xs.length+zs.length<=sizeLine/\Q .non (Eb H l (.lst (xs++zs)))
theorem CP:QZ X "list.extend" (R1 X.K):=by
 intro pins s σ H x vs v us Q I rx rv h
 obtain⟨l,b,xs,zs,rfl,rfl,hH,hB,hz,q⟩:=h
 cases rx
 obtain⟨u,rfl,ru⟩:=rv.one
 cases ru
 obtain⟨z,its,n,r,hl,e⟩:=I.lstM hH
 obtain⟨its2,r2,⟨⟨cls2,dd2,data2,sl2⟩,n2,e2,hc2,hd2,hs2⟩,hz2⟩:=I.list hB
 simp only at hc2 hd2 hs2
 subst hc2 hd2 hs2
 have k1:=r.length
 have k2:=r2.length
 have hsz:its.toArray.size+its2.toArray.size<=sizeLine:=by rw[size_toArray,size_toArray];omega
 have hlong:¬ (!its.toArray.isEmpty&&Builtin.List.listTooLong (its.toArray.size+its2.toArray.size))=true:=by rw[NJ hsz,Bool.and_false];exact Bool.false_ne_true
 refine call_meets F.slot_list_extend ⟨_,e,rfl⟩ F.entry_list_extend (F.args_list_extend_2 _ _) (Qu l b its.toArray its2.toArray n n2 sl2 hlong (by rw[size_toArray];omega) (by omega)) ⟨e,e2,?_⟩
 refine⟨.non,_,I.lset (its':=its++its2) hH e (by simp) (r.append r2) ?_,rfl,q⟩
 rw[length_append]
 omega
def WH(i:Nat)(δ:Ba)(r:Res D):Out:=match δ[i]? with
 |some (some (.o ds))=>Rl r λx=>match x with
  | .lst es=>@ite Out (ds.length+es.length<=100000) (propDecidable _) (.nx (δ.set i (some (.o (ds++es))))) .stuck
  |_=>.stuck
 |_=>.stuck
def Jy(i:Nat)(f:Ba->Res D):Ba->Out:=λδ=>WH i δ (f δ)
theorem EY(i:Nat)(he:XE X xw e f)(hN:X.N[i]? =some x:=by rfl)(hv:Br X.env.scope x:=by first|exact Or.inl rfl|exact Or.inr (Or.inl rfl)|exact Or.inr (Or.inr rfl))(hd:(x==("__debug__":Str))=false:=by decide)(hcd:(x==("__classdict__":Str))=false:=by decide)(hsE:starEach [e] X.env=(false,eval e X.env)::starEach [] X.env:=by rfl)(hbase:attributeBase (.Name x p1) "extend" X.env (eval (.Name x p1) X.env)=eval (.Name x p1) X.env:=by rfl)(hfew:((backTo p3 (starEach [e] X.env)).all (λx=> !x.1)&&(backToKw p3 (keywordEach [] X.env)).all (λx=>x.1.isSome)
   &&decide (([e]:List Expr).length+([]:List Keyword).length+(if([]:List Keyword).isEmpty then 0 else 1)<30))=true:=by rfl)(hline:(p2.endLine==p3.line)=true:=by rfl)(hplain:(backTo p3 (starEach [] X.env)).any (·.1)=false:=by rfl)(hsw:swapsWith (.Call (.Attribute (.Name x p1) "extend" p2) [e] [] p3) none pos.line X.env=pure false:=by rfl):
  XS X xw (.Expr (.Call (.Attribute (.Name x p1) "extend" p2) [e] [] p3) pos) (Jy i f):=⟨
 PS.weak (Vl (LS PySem.F.plainAttrs_list PySem.F.slot_list_extend PySem.F.type_list_extend CP (Pd hN hv hd hcd) (Hd he.h Nh hsE) hbase hfew hline hsE hplain) hsw) λDn σ H h=>by
  obtain⟨W₀,H₀,W,δ,st,q⟩:=h
  unfold Jy WH at q
  split at q
  .rename_i ds h
   obtain⟨v,e1,a,xs,rfl,r2,r3,r4,r5⟩:=st.at' i _ h
   refine⟨_,e1,.inl ⟨rfl,xs,.of r4⟩,?_⟩
   refine Fi st q λH2 d u st2 hu q2=>?_
   cases d with
   |lst es=>
    dsimp only at q2
    split at q2
    .rename_i hlen
     obtain⟨v',e1',a',ys,e',r2',r3',r4',r5'⟩:=st2.at' i _ h
     rw[e1]at e1'
     cases e1'
     cases e'
     rw[Has]at hu
     obtain⟨b,zs,rfl,lr,hz⟩:=hu
     have sz:sizeLine=16777216:=sizeLine_eq
     refine⟨a,b,ys,zs,rfl,rfl,r4',lr.sq,?_,?_⟩
     .have:=r5'.length;have:=hz.length;omega
     .refine q2 W _ σ ⟨λc o e n=>?_,λ_ z=>.inl z⟩ (st2.change h e1 r4' r2' (r5'.append hz))
      rw[Da (λz=>n (by rw[z];exact r2'))];exact e
    .exact q2.elim
   |_=>exact q2.elim
  .exact q.elim⟩
def NS:V->List V->Hp->VK->Prop:=λx vs H Q=>∃ a kvs k d,x=.ref a/\vs= [kV k,d]/\Rd H a (.dK kvs)/\Q ((Kc kvs k).getD d) H
theorem FP:QZ X "dict.get" NS:=by
 intro pins s σ H x vs v us Q I rx rv h
 obtain⟨a,kvs,k,d,rfl,rfl,hr,q⟩:=h
 cases rx
 cases rv with
 |cons ry rv=>
  obtain⟨u,rfl,ru⟩:=(show Vals [d] _ from rv).one
  obtain⟨_,hS,ws,rel,dd⟩:=Hy I.hok hr
  refine call_meetsIn PySem.F.slot_dict_get dd.typeIs PySem.F.entry_dict_get (PySem.F.args_dict_get_3 _ _ _) (meets_dict_get_default (Uc X.prog X.w) a (Vm ry) hS u) ⟨_,dd.mapOf,?_⟩
  refine⟨_,H,I.tok _,?_,q⟩
  obtain⟨g1,g2⟩:=Nu rel k
  cases h:Kc kvs k with
  |some z=>
   obtain⟨w',hw,rw'⟩:=g1 z h
   rw[hw];exact rw'
  |none=>rw[g2 h];exact ru
def EC(l:List (Bb×D))(d e:D):Res D:=match Kx d with
 |some k=>.ok ((Kc l k).getD e)
 |none=>.stuck
def PD(f:Ba->Res (List (Bb×D)))(g:Ba->Res (List D)):Ba->Res D:=λδ=>(f δ).bind λl=>(g δ).bind λds=>match ds with
 | [d,e]=>EC l d e
 |_=>.stuck
theorem GQ{o:Expr}{to:TE}{t:TA}(ho:PE X o to)(ha:PA X (e::es) t)(hbase:attributeBase o "get" X.env (eval o X.env)=eval o X.env:=by rfl)(hfew:((backTo cpos (starEach (e::es) X.env)).all (λx=> !x.1)&&(backToKw cpos (keywordEach [] X.env)).all (λx=>x.1.isSome)
   &&decide ((e::es).length+([]:List Keyword).length+(if([]:List Keyword).isEmpty then 0 else 1)<30))=true:=by rfl)(hline:(apos.endLine==cpos.line)=true:=by rfl)(hs:starEach (e::es) X.env=(false,eval e X.env)::starEach es X.env:=by rfl)(hplain:(backTo cpos (starEach es X.env)).any (·.1)=false:=by rfl):
  PE X (.Call (.Attribute o "get" apos) (e::es) [] cpos) (λσ H Q=>to σ H λx H1=>(∃ a kvs,x=.ref a/\Rd H1 a (.dK kvs))/\t σ H1 λxs H2=>NS x xs H2 Q):=by
 intro pins s σ H Q I h
 refine wpAny_Call_method_late hbase hfew hline rfl (thn (ho pins s σ H _ I h) λv s1 ⟨x,H1,I1,r1,ty,q1⟩=>?_)
 obtain⟨a,kvs,rfl,hr⟩:=ty
 have r2:=r1
 cases r2
 obtain⟨_,hS,ws,rel,dd⟩:=Hy I1.hok hr
 refine⟨"dict","dict.get",PySem.F.plainAttrs_dict,PySem.F.slot_dict_get,PySem.F.type_dict_get,dd.typeIs,dd.mapOf.noDict,?_⟩
 have hA:=ha cpos pins s1 σ H1 _ I1 q1
 rw[hs]at hA ⊢
 refine Calls.callWith_builtin (by show(false||(backTo cpos (starEach es X.env)).any (·.1))=false;rw[hplain]<;>rfl) (Calls.evalArgs_plain ?_)
 exact thn hA λus s2 ⟨vs,H2,I2,r3,q2⟩=>FP pins s2 σ H2 _ vs _ us Q I2 r1 r3 q2
theorem BZ{fq:Ba->Res (List (Bb×D))}(ho:XQ X xw a fq)(ha:XA X xw (e::es) gs)(hbase:attributeBase a "get" X.env (eval a X.env)=eval a X.env:=by rfl)(hfew:((backTo cpos (starEach (e::es) X.env)).all (λx=> !x.1)&&(backToKw cpos (keywordEach [] X.env)).all (λx=>x.1.isSome)
   &&decide ((e::es).length+([]:List Keyword).length+(if([]:List Keyword).isEmpty then 0 else 1)<30))=true:=by rfl)(hline:(apos.endLine==cpos.line)=true:=by rfl)(hs:starEach (e::es) X.env=(false,eval e X.env)::starEach es X.env:=by rfl)(hplain:(backTo cpos (starEach es X.env)).any (·.1)=false:=by rfl):
  XE X xw (.Call (.Attribute a "get" apos) (e::es) [] cpos) (PD fq gs):=⟨
 PE.weak (GQ ho.h ha.h hbase hfew hline hs hplain) λσ H Q h=>by
  obtain⟨W₀,H₀,W,δ,st,q⟩:=h
  unfold PD at q
  refine⟨W₀,H₀,W,δ,st,?_⟩
  cases h1:fq δ with
  |stuck=>rw[h1]at q;exact q
  |ex c fs=>rw[h1]at q;exact q
  |ok l=>
   rw[h1]at q
   intro ar kvs H1 k1 hr hp
   refine⟨⟨ar,kvs,rfl,hr⟩,W₀,H₀,W,δ,st.same k1,?_⟩
   simp only[Res.bind_ok]at q
   cases h2:gs δ with
   |stuck=>rw[h2]at q;exact q
   |ex c fs=>rw[h2]at q;exact λH2 k2=>q H2 (k1.trans k2)
   |ok ds=>
    rw[h2,Res.bind_ok]at q
    intro vs H2 k2 hvs
    split at q
    .rename_i d e'
     unfold EC at q
     split at q
     .rename_i k hk
      rw[HasL]at hvs
      obtain⟨x1,r1,rfl,g1,hvs⟩:=hvs
      rw[HasL]at hvs
      obtain⟨x2,r2,rfl,g2,hvs⟩:=hvs
      rw[HasL]at hvs
      subst hvs
      have e1:=Zh g1.top hk
      have hp2:=hp.same k2 (st.same k1).fr.wl
      obtain⟨p1,p2⟩:=hp2.get k
      refine⟨ar,kvs,k,x2,rfl,by rw[e1],Rd.same hr k2,q _ H2 (k1.trans k2) ?_⟩
      cases hg:Kc l k with
      |some d'=>
       obtain⟨v,hv,hh⟩:=p1 d' hg
       rw[hv];exact hh
      |none=>rw[p2 hg];exact g2
     .exact q.elim
    .exact q.elim⟩
end
section
variable {ff:Ba->Res (List D)}
end
def JF:D->D->Res D
 | .str x,.int n=>@ite (Res D) (0<=n/\n<=1000/\x.length<=1000) (propDecidable _) (.ok (.str (PySem.Txt.mul x n))) .stuck
 |_,_=>.stuck
theorem FA:MulOk x 0:=by
 refine⟨?_,λ_ h=>?_,λh=>?_⟩<;>first|rfl|omega|simp_all|decide
theorem UL(ha:XP X xw a fa)(hb:XP X xw b fb):XE X xw (.BinOp a .Mult b pos) (b2 JF fa fb):=⟨by
 refine Nk QP (λW H d e v u Q w hv hu q=>?_) ha.h hb.h
 unfold JF at q
 split at q
 .split at q
  .rename_i n hj
   refine⟨_,_,hv.str,hu.int,?_,q.str⟩
   by_cases h:1<=n
   .exact Ux h hj.2.1 hj.2.2
   .have:n=0:=by omega
    rw[this];exact FA
  .exact q.elim
 .exact q.elim⟩
end L3
namespace L2
open PySem PySem.Spec PyProof.Rows
variable {X:Cx}{pos:Pos}
end L2
namespace L3
open PySem PySem.Spec PyProof.Rows L2 SeqAt
variable {X:Cx}{pos:Pos}{tgs:List Expr}{ts:List D->Ba->Res Ba}
end L3
namespace PySem
open Sem (wp)
variable{mN:Str->Option Value}
section
variable {prog:Program}{w:World}{A:Around}{E:Value->Shared->Prop}{h:Heap}{g:Array GenState}{d:Drawn}{t:Nat}{os:OsState}
variable {nm q:Str}{C N f:Addr}{bs bm bmB:List Value}{hdct:Bool}{sn:List Str}{sub:List Value}{ab:Bool}{col:Option Bool}{dd:Option Addr}{k0 k1 k2 k3 k5:Option Value}{B newId initId:String}
def Th(h:Heap)(C:Addr)(rest:List Value):Heap:=(h.push {cls:=.type "tuple",data:=.seq rest.toArray}).push {cls:=.ref C,data:=.fields #[.ref h.objs.size,.none,.none,.none,.bool false,.none]}
theorem Uh{b:Addr}{o:Obj}{rest:List Value}(e:h.get? b=some o):(Th h C rest).get? b=some o:=get?_push_of_some _ (get?_push_of_some _ e)
theorem As(rest:List Value):(Th h C rest).get? (h.objs.size+1)=some {cls:=.ref C,data:=.fields #[.ref h.objs.size,.none,.none,.none,.bool false,.none]}:=by
 unfold Th
 heap_get
theorem EJ(F:ExcBaseFacts B newId initId bmB)(T:OwnTail h bmB bm){rest:List Value}{Q:Fin->Shared->Prop}(kl:h.get? C=some (excClassObj nm q C N bs bm hdct sn sub ab col dd k0 k1 k2 k3 k5 newId))(ns:h.Ns N mN)(hi:mN "__init__"=some (.ref f))(hrest:rest.length<=sizeLine)(hb:∀ self:Value,W.Looks (model prog w) h (bindSpecial (.ref f) self) (.ref f,[self]))(hq:codeAny (model prog w) A (.call (.ref f) ⟨.ref (h.objs.size+1)::rest,[]⟩) (λr s'=>match r with
   | .ok (.ret v)=>v=.none/\Q (.done (.ret (.ref (h.objs.size+1)))) s'
   | .ok _=>False
   | .error e=>E e s') ⟨Th h C rest,g,d,t,os⟩):
  wpAny (model prog w) A (Builtin.«type.__call__» ⟨.ref C::rest,[]⟩) Q E ⟨h,g,d,t,os⟩:=by
 repeat (first|with_reducible refine wpAny_loadPart_at kl ?_|with_reducible refine wpAny_madeBy_exc kl ?_|wp_step)
 refine codeAny_call_builtin_code (Code.quiet_builtin _ F.quiet) (wpAny_check_new_subT F T kl ?_)
 refine codeAny_exc_new_subT F T kl ?_ hrest
 show wpAny _ _ _ _ _ _
 have kl1:(Th h C rest).get? C=_:=Uh kl
 have ns1:(Th h C rest).Ns N mN:=by
  obtain⟨o,es,ep,e,r⟩:=ns
  exact⟨o,es,ep,Uh e,r⟩
 have tl1:=T.keeps (h':=Th h C rest) λb o e=>Uh e
 have hb1:=W.Looks.keeps (hb (.ref (h.objs.size+1))) (h':=Th h C rest) λb o e=>Uh e
 have at1:=As (h:=h) (C:=C) rest
 have own:(Value.ref C::bm).contains (.ref C)=true:=by simp
 show wpAny _ _ _ _ _ ⟨Th h C rest,g,d,t,os⟩
 generalize Th h C rest=h1 at*
 unfold isInstance
 repeat (first|with_reducible refine wpAny_loadPart_at at1 ?_|(with_reducible refine wpAny_isSubtype_exc kl1 ?_;rw[own])|wp_step)
 show wpAny _ _ (typeLookup (.ref C) _) _ _ _
 refine wpAny_typeLookup_tail kl1 ns1 tl1 F.mroIs F.init.lookup ?_
 rw[hi]
 show wpAny _ _ (holding _ (bindSpecial _ _ >>= _)) _ _ _
 refine wpAny_holding (wpAny_bind (W.Looks.at hb1 ?_))
 refine wpAny_bind (wpAny_call (codeAny_mono hq λr s' z=>?_))
 rcases r with e|(v|_|_|_)<;>first|exact z|exact z.elim|skip
 obtain⟨rfl,z⟩:=z
 exact wpAny_pure (wpAny_pure z)
theorem YG(F:ExcBaseFacts B newId initId bmB)(T:OwnTail h bmB bm){rest:List Value}{Q:Value->Shared->Prop}(kl:h.get? C=some (excClassObj nm q C N bs bm hdct sn sub ab col dd k0 k1 k2 k3 k5 newId))(ns:h.Ns N mN)(hi:mN "__init__"=some (.ref f))(hrest:rest.length<=sizeLine)(hb:∀ self:Value,W.Looks (model prog w) h (bindSpecial (.ref f) self) (.ref f,[self]))(hq:codeAny (model prog w) (A.under (.builtin "type.__call__" ⟨.ref C::rest,[]⟩)) (.call (.ref f) ⟨.ref (h.objs.size+1)::rest,[]⟩) (λr s'=>match r with
   | .ok (.ret v)=>v=.none/\Q (.ref (h.objs.size+1)) s'
   | .ok _=>False
   | .error e=>E e s') ⟨Th h C rest,g,d,t,os⟩):
  wpAny (model prog w) A (call (.ref C) rest) Q E ⟨h,g,d,t,os⟩:=by
 have look:=tc_lookup
 have bnd:=tc_bind (.ref C)
 have isT:(⟨h,g,d,t,os⟩:Shared).TypeIs (.ref C) "type":=⟨_,kl,rfl⟩
 refine wpAny_call (codeAny_of_tree ?_)
 show wpAny _ _ (callAny (.ref C) _) _ _ _
 repeat (any_goals (first|assumption|with_reducible refine wpAny_loadPart_at kl ?_|wp_step))
 refine⟨rfl,?_⟩
 refine codeAny_call_builtin_at (Code.quiet_builtin _ (by decide +kernel)) entry_typeCall (wpAny_check_type_call_sub kl (EJ F T kl ns hi hrest hb ?_))
 exact hq
end
end PySem
namespace PySem
open Sem (wp)
open Builtin Builtin.ObjectAttr W
variable{vs:Array Value}{sl:Array (Option Value)}{name:Str}{tk:Tok}{cd:ClassData}{n:Nat}
section
variable {prog:Program}{w:World}{A:Around}{E:Value->Shared->Prop}{h:Heap}{g:Array GenState}{d:Drawn}{t:Nat}{os:OsState}{K:Frag}
variable {nm q:Str}{C N e:Addr}{bs bm bmB:List Value}{hdct:Bool}{sn:List Str}{sub:List Value}{ab:Bool}{col:Option Bool}{dd:Option Addr}{k0 k1 k2 k3 k5:Option Value}{newId:String}
abbrev RL:List Value:= [.type "ValueError",.type "Exception",.type "BaseException",.type "object"]
def Vn:Nat->List Value->Bool
 |0,l=>l==RL
 |n+1,.ref _::r=>Vn n r
 |_+1,_=>false
theorem Tk(self:Value):∀ {n:Nat} {l:List Value},Vn n l=true->refuseLoop self "__setattr__" l=pure ()
 |0,_,e=>by rw[beq_iff_eq.mp e];exact F.store_ValueError.passes self
 |n+1,.ref _::r,e=>by rw[refuseLoop_ref];exact Tk (n:=n) self e
theorem UH{v:Value}{b:Bool}{Q:Fin->Shared->Prop}(KX:K.In h)(he:h.get? e=some ⟨.ref C,none,.fields vs,sl⟩)(f4:clsIn K C=some cd)(f6:cd.hasDict=true)(hq:∀ h' tk' dx,(∀ b o,b≠e->h.get? b=some o->h'.get? b=some o)->h'.get? e=some ⟨.ref C,some dx,.fields vs,sl⟩->h.objs.size<=dx->h'.Ns1 dx (λx=>if x=name then some v else none)->Q (.done (.ret .none)) ⟨h',g,d,tk',os⟩):
  wpAny (model prog w) A (storeInOwnDict (.ref e) (.ref C) (.str name tk) name v b) Q E ⟨h,g,d,t,os⟩:=by
 have es:e≠h.objs.size:=ne_of_lt (lt_size he)
 have cl:=looks_clsIn (M:=model prog w) KX f4
 let d0:Obj:= {cls:=.type "dict",data:=.dict #[]}
 have he1:(h.push d0).get? e=some ⟨.ref C,none,.fields vs,sl⟩:=get?_push_of_some _ he
 unfold storeInOwnDict
 refine wpAny_bind (wpAny_pure ?_)
 show wpAny _ _ (instanceDict e true >>= _) _ _ _
 unfold instanceDict
 refine wpAny_bind (wpAny_bind (wpAny_loadPart he ?_))
 show wpAny _ _ (classData C >>= _) _ _ _
 refine wpAny_bind (cl.at ?_)
 rw[f6]
 show wpAny _ _ (alloc d0 >>= _) _ _ _
 refine wpAny_bind (wpAny_alloc' ?_)
 refine wpAny_bind (wpAny_update' he1 ?_)
 refine wpAny_pure (a:=some h.objs.size) ?_
 have gd:((h.push d0).update e λo=> {cls:=o.cls,dict:=some h.objs.size,data:=o.data,slots:=o.slots}).get? h.objs.size=some d0:=
  (Heap.get?_update_ne _ _ _ _ es.symm).trans (Heap.get?_push_at rfl rfl)
 have ge:((h.push d0).update e λo=> {cls:=o.cls,dict:=some h.objs.size,data:=o.data,slots:=o.slots}).get? e=some ⟨.ref C,some h.objs.size,.fields vs,sl⟩:=Heap.get?_update_self _ he1 rfl
 have kp:∀ b o,b≠e->h.get? b=some o->((h.push d0).update e λo=> {cls:=o.cls,dict:=some h.objs.size,data:=o.data,slots:=o.slots}).get? b=some o:=λb o hb q=>
  (Heap.get?_update_ne _ _ _ _ hb).trans (get?_push_of_some _ q)
 show wpAny _ _ (storeInDict h.objs.size (.str name tk) name v) _ _ ⟨(h.push d0).update e _,g,d,t,os⟩
 revert gd ge kp
 generalize ((h.push d0).update e λo=> {cls:=o.cls,dict:=some h.objs.size,data:=o.data,slots:=o.slots})=h1
 intro gd ge kp
 have nd:h1.Ns h.objs.size (λ_=>none):=⟨_,#[],_,gd,rfl,λe he=>absurd he (by simp),λ_=>rfl⟩
 unfold storeInDict newKeyGuard
 refine wpAny_bind (wpAny_pure (wpAny_bind (wpAny_nsSet1 (Heap.Ns1.of_empty nd) λh' n1 same=>?_)))
 obtain⟨oD,eD,pD,oDh,dD,cD⟩:=n1.count (Within.cons name v Within.nil)
 refine wpAny_bind (wpAny_lookBehind oDh (by rw[dD];exact pastItsLine_dict (le_trans cD (by rw[List.length_cons,length_nil,sizeLine_eq];omega))) ?_)
 refine wpAny_pure (hq h' _ h.objs.size (λb o hb q=>(same.2 b (ne_of_lt (lt_size q))).trans (kp b o hb q)) ((same.2 e es).trans ge) (le_refl _) n1)
theorem WP{v:Value}{R:Result->Shared->Prop}(KX:K.In h)(he:h.get? e=some ⟨.ref C,none,.fields vs,sl⟩)(f2:findIn K (.ref C) name=some none)(f3:mroIn K C (.type "object")=some true)(f4:clsIn K C=some cd)(f5:Vn n cd.mro=true)(f6:cd.hasDict=true)(hq:∀ h' tk' dx,(∀ b o,b≠e->h.get? b=some o->h'.get? b=some o)->h'.get? e=some ⟨.ref C,some dx,.fields vs,sl⟩->h.objs.size<=dx->h'.Ns1 dx (λx=>if x=name then some v else none)->R (.ok (.ret .none)) ⟨h',g,d,tk',os⟩):
  codeAny (model prog w) A (.call (.builtin "object.__setattr__") ⟨[.ref e,.str name tk,v],[]⟩) R ⟨h,g,d,t,os⟩:=by
 have L0:Looks (model prog w) h (typeOf (.ref e)) (.ref C):=(Looks.ld he).andThen .now
 have L2:=looks_findIn (M:=model prog w) KX f2
 have L3:Looks (model prog w) h (isInstance (.ref e) (.type "object")) true:=L0.andThen (looks_mroIn KX f3)
 have L4:Looks (model prog w) h (mroOf (.ref C)) cd.mro:=(looks_clsIn KX f4).andThen .now
 have SF:=F.store_object
 refine codeAny_call_builtin SF.slot.plain SF.entry (@check_slot (model prog w) _ _ ⟨h,g,d,t,os⟩ "object.__setattr__" "object" "__setattr__" (.ref e) [.str name tk,v] [] _ SF.kind SF.split L3 (SF.args (.ref e) (.str name tk) v) ?_)
 rw[osa_eq,refuse_eq]
 refine wpAny_bind (wpAny_bind (L0.at (wpAny_bind (L4.at ?_))))
 rw[Tk _ f5]
 refine wpAny_pure (wpAny_bind (L0.at (wpAny_bind (L2.at (wpAny_bind (wpAny_pure (a:=(none:Option Value)) ?_))))))
 exact UH KX he f4 f6 λh' tk' dx a b c e=>hq h' tk' dx a b c e
theorem JE{v:Value}{Q:Unit->Shared->Prop}(KX:K.In h)(he:h.get? e=some ⟨.ref C,none,.fields vs,sl⟩)(f1:findIn K (.ref C) "__setattr__"=some (some (.builtin "object.__setattr__")))(f2:findIn K (.ref C) name=some none)(f3:mroIn K C (.type "object")=some true)(f4:clsIn K C=some cd)(f5:Vn n cd.mro=true)(f6:cd.hasDict=true)(hq:∀ h' tk' dx,(∀ b o,b≠e->h.get? b=some o->h'.get? b=some o)->h'.get? e=some ⟨.ref C,some dx,.fields vs,sl⟩->h.objs.size<=dx->h'.Ns1 dx (λx=>if x=name then some v else none)->Q () ⟨h',g,d,tk',os⟩):
  wpAny (model prog w) A (setAttr (.ref e) name v) Q E ⟨h,g,d,t,os⟩:=by
 have L0:Looks (model prog w) h (typeOf (.ref e)) (.ref C):=(Looks.ld he).andThen .now
 have L1:=looks_findIn (M:=model prog w) KX f1
 unfold setAttr callSpecial? specialOf
 repeat (first|with_reducible refine wpAny_call ?_|lk)
 refine WP KX he f2 f3 f4 f5 f6 λh' tk' dx a b c e=>?_
 exact wpAny_pure (wpAny_pure (hq h' tk' dx a b c e))
end
end PySem
namespace PySem
open Sem (wp)
open W
section
variable {prog:Program}{w:World}{A:Around}{E:Value->Shared->Prop}{h:Heap}{g:Array GenState}{d:Drawn}{t:Nat}{os:OsState}
variable {nm q:Str}{C N e:Addr}{bs bm bmB:List Value}{hdct:Bool}{sn:List Str}{sub:List Value}{ab:Bool}{col:Option Bool}{dd:Option Addr}{k0 k1 k2 k3 k5:Option Value}{B newId initId:String}
theorem Fr(F:ExcBaseFacts B newId initId bmB)(T:OwnTail h bmB bm)(kl:h.get? C=some (excClassObj nm q C N bs bm hdct sn sub ab col dd k0 k1 k2 k3 k5 newId)){t0:Addr}{sl:Array (Option Value)}{u:Value}{Q:Value->Shared->Prop}(he:h.get? e=some ⟨.ref C,none,.fields #[.ref t0,.none,.none,.none,.bool false,.none],sl⟩)(hq:∀ h' t1,(∀ b o,b≠e->h.get? b=some o->h'.get? b=some o)->h'.get? e=some ⟨.ref C,none,.fields #[.ref t1,.none,.none,.none,.bool false,.none],sl⟩->Q .none ⟨h',g,d,t,os⟩):
  wpAny (model prog w) A (call (.builtin initId) [.ref e,u]) Q E ⟨h,g,d,t,os⟩:=by
 refine wpAny_call (codeAny_call_builtin F.init.plain F.initEntry (wpAny_check_init_subT F T kl he rfl ?_))
 wp_walk
 have he1:(h.push {cls:=.type "tuple",data:=.seq #[u]}).get? e=some ⟨.ref C,none,.fields #[.ref t0,.none,.none,.none,.bool false,.none],sl⟩:=get?_push_of_some _ he
 refine hq _ h.objs.size (λb o hb k=>?_) ?_
 .rw[Heap.get?_update_other _ _ (Ne.symm hb)]
  exact get?_push_of_some _ k
 .rw[Heap.get?_update_self _ he1 rfl]
  rfl
end
end PySem
namespace L2
open PySem PySem.Spec PyProof.Rows
def Lm(a C:Addr)(h:Heap):Prop:=∃ t0 sl,h.get? a=some ⟨.ref C,none,.fields #[.ref t0,.none,.none,.none,.bool false,.none],sl⟩
def Aj(a C:Addr)(dx:Option Addr)(h:Heap):Prop:=∃ t0 sl,h.get? a=some ⟨.ref C,dx,.fields #[.ref t0,.none,.none,.none,.bool false,.none],sl⟩
variable{P:Program}{w:World}{H:Hp}{a C:Addr}
theorem VB{h:Heap}(x:Lm a C h):ObjOk P w H h a (.ext (Lm a C)):=by
 obtain⟨t0,sl,e⟩:=x
 exact⟨⟨t0,sl,e⟩,⟨_,e⟩,λh1 h2 ⟨t,z,q⟩ k=>⟨t,z,k _ q⟩⟩
theorem WN{h:Heap}{dx:Option Addr}(x:Aj a C dx h):ObjOk P w H h a (.ext (Aj a C dx)):=by
 obtain⟨t0,sl,e⟩:=x
 exact⟨⟨t0,sl,e⟩,⟨_,e⟩,λh1 h2 ⟨t,z,q⟩ k=>⟨t,z,k _ q⟩⟩
variable{X:Cx}
theorem JI{pins:List (Addr×Obj)}{σ:St}{H':Hp}{s s':Shared}{u:HO}(I:Inv X pins σ H s)(I':Inv X pins σ H' s')(hex:X.ex= [])(new:s.heap.get? a=none)(nh:H' a=none)(x:ObjOk X.prog X.w (Eb H' a u) s'.heap a u):Inv X pins σ (Eb H' a u) s':=by
 have ne:∀ b o,s.heap.get? b=some o->b≠a:=λb o e z=>by rw[z,new]at e;cases e
 have ne0:∀ b o,X.s₀.heap.get? b=some o->b≠a:=λb o e=>by
  obtain⟨o',e'⟩:=I.base.there b o e (by rw[hex];simp)
  exact ne b o' e'
 have up:∀ b o,H' b=some o->Eb H' a u b=some o:=λb o e=>by rw[Da (Ka e nh)];exact e
 refine⟨I'.ok,I'.os,I'.bare,⟨I'.base.keep,I'.base.slot,λb o e n hx=>?_,I'.base.there,λb xs e=>up _ _ (I'.base.tups b xs e),λb o v e=>up _ _ (I'.base.frzs b o v e),λb ps e=>?_⟩,I'.loc,I'.cell,?_,λy c e=>?_,λp hp=>?_,λb v e=>?_,I'.len⟩
 .rw[Da (ne0 b o e)];exact I'.base.free b o e n hx
 .obtain⟨m,e1⟩:=I'.base.tbls b ps e
  exact⟨m,up _ _ e1⟩
 .obtain⟨m,⟨o,_,_,ho,_⟩,_⟩:=I.loc
  rw[Da (ne _ o ho)];exact I'.free
 .obtain⟨v,o,ho,_⟩:=I.cell y c e
  rw[Da (ne c o ho)];exact I'.freeC y c e
 .obtain⟨e,n,r⟩:=I'.pin p hp
  refine⟨e,?_,r⟩
  rw[Da (ne p.1 _ (I.pin p hp).1)];exact n
 .by_cases hb:b=a
  .subst hb
   rw[Ma]at e
   cases e
   exact x
  .rw[Da hb]at e
   exact(I'.hok b v e).stay (λ_ _ _ q=>q) (λc q=>up _ _ q) λc xs q=>up _ _ q
theorem PL{o:HO}(e:H a=some o):Eb H a o=H:=by
 funext b
 unfold Eb
 split
 .rename_i z;rw[z,e]
 .rfl
structure XInit(K:Frag)(C S f:Addr):Prop where
 obj:∃ nm q N bs bm hdct sn sub ab col dd k0 k1 k2 k3 k5,K.lookup C=some (excClassObj nm q C N bs bm hdct sn sub ab col dd k0 k1 k2 k3 k5 "ValueError.__new__")/\PySem.W.nsOkIn K N=true/\
  nsIn K N "__init__"=some (some (.ref f))/\PySem.W.tailIn K RL bm=true
 ini:typeIn K (.ref f)=some (.type "function")
 kpC:keepIn K (.ref C)=true
 sa:findIn K (.ref C) "__setattr__"=some (some (.builtin "object.__setattr__"))
 ob:mroIn K C (.type "object")=some true
 cl:∃ cd n,PySem.W.clsIn K C=some cd/\Vn n cd.mro=true/\cd.hasDict=true
 bga:specialIn K (.ref S) "__getattribute__"=some (some (.builtin "type.__getattribute__"))
 brd:PySem.W.readsIn K S (.type "type")=true
 bfi:PySem.W.findCls K (.ref S) (.type "type") "__init__"=some (.val (.builtin "ValueError.__init__"))
section
variable {pos p apos p2:Pos}{a b o e:Expr}{es:List Expr}{ta tb to:TE}{t:TA}{S f:Addr}
theorem VJ{x:Str}{pl:Sem Bool}(Z:XInit X.K C S f)(hg:Gl X x)(hm:X.mg x=some (.ref S))(ha:PA X (e::es) t)(hdb:(x==("__debug__":Str))=false:=by decide)(hst:starEach (e::es) X.env=(false,eval e X.env)::starEach es X.env:=by rfl)(hpl:(backTo pos (starEach es X.env)).any (·.1)=false:=by rfl)(hkw:backToKw pos (keywordEach [] X.env)= []:=by rfl)(ht:eval (.Call (.Attribute (.Name x p) "__init__" apos) (e::es) [] pos) X.env=(do
   let ov <-eval (.Name x p) X.env
   standAt apos.atName
   let (f,first) <-holding [ov] (getMethod ov "__init__" pl)
   callWith pos f first (backTo pos (starEach (e::es) X.env)) (backToKw pos (keywordEach [] X.env))):=by rfl):
  PE X (.Call (.Attribute (.Name x p) "__init__" apos) (e::es) [] pos) (λσ H Q=>t σ H λvs H1=>∃ a z,vs= [.ref a,.str z]/\H1 a=some (.ext (Lm a C))/\Q .non H1):=by
 intro pins s σ H Q I h
 refine PySem.W.methodCall_KW (pl:=pl) (Qi I hg hm ?_ hdb) ht
 refine PySem.W.method_cls I.kIn Z.bga (PySem.W.cls_value I.kIn Z.brd Z.bfi rfl ?_)
 rw[hkw]
 have hA:=ha pos pins {s with toks:=s.toks+1} σ H _ (I.tok _) h
 rw[hst]at hA ⊢
 refine Calls.callWith_builtin (by show(false||(backTo pos (starEach es X.env)).any (·.1))=false;rw[hpl]<;>rfl) (Calls.evalArgs_plain ?_)
 refine thn hA λus s2 ⟨vs,H2,I2,r2,a,z,ev,hH,q⟩=>?_
 subst ev
 obtain⟨u1,u2,rfl,ra,rz⟩:=Vals.two r2
 obtain rfl:u1=.ref a:=ra
 obtain⟨nm,qn,N,bs,bm,hdct,sn,sub,ab,col,dd,k0,k1,k2,k3,k5,lk,_,_,tl⟩:=Z.obj
 obtain⟨⟨t0,sl,he⟩,_,_⟩:=I2.hok a _ hH
 obtain⟨hp,g,d,tk,os⟩:=s2
 refine Fr F.excBase_ValueError (tail_of_in I2.kIn tl) (I2.kIn _ _ lk) he λh' t1 k ge=>?_
 have I3:=I2.write (h':=h') (t':=tk) (x:=a) (e:=a) (o:=.ext (Lm a C)) (by rw[hH];trivial) (.inl rfl) k ⟨_,ge⟩ (VB ⟨t1,sl,ge⟩)
 rw[PL hH]at I3
 exact⟨.non,H2,I3,rfl,q⟩
end
end L2
namespace L3
open PySem PySem.Spec PyProof.Rows L2 SeqAt
def Q7(C:Addr)(attr:Str):Sp:=λvs H Q _=>∃ a i,vs= [.ref a,.int i]/\i.natAbs.log2<1920/\(toString i:Str).length<=1000/\H a=some (.ext (Lm a C))/\∀ d,H d=none->Q .non (Eb (Eb H a (.ext (Aj a C (some d)))) d (.xd [(attr,.int i)]))
structure XInE(X:Cx)(C:Addr)(attr:Str)(sts:List Stmt):Prop where
 h:PSs X sts (λD σ H=>∃ a i,σ[0]? =some (some (.ref a))/\σ[1]? =some (some (.int i))/\i.natAbs.log2<1920/\(toString i:Str).length<=1000/\H a=some (.ext (Lm a C))/\∀ d,H d=none->D.nx σ (Eb (Eb H a (.ext (Aj a C (some d)))) d (.xd [(attr,.int i)])))
variable{X:Cx}{C:Addr}
section
variable {S f:Addr}{xb self x attr c0:Str}{p1 p2 p3 p4 p5 p6 p7 p8 p9 q1 q2 q3 q4:Pos}{j:Nat}
end
def ZD(H:Hp)(a:Addr):Hp:=λb=>if b=a then none else H b
variable{H:Hp}{a b:Addr}
theorem Pk(h:b≠a):ZD H a b=H b:=by unfold ZD;rw[if_neg h]
theorem Rp:ZD H a a=none:=by unfold ZD;rw[if_pos rfl]
theorem Up{o:HO}(h:ZD H a b=some o):b≠a/\H b=some o:=by
 unfold ZD at h
 split at h
 .cases h
 .rename_i z;exact⟨z,h⟩
section
variable {pins:List (Addr×Obj)}{σ:L2.St}{s:Shared}{dx:Option Addr}{M:Model}{Ex:Value->Shared->Prop}
theorem FO{E:XK}{Q:Unit->Shared->Prop}(I:Inv X pins σ H s)(hex:X.ex= [])(hst:X.stack=X.env::X.outer)(hfr:X.env.frame=some X.env.locals)(hH:H a=some (.ext (Aj a C dx)))(hnew:X.s₀.heap.get? a=none)(hE:E (.ref C) (dx,true) (ZD H a))(hQ:∀ s'',ND X.prog X.w X.outer X.H₀ X.s₀ E (.ref a) s''->Q () s''):wpAny M X.A (leaving X.env (.ref a)) Q Ex s:=by
 have es:=Ls hst hfr
 have noex:∀ b,b∉X.ex:=λb=>by rw[hex];simp
 obtain⟨⟨t0,sl,he⟩,_,_⟩:=I.hok a _ hH
 have nst:∀ b u,H b=some u->b∉Fh X.stack:=λb u q z=>by rw[I.stkFree b z]at q;cases q
 have hin:∀ env∈X.env::X.outer,∀ b,env.frame=some b->b∈a::Fh X.stack:=λenv q b hb=>by
  rw[hst];exact mem_cons_of_mem _ (List.mem_filterMap.mpr ⟨env,q,hb⟩)
 have ff:s.heap.FunFrames (hideAll s.heap (a::Fh X.stack)) (X.env::X.outer):=PySem.W.funFrames_hide (by rw[<-hst];exact I.stack) hin
 have old:∀ b o,X.s₀.heap.get? b=some o->b≠a:=λb o q z=>by rw[z,hnew]at q;cases q
 have nl:∀ b,b∉Fh X.outer->((ZD H a b).isSome=true\/(X.s₀.heap.get? b).isSome=true)->b∉a::Fh X.stack:=λb hb h z=>by
  rcases mem_cons.mp z with z|z
  .rw[z,Rp,hnew]at h
   rcases h with h|h<;>cases h
  .rw[es]at z
   rcases mem_cons.mp z with z|z
   .rw[z]at h
    rcases h with h|h
    .obtain⟨o,q⟩:=isSome_iff_exists.mp h
     have:=(Up q).2
     rw[I.free]at this;cases this
    .obtain⟨o,q⟩:=isSome_iff_exists.mp h
     exact absurd (lt_of_lt_of_le (lt_size q) I.ok.above) (lt_irrefl _)
   .exact hb z
 have inB:∀ b o,s.heap.get? b=some o->b∉a::Fh X.stack->(hideAll s.heap (a::Fh X.stack)).get? b=some o:=λb o q hb=>PySem.W.hideAll_get _ q hb
 have gone:(hideAll s.heap (a::Fh X.stack)).get? a=none:=PySem.W.hideAll_none _ (mem_cons_self ..)
 refine(Ix X.env (.ref a)).thn (Q:=λ_ s''=>∃ h',s''= {s with heap:=h'}/\Heap.LeftW (hideAll s.heap (a::Fh X.stack)) (X.env::X.outer) a (.ref C) (.ref t0) s.heap h') (wpAny_leaving_firstW (base:=hideAll s.heap (a::Fh X.stack)) (by rw[<-hst];exact I.ok.frames) ff hfr he (λb o q=>PySem.W.of_hideAll _ q) gone rfl rfl rfl λh' hL=>⟨h',rfl,hL⟩) λ_ s'' ⟨h',e'',hL⟩ dk=>?_
 subst e''
 obtain⟨od',ed',dd'⟩:=dk a _ he
 obtain⟨k1,⟨_,_,k2⟩,k3,k4⟩:=hL
 have slots:∀ {b:Addr} {o:Obj},b∈Fh X.outer->s.heap.get? b=some o->∃ sl,h'.get? b=some {o with slots:=sl}:=λ{b o} hb q=>by
  obtain⟨_,o',e',nf⟩:=I.funs.mem hb
  rw[q]at e';cases e'
  exact k4 b o q nf
 refine hQ _ ⟨a,.ref C,(dx,true),ZD H a,rfl,I.os,I.bare,⟨⟨λb o e n hb hx=>?_,λb o e n hb hx=>?_,λb o e n hx=>?_,λb o e hx=>?_,λb xs e=>?_,λb o u e=>?_,λb ps e=>?_⟩,λb u e=>?_,λb hb=>?_,hnew,Rp,⟨od',ed',DcOk.to (dx:=(dx,true)) ⟨rfl,λ_=>⟨_,rfl,rfl⟩⟩ dd'⟩,_,_,⟨k1,gone,k2,k3⟩,λb hb h=>?_⟩,hE⟩
 .exact k1 b o (inB b o (I.base.keep b o e n hb (noex b)) (nl b hb (.inr (by rw[e];rfl))))
 .obtain⟨z1,e1⟩:=I.base.slot b o e n hb (noex b)
  obtain⟨z2,e2⟩:=slots hb e1
  exact⟨z2,e2⟩
 .rw[Pk (old b o e)];exact I.base.free b o e n (noex b)
 .obtain⟨o',e1⟩:=I.base.there b o e (noex b)
  by_cases hb:b∈Fh X.outer
  .obtain⟨z,e2⟩:=slots hb e1
   exact⟨_,e2⟩
  .exact⟨o',k1 b o' (inB b o' e1 (nl b hb (.inr (by rw[e];rfl))))⟩
 .have q:=I.base.tups b xs e
  rw[Pk (λz=>by rw[z,hH]at q;cases q)];exact q
 .have q:=I.base.frzs b o u e
  rw[Pk (λz=>by rw[z,hH]at q;cases q)];exact q
 .obtain⟨more,q⟩:=I.base.tbls b ps e
  exact⟨more,by rw[Pk (λz=>by rw[z,hH]at q;cases q)];exact q⟩
 .obtain⟨ne,q⟩:=Up e
  have nin:∀ c v,c≠a->H c=some v->c∉a::Fh X.stack:=λc v hc hq z=>by
   rcases mem_cons.mp z with z|z
   .exact hc z
   .exact nst c v hq z
  refine(I.hok b u q).stay (λc v hc q2=>?_) (λc z=>?_) λc xs z=>?_
  .rcases hc with rfl|hc
   .exact k1 c v (inB c v q2 (nin c u ne q))
   .exact k1 c v (inB c v q2 (nin c _ (λz=>by rw[z,hH]at hc;cases hc) hc))
  .rw[Pk (λy=>by rw[y,hH]at z;cases z)];exact z
  .rw[Pk (λy=>by rw[y,hH]at z;cases z)];exact z
 .by_cases hba:b=a
  .rw[hba];exact Rp
  .rw[Pk hba];exact I.stkFree b (by rw[es];exact mem_cons_of_mem _ hb)
 .have hb':=nl b hb h
  have:∃ o,s.heap.get? b=some o:=by
   rcases h with h|h
   .obtain⟨u,q⟩:=isSome_iff_exists.mp h
    exact KP (I.hok b u (Up q).2)
   .obtain⟨o,q⟩:=isSome_iff_exists.mp h
    exact I.base.there b o q (noex b)
  obtain⟨o,q⟩:=this
  rw[inB b o q hb'];rfl
end
end L3
namespace PySem
open Sem (wp)
section
variable {M:Model}{A:Around}{E:Value->Shared->Prop}{s:Shared}{env:Env}
variable {nm q:Str}{C N:Addr}{bs bm:List Value}{hdct:Bool}{sn:List Str}{sub:List Value}{ab:Bool}{col:Option Bool}{dd:Option Addr}{k0 k1 k2 k3 k5:Option Value}{newId:String}
theorem QA{x:Sem Value}{Q:Flow->Shared->Prop}(hbase:bm.contains (.type "BaseException")=true)(hh:A.handled=none)(h:wpAny M A x (λv s1=>∃ e dx t0 sl,v=.ref e/\s1.heap.get? C=some (excClassObj nm q C N bs bm hdct sn sub ab col dd k0 k1 k2 k3 k5 newId)/\
   s1.heap.get? e=some ⟨.ref C,dx,.fields #[.ref t0,.none,.none,.none,.bool false,.none],sl⟩/\E (.ref e) s1) E s):
  wpAny M A (raiseStmt env (some x) none) Q E s:=by
 have own:(Value.ref C::bm).contains (.type "BaseException")=true:=by rw[List.contains_cons,hbase,Bool.or_true]
 unfold raiseStmt
 refine wpAny_bind (wpAny_mono h (λv s1 z=>?_) λ_ _ y=>y)
 obtain⟨e,dx,t0,sl,rfl,kl,at1,last⟩:=z
 obtain⟨hp,g,d,tk,os⟩:=s1
 repeat (first|with_reducible refine wpAny_loadPart_at at1 ?_|with_reducible refine wpAny_loadPart_at kl ?_|(with_reducible refine wpAny_isSubtype_exc kl ?_;rw[own])|wp_step)
 exact wpAny_raiseNew_none hh last
end
end PySem
namespace L2
open PySem PySem.Spec PyProof.Rows
theorem JW{K:Frag}{h:Heap}{N:Addr}{mN:Str->Option Value}{n:Str}{v:Value}(KX:K.In h)(G:h.Ns N mN)(e:nsIn K N n=some (some v)):mN n=some v:=by
 obtain⟨o,es,ep,at1,dt,_,fnd⟩:=G
 unfold nsIn at e
 split at e
 .rename_i c d es2 n2 sl lk
  have q:=KX _ _ lk
  rw[at1]at q
  cases q
  cases dt
  rw[<-fnd]
  unfold nsFind findBy
  rw[<-Array.find?_toList]
  split at e
  .rename_i en he
   rw[he]
   cases e
   rfl
  .split at e<;>cases e
 .cases e
section
variable {X:Cx}{C S f:Addr}{fd:FuncData}{ps:List Str}{sp:Sp}{k:Nat}{x:Str}{p pos:Pos}{e:Expr}{es:List Expr}{t:TA}
end
end L2
namespace L3
open PySem PySem.Spec PyProof.Rows L2 SeqAt
theorem KR{i:Int}(h0:0<=i)(h1:i<1000):i.natAbs.log2<1920/\(toString i:Str).length<=1000:=by
 obtain⟨n,rfl⟩:∃ n:Nat,i=n:=⟨i.toNat,by omega⟩
 have h:∀ n:Nat,n<1000->(n:Int).natAbs.log2<1920/\(toString (n:Int):Str).length<=1000:=by decide +kernel
 exact h n (by omega)
structure FnE(P:Program)(w:World)(K:Frag)(mg:Str->Option Value)(base:Heap)(k:Nat)(c attr:Str):Prop where
 ex:∃ j C S f fd ps,j+1<=k/\FnOk P w K mg base Al j f fd ps (Q7 C attr)/\XInit K C S f/\mg c=some (.ref C)/\nsIn K mainGlobals c=some (some (.ref C))/\Binds K fd ps []
def NG(X:Cx)(xw:XW):Prop:=∀ (pins:List (Addr×Obj)) (σ:L2.St) (H:Hp) (s:Shared) (a C:Addr) (dx:Option Addr) (c:Str) (fs:List D),Inv X pins σ H s->H a=some (.ext (Aj a C dx))->X.s₀.heap.get? a=none->
 nsIn X.K mainGlobals c=some (some (.ref C))->ExF (ZD H a) (dx,true) fs->xw c fs (ZD H a)->X.xe (.ref a) s
variable{f:Addr}
theorem Ht{P:Program}{w:World}{K:Frag}{mg:Str->Option Value}{base:Heap}{N:List Str}{qual:Str}{scope:Scope}{cd:Value}{A:Around}{outer:List Env}{s₀:Shared}{H₀:Hp}{E:XK}:
  NG (Ak (ND P w) P w K mg base N qual scope f cd A outer s₀ H₀ E) (U3 K E):=by
 intro pins σ H s a C dx c fs I hH hnew hn xf q
 exact FO I rfl rfl rfl hH hnew (q (.ref C) (dx,true) hn xf) λs'' z=>z
theorem Qw{H:Hp}{a d:Addr}{o u:HO}(h:H a=none)(n:d≠a):ZD (Eb (Eb H a o) d u) a=Eb H d u:=by
 funext b
 unfold ZD Eb
 by_cases h1:b=a
 .rw[if_pos h1,h1,if_neg (Ne.symm n),h]
 .rw[if_neg h1]
  by_cases h2:b=d
  .rw[if_pos h2,if_pos h2]
  .rw[if_neg h2,if_neg h2,if_neg h1]
variable{X:Cx}{xw:XW}
section
variable {C S:Addr}{fd:FuncData}{ps:List Str}{k:Nat}{x c attr:Str}{p pos np cpos:Pos}{e a:Expr}{es:List Expr}{t:TA}{fs:Ba->Res (List D)}
end
section
variable {tg it:Expr}{f:Ba->Res (List D)}
theorem PI.nox{t:TI}(h:PI X.nox tg it t):PI X tg it t:=λpins s σ H R I hw=>
 wpAny_mono (h pins s σ H R (I.wish _) hw) (λv s1 q=>wpAny_mono q (λ_ _ ⟨a,fp,tn,J,H',e,I',r⟩=>⟨a,fp,tn,J,H',e,I'.unwish,r⟩) λ_ _ z=>False.elim z) λ_ _ z=>False.elim z
theorem JS(h:XI X.nox Jm tg it f):XI X xw tg it (Ag f):=⟨PI.weak (PI.nox h.h) λσ H R ⟨W₀,H₀,W,δ,st,q⟩=>⟨W₀,H₀,W,δ,st,by
 dsimp only[Ag]at q
 cases hq:f δ with
 |ok d=>rw[hq]at q;exact q
 |ex c fs=>rw[hq]at q;exact q.elim
 |stuck=>rw[hq]at q;exact q.elim⟩⟩
end
end L3
namespace L3
open PySem PySem.Spec PySem.Calls PyProof.Rows PySem.W Builtin Builtin.ObjectAttr Builtin.Getset_descriptor
variable{tk:Tok}{Q:Value->Shared->Prop}{expr:Bool}
section
variable {prog:Program}{w:World}{A:Around}{E:Value->Shared->Prop}{h:Heap}{g:Array GenState}{d:Drawn}{t:Nat}{os:OsState}{K:Frag}{a C:Addr}{o:Obj}{od:Option Obj}{name:Str}{v:Value}
theorem XL{Q:Fin->Shared->Prop}(X:K.In h)(J:InstAt h a o C od)(hf:findObj K C od name=some (.value v))(hq:Q (.done (.ret v)) ⟨h,g,d,t,os⟩):
  wpAny (model prog w) A (Builtin.«object.__getattribute__» ⟨[.ref a,.str name tk],[]⟩) Q E ⟨h,g,d,t,os⟩:=by
 have L0:=J.type (M:=model prog w)
 have L1:=looks_find (M:=model prog w) X J hf
 unfold Builtin.«object.__getattribute__»
 repeat (first|assumption|refine wpAny_bind (L0.at ?_)|refine wpAny_bind (L1.at ?_)|wp_step)
theorem ZR{R:Result->Shared->Prop}(X:K.In h)(J:InstAt h a o C od)(z:ExcK K C)(hf:findObj K C od name=some (.value v))(hq:R (.ok (.ret v)) ⟨h,g,d,t,os⟩):
  codeAny (model prog w) A (.call (.builtin "BaseException.__getattribute__") ⟨[.ref a,.str name tk],[]⟩) R ⟨h,g,d,t,os⟩:=by
 have L0:=J.type (M:=model prog w)
 have L1:=looks_mroIn (M:=model prog w) X z.be
 have hk:builtinKind "BaseException.__getattribute__"=some .slot:=by decide +kernel
 have hsplit:splitId "BaseException.__getattribute__"=some ("BaseException","__getattribute__"):=by decide +kernel
 have ha:=F.args_bexc_ga (.ref a) (.str name tk)
 have hp:plainId "BaseException.__getattribute__"=true:=by decide +kernel
 refine codeAny_call_builtin hp F.entry_bexc_ga ?_
 simp only[checkBuiltinCall,hk,hsplit]
 refine wpAny_bind ((L0.andThen L1).at ?_)
 simp only[Bool.not_true,false_eq_true,if_false]
 repeat (first|assumption|exact XL X J hf hq|wp_step)
theorem A3{fill:Bool}(X:K.In h)(J:InstAt h a o C od)(z:ExcK K C)(hf:findObj K C od name=some (.value v))(hv:handedIn v=true)(hq:Q v ⟨h,g,d,t,os⟩):
  wpAny (model prog w) A (getAttrBy (.ref a) (.str name tk) fill expr) Q E ⟨h,g,d,t,os⟩:=by
 have L0:=J.type (M:=model prog w)
 have L1:=looks_findIn (M:=model prog w) X z.ga
 have L2:=looks_findIn (M:=model prog w) X z.gt
 have f3:bindSpecial (.builtin "BaseException.__getattribute__") (.ref a)=pure (.builtin "BaseException.__getattribute__",[.ref a]):=F.excAttr_ValueError.ga.bind (.ref a)
 have hx0:(expr&&onTheHeap (Value.builtin "BaseException.__getattribute__"))=false:=by cases expr<;>rfl
 have hx2:(Value.builtin "BaseException.__getattribute__"==Value.builtin "object.__getattribute__")=false:=by decide +kernel
 have hx1:(onTheHeap (Value.ref C)&&Value.builtin "BaseException.__getattribute__"==Value.builtin "object.__getattribute__")=false:=by rw[hx2];rfl
 have ho:=handedOut_of hv
 repeat (any_goals (first|assumption|refine wpAny_bind (L0.at ?_)|refine wpAny_bind (L1.at ?_)|refine wpAny_bind (L2.at ?_)|wp_step))
 refine ZR X J z hf ?_
 repeat (any_goals (first|assumption|(rw[ho];exact wpAny_pure hq)|wp_step))
theorem YR(X:K.In h)(J:InstAt h a o C od)(z:ExcK K C)(hf:findObj K C od name=some (.value v))(hv:handedIn v=true)(hq:Q v ⟨h,g,d,t+1,os⟩):
  wpAny (model prog w) A (getAttr (.ref a) name expr) Q E ⟨h,g,d,t,os⟩:=by
 unfold getAttr
 repeat (any_goals (first|assumption|with_reducible apply A3 X J z hf hv|wp_step))
end
end L3
namespace L3
open PySem PySem.Spec PyProof.Rows L2 SeqAt
structure FldX(K:Frag)(c attr:Str):Prop where
 ex:∃ C,nsIn K mainGlobals c=some (some (.ref C))/\ExcK K C/\hasDictIn K C=true/\findIn K (.ref C) attr=some none
def Ds(f:Str):List D->List D->Option D
 | .str n::ns,x::vs=>if f=n then some x else Ds f ns vs
 |_,_=>none
def VH(cs:List Str)(f:Str):D->Res D
 | .exc c (.tup ns::vs)=>if c∈cs then(match Ds f ns vs with|some x=>.ok x|none=>.stuck) else .stuck
 | .exc c (.non:: .tup ns::vs)=>if c∈cs then(match Ds f ns vs with|some x=>.ok x|none=>.stuck) else .stuck
 |_=>.stuck
variable{K:Frag}{W:WS}{H:Hp}{x:D}
theorem YC{v:V}(h:WK x=some v):Has K W H x v:=by
 cases x with
 |non=>cases h;rw[Has]
 |bl b=>cases h;rw[Has]
 |int i=>cases h;rw[Has]
 |str z=>cases h;rw[Has]
 |_=>cases h
theorem Sy{K:Frag}{W:WS}{H:Hp}:∀ {ds:List D} {xs:List V},ds.map WK=xs.map some->HasL K W H ds xs
 | [],[],_=>by rw[HasL]
 |d::ds,x::xs,h=>by
  rw[map_cons,map_cons]at h
  injection h with h1 h2
  rw[HasL]
  exact⟨x,xs,rfl,YC h1,Sy h2⟩
 | [],_::_,h=>by simp at h
 |_::_,[],h=>by simp at h
theorem ExV.has{v:V}(h:ExV H x v):Has K W H x v:=by
 rcases h with h|⟨ds,a,o,xs,rfl,rfl,e,q⟩
 .exact YC h
 .rw[Has]
  exact⟨a,xs,rfl,.inr (.inl ⟨o,e⟩),Sy q⟩
theorem Uw{H:Hp}{f:Str}{x:D}:∀ {kvs:List (Str×V)} {vs:List D},ExVs H vs (kvs.map (·.2))->Ds f (kvs.map λp=>D.str p.1) vs=some x->∃ v,kvs.lookup f=some v/\ExV H x v
 | [],[],_,e=>by cases e
 |p::kvs,y::vs,⟨h,t⟩,e=>by
  have e:(if f=p.1 then some y else Ds f (kvs.map λp=>D.str p.1) vs)=some x:=e
  split at e
  .rename_i q
   cases e
   exact⟨p.2,by obtain⟨n,v⟩:=p;simp only at q;subst q;simp[lookup_cons],h⟩
  .rename_i q
   obtain⟨v,h1,h2⟩:=Uw t e
   refine⟨v,?_,h2⟩
   obtain⟨n,u⟩:=p
   rw[lookup_cons,show(f==n)=false from by simpa using q]
   exact h1
 | [],_::_,h,_=>h.elim
 |_::_,[],h,_=>h.elim
section
variable {X:Cx}{xw:XW}{e:Expr}{f:Ba->Res D}{pos:Pos}{attr:Str}{ta:TE}
theorem BX(he:PE X e ta)(hb:attributeBase e attr X.env (eval e X.env)=eval e X.env):PE X (.Attribute e attr pos) (λσ H Q=>ta σ H λx H1=>∃ a C dx z kvs v,x=.ref a/\H1 a=some (.ext (Dj a (.ref C) (some dx,z)))/\H1 dx=some (.xd kvs)/\
  ExcK X.K C/\hasDictIn X.K C=true/\findIn X.K (.ref C) attr=some none/\kvs.lookup attr=some v/\Q v H1):=by
 intro pins s σ H Q I h
 refine NB hb (thn (he pins s σ H _ I h) λu s1 ⟨x,H1,I1,rx,a,C,dx,zz,kvs,v,ex,ea,ed,z,hd,na,lk,q⟩=>?_)
 subst ex
 obtain rfl:u=Value.ref a:=rx
 obtain⟨⟨o,vs,ho,hc,hdx,hdt,_⟩,_⟩:=I1.hok a _ ea
 obtain⟨mA,ns,r⟩:=I1.hok dx _ ed
 obtain⟨od,hod,hl⟩:=Vs ns
 obtain⟨u,hu,ru⟩:=RelO.some_of (v:=v) (o:=mA attr) (by rw[<-lk];exact r attr)
 obtain⟨hp,g,d,tk,os⟩:=s1
 have J:PySem.W.InstAt hp a o C (some od):=⟨ho,hc,by unfold PySem.W.notCls;rw[hdt],by rw[hdx];exact hod⟩
 exact YR I1.kIn J z (PySem.W.findObj_own hd na rfl (by rw[hl,hu])) (Ms ru) ⟨v,H1,I1.tok _,ru,q⟩
theorem US{cs:List Str}(T:∀ c∈cs,FldX X.K c attr)(he:XE X xw e f)(hb:attributeBase e attr X.env (eval e X.env)=eval e X.env:=by rfl):XE X xw (.Attribute e attr pos) (b1 (VH cs attr) f):=
 ⟨PE.weak (BX he.h hb) λσ H Q ⟨W₀,H₀,W,δ,st,q⟩=>Zs st q λH2 d v k w st2 hv _ q2=>by
  have main:∀ (c:Str) (ns vs:List D) (fs:List D),Has X.K W H2 (.exc c fs) v->(∀ dx,ExF H2 dx fs->ExD H2 dx.1 ns vs)->RE X.K xw W H2 (if c∈cs then(match Ds attr ns vs with|some x=>.ok x|none=>.stuck) else .stuck) Q->
    ∃ a C dx z kvs u,v=.ref a/\H2 a=some (.ext (Dj a (.ref C) (some dx,z)))/\H2 dx=some (.xd kvs)/\ExcK X.K C/\hasDictIn X.K C=true/\findIn X.K (.ref C) attr=some none/\kvs.lookup attr=some u/\Q u H2:=by
   intro c ns vs fs hv hx q3
   split at q3
   .rename_i hc
    split at q3
    .rename_i x hx'
     rw[Has]at hv
     obtain⟨a,C,dx,rfl,hn,hH,hF⟩:=hv
     obtain⟨d,kvs,ed,hd,rfl,hvs⟩:=hx dx hF
     obtain⟨C',hn',z,hdt,na⟩:=(T c hc).ex
     rw[hn]at hn'
     cases hn'
     obtain⟨u,h1,h2⟩:=Uw hvs hx'
     obtain⟨d0,z0⟩:=dx
     dsimp only at ed
     subst ed
     exact⟨a,C',d,z0,kvs,u,rfl,hH,hd,z,hdt,na,h1,q3 u H2 (Same.refl _) h2.has⟩
    .exact q3.elim
   .exact q3.elim
  cases d with
  |exc c fs=>
   cases fs with
   |nil=>exact q2.elim
   |cons y vs=>
    cases y with
    |tup ns=>exact main c ns vs _ hv (λdx h=>h.2) q2
    |non=>
     cases vs with
     |nil=>exact q2.elim
     |cons y vs=>
      cases y with
      |tup ns=>exact main c ns vs _ hv (λdx h=>h) q2
      |_=>exact q2.elim
    |_=>exact q2.elim
  |_=>exact q2.elim⟩
end
end L3
namespace PySem
open Sem (wp)
open Builtin Builtin.ObjectAttr W
variable{vs:Array Value}{sl:Array (Option Value)}{name:Str}{tk:Tok}{cd:ClassData}{n:Nat}
section
variable {prog:Program}{w:World}{A:Around}{E:Value->Shared->Prop}{h:Heap}{g:Array GenState}{d:Drawn}{t:Nat}{os:OsState}{K:Frag}{C e dx:Addr}{m:Str->Option Value}{ns:List Str}
theorem IE{v:Value}{b:Bool}{Q:Fin->Shared->Prop}(KX:K.In h)(he:h.get? e=some ⟨.ref C,some dx,.fields vs,sl⟩)(f4:clsIn K C=some cd)(f6:cd.hasDict=true)(hn:h.Ns1 dx m)(hw:Within m ns)(hl:ns.length<=100)(hq:∀ h' tk',SameBut dx h h'->h'.Ns1 dx (λx=>if x=name then some v else m x)->Q (.done (.ret .none)) ⟨h',g,d,tk',os⟩):
  wpAny (model prog w) A (storeInOwnDict (.ref e) (.ref C) (.str name tk) name v b) Q E ⟨h,g,d,t,os⟩:=by
 have cl:=looks_clsIn (M:=model prog w) KX f4
 unfold storeInOwnDict
 refine wpAny_bind (wpAny_pure ?_)
 show wpAny _ _ (instanceDict e true >>= _) _ _ _
 unfold instanceDict
 refine wpAny_bind (wpAny_bind (wpAny_loadPart he ?_))
 show wpAny _ _ (classData C >>= _) _ _ _
 refine wpAny_bind (cl.at ?_)
 rw[f6]
 refine wpAny_pure (a:=some dx) ?_
 show wpAny _ _ (storeInDict dx (.str name tk) name v) _ _ ⟨h,g,d,t,os⟩
 unfold storeInDict newKeyGuard
 refine wpAny_bind (wpAny_pure (wpAny_bind (wpAny_nsSet1 hn λh' n1 same=>?_)))
 obtain⟨oD,eD,pD,oDh,dD,cD⟩:=n1.count (Within.cons name v hw)
 refine wpAny_bind (wpAny_lookBehind oDh (by rw[dD];exact pastItsLine_dict (le_trans cD (by rw[List.length_cons,sizeLine_eq];omega))) ?_)
 exact wpAny_pure (hq h' _ same n1)
theorem UJ{v:Value}{R:Result->Shared->Prop}(KX:K.In h)(he:h.get? e=some ⟨.ref C,some dx,.fields vs,sl⟩)(f2:findIn K (.ref C) name=some none)(f3:mroIn K C (.type "object")=some true)(f4:clsIn K C=some cd)(f5:Vn n cd.mro=true)(f6:cd.hasDict=true)(hn:h.Ns1 dx m)(hw:Within m ns)(hl:ns.length<=100)(hq:∀ h' tk',SameBut dx h h'->h'.Ns1 dx (λx=>if x=name then some v else m x)->R (.ok (.ret .none)) ⟨h',g,d,tk',os⟩):
  codeAny (model prog w) A (.call (.builtin "object.__setattr__") ⟨[.ref e,.str name tk,v],[]⟩) R ⟨h,g,d,t,os⟩:=by
 have L0:Looks (model prog w) h (typeOf (.ref e)) (.ref C):=(Looks.ld he).andThen .now
 have L2:=looks_findIn (M:=model prog w) KX f2
 have L3:Looks (model prog w) h (isInstance (.ref e) (.type "object")) true:=L0.andThen (looks_mroIn KX f3)
 have L4:Looks (model prog w) h (mroOf (.ref C)) cd.mro:=(looks_clsIn KX f4).andThen .now
 have SF:=F.store_object
 refine codeAny_call_builtin SF.slot.plain SF.entry (@check_slot (model prog w) _ _ ⟨h,g,d,t,os⟩ "object.__setattr__" "object" "__setattr__" (.ref e) [.str name tk,v] [] _ SF.kind SF.split L3 (SF.args (.ref e) (.str name tk) v) ?_)
 rw[osa_eq,refuse_eq]
 refine wpAny_bind (wpAny_bind (L0.at (wpAny_bind (L4.at ?_))))
 rw[Tk _ f5]
 refine wpAny_pure (wpAny_bind (L0.at (wpAny_bind (L2.at (wpAny_bind (wpAny_pure (a:=(none:Option Value)) ?_))))))
 exact IE KX he f4 f6 hn hw hl λh' tk' a b=>hq h' tk' a b
theorem Sz{v:Value}{Q:Unit->Shared->Prop}(KX:K.In h)(he:h.get? e=some ⟨.ref C,some dx,.fields vs,sl⟩)(f1:findIn K (.ref C) "__setattr__"=some (some (.builtin "object.__setattr__")))(f2:findIn K (.ref C) name=some none)(f3:mroIn K C (.type "object")=some true)(f4:clsIn K C=some cd)(f5:Vn n cd.mro=true)(f6:cd.hasDict=true)(hn:h.Ns1 dx m)(hw:Within m ns)(hl:ns.length<=100)(hq:∀ h' tk',SameBut dx h h'->h'.Ns1 dx (λx=>if x=name then some v else m x)->Q () ⟨h',g,d,tk',os⟩):
  wpAny (model prog w) A (setAttr (.ref e) name v) Q E ⟨h,g,d,t,os⟩:=by
 have L0:Looks (model prog w) h (typeOf (.ref e)) (.ref C):=(Looks.ld he).andThen .now
 have L1:=looks_findIn (M:=model prog w) KX f1
 unfold setAttr callSpecial? specialOf
 repeat (first|with_reducible refine wpAny_call ?_|lk)
 refine UJ KX he f2 f3 f4 f5 f6 hn hw hl λh' tk' a b=>?_
 exact wpAny_pure (wpAny_pure (hq h' tk' a b))
end
end PySem
namespace L2
open PySem PySem.Spec PyProof.Rows
def Nm:V->Prop
 | .int i=>i.natAbs.log2<1920/\(toString i:Str).length<=1000
 | .str x=>(reprText x).length<=1000
 | .non=>True
 |_=>False
structure PJ(X:Cx)(parts:List Expr)(P:St->Prop)(b:Nat):Prop where
 h:∀ (pins:List (Addr×Obj)) (s:Shared) (σ:St) (H:Hp) (acc:Str) (Q:Value->Shared->Prop),Inv X pins σ H s->P σ->acc.length+b<=sizeLine->(∀ s' z tk,Inv X pins σ H s'->Q (.str z tk) s')->wpAny (model X.prog X.w) X.A (joinParts acc (evalEach parts X.env)) Q X.xe s
variable{X:Cx}{w:World}{A:Around}{s:Shared}{x:Str}
section
variable {pos p:Pos}{parts:List Expr}{P:St->Prop}{b:Nat}
theorem Cp(x y:Str):(x++y).length=x.length+y.length:=by
 show(x++y).cps.size=_
 rw[Str.cps_append,size_append]
 rfl
theorem MX:PJ X [] (λ_=>True) 0:=⟨λpins s σ H acc Q I _ hl q=>joinParts_nil (q _ _ _ (I.tok _)) (by omega)⟩
theorem Hv{z:Str}{j}(h:PJ X parts P b):PJ X (.Constant (.str z) j pos::parts) P (z.length+b):=⟨λpins s σ H acc Q I hp hl q=>by
 show wpAny _ _ (joinParts acc (eval (.Constant (.str z) j pos) X.env::evalEach parts X.env)) _ _ _
 refine joinParts_cons (thn (EK pins s σ H (λx H1=>x=.str z/\H1=H) I ⟨rfl,rfl⟩) λu s1 ⟨x,H1,I1,r1,e1,e2⟩=>?_)
 subst e1 e2
 obtain⟨tk,rfl⟩:=r1
 have e:=Cp acc z
 exact⟨by omega,h.h pins s1 σ _ _ Q I1 hp (by omega) q⟩⟩
theorem LO{prog:Program}{E:Value->Shared->Prop}{v:V}{u:Value}{Q:Value->Shared->Prop}(hs:Nm v)(r:RelV v u)(h:∀ z tk t',z.length<=1000->Q (.str z tk) {s with toks:=t'}):
  wpAny (model prog w) A (pyReprObj u) (λr s₂=>wpAny (model prog w) A (formatField r Str.empty) Q E s₂) E s:=by
 have fin:∀ (z:Str) (tk:Tok) (t1:Nat),z.length<=1000->wpAny (model prog w) A (formatField (.str z tk) Str.empty) Q E {s with toks:=t1}:=λz tk t1 hz=>
  formatField_str (λt' tk'=>h z t' tk' hz) (by rw[sizeLine_eq];omega)
 cases v with
 |int n=>
  obtain⟨tk,rfl⟩:=r
  exact wpAny_pyReprObj_gives (T:="int") (by first|rfl|trivial) F.slot_int_repr F.entry_int_repr (F.args_int_repr_1 _) (gives_int_repr n tk hs.1) (fin _ _ _ hs.2) rfl (by have:=hs.2;rw[sizeLine_eq];omega)
 |str x=>
  obtain⟨tk,rfl⟩:=r
  exact pyReprObj_str (fin _ _ _ hs) (by have:(reprText x).length<=1000:=hs;rw[sizeLine_eq];omega)
 |non=>
  cases (show u=Value.none from r)
  exact wpAny_pyReprObj_gives (T:="NoneType") (by first|rfl|trivial) F.slot_NoneType_repr F.entry_NoneType_repr (F.args_NoneType_repr_1 _) gives_none_repr (fin _ _ _ (by decide)) rfl (by decide)
 |_=>exact hs.elim
theorem SC(i:Nat)(h:PJ X parts P b)(hN:X.N[i]? =some x)(hv:Br X.env.scope x)(hd:(x==("__debug__":Str))=false:=by decide)(hcd:(x==("__classdict__":Str))=false:=by decide):
  PJ X (.FormattedValue (.Name x p) 114 none pos::parts) (λσ=>(∃ v,σ[i]? =some (some v)/\Nm v)/\P σ) (1000+b):=⟨λpins s σ H acc Q I ⟨⟨v,hn,hs⟩,hp⟩ hl q=>by
 show wpAny _ _ (joinParts acc (eval (.FormattedValue (.Name x p) 114 none pos) X.env::evalEach parts X.env)) _ _ _
 refine joinParts_cons (wpAny_FormattedValue_repr (thn (Pd hN hv hd hcd pins s σ H (λy H1=>y=v/\H1=H) I ⟨v,hn,rfl,rfl⟩) λu s2 ⟨y,H2,I2,r2,e1,e2⟩=>?_))
 subst e1 e2
 refine LO hs r2 λz tk t' hz=>?_
 have e:=Cp acc z
 exact⟨by omega,h.h pins _ σ _ _ Q (I2.tok _) hp (by omega) q⟩⟩
theorem IQ{v1 v2:Expr}{rest:List Expr}(h:PJ X (v1::v2::rest) P b)(hb:b<=10000):PE X (.JoinedStr (v1::v2::rest) pos) (λσ H Q=>P σ/\∀ z,Q (.str z) H):=by
 intro pins s σ H Q I ⟨hp,q⟩
 refine JoinedStr_many ?_
 exact h.h pins s σ H Str.empty _ I hp (by rw[sizeLine_eq];show 0+b<=_;omega) λs' z tk I'=>⟨.str z,H,I',⟨tk,rfl⟩,q z⟩
end
variable{P:Program}{C f:Addr}{kvs:List (Str×V)}{attr:Str}{H:Hp}
section
variable {apos:Pos}{o:Expr}{to:TE}{S:Addr}
theorem HG{m:Str->Option Value}(h:∀ y,RelO (kvs.lookup y) (m y)):Within m (kvs.map (·.1)):=λy hy=>by
 have:=h y
 cases hk:kvs.lookup y with
 |none=>rw[hk]at this;cases hm:m y with
  |none=>exact absurd hm hy
  |some u=>rw[hm]at this;exact this.elim
 |some v=>
  have:∀ (l:List (Str×V)),l.lookup y=some v->y∈l.map (·.1):=by
   intro l
   induction l with
   |nil=>intro e;cases e
   |cons p l ih=>
    intro e
    obtain⟨k,u⟩:=p
    rw[lookup_cons]at e
    cases hb:y==k with
    |true=>rw[show y=k by simpa using hb];exact mem_cons_self
    |false=>rw[hb]at e;exact mem_cons_of_mem _ (ih e)
  exact this kvs hk
theorem Qx{y:Str}{v:V}(hn:kvs.lookup attr=none):(kvs++ [(attr,v)]).lookup y=if y=attr then some v else kvs.lookup y:=by
 induction kvs with
 |nil=>
  rw[nil_append,lookup_cons,List.lookup_nil]
  by_cases hy:y=attr
  .subst hy;simp
  .have:(y==attr)=false:=by simp[hy]
   rw[this,if_neg hy]
 |cons p l ih=>
  obtain⟨k,u⟩:=p
  rw[lookup_cons]at hn
  rw[cons_append,lookup_cons,lookup_cons]
  cases hk:attr==k with
  |true=>rw[hk]at hn;cases hn
  |false=>
   rw[hk]at hn
   cases hb:y==k with
   |true=>
    have e:y=k:=by simpa using hb
    have:y≠attr:=λz=>by
     have:attr==k:=by simp[<-z,e]
     rw[this]at hk;cases hk
    rw[if_neg this]
   |false=>exact ih hn
def MG(d:Addr)(kvs:List (Str×V))(h:Heap):Prop:=∃ mA,h.Ns1 d mA/\∀ f,RelO (kvs.lookup f) (mA f)
theorem JP{h:Heap}{d:Addr}(x:MG d kvs h):ObjOk P w H h d (.ext (MG d kvs)):=by
 obtain⟨m,ns,r⟩:=x
 exact⟨⟨m,ns,r⟩,let ⟨o,_,_,e,_⟩:=ns;⟨o,e⟩,λh1 h2 ⟨m1,n1,r1⟩ k=>⟨m1,n1.at λo e=>k o e,r1⟩⟩
theorem LQ(hex:X.ex= [])(Z:XInit X.K C S f)(hna:findIn X.K (.ref C) attr=some none)(ho:PE X o to):
  PG X (.Attribute o attr apos) (λv σ H Q=>to σ H λx H1=>∃ a,x=.ref a/\H1 a=some (.ext (Lm a C))/\∀ d,H1 d=none->X.s₀.heap.get? d=none->Q σ (Eb (Eb H1 a (.ext (Aj a C (some d)))) d (.ext (MG d [(attr,v)])))):=by
 intro pins s σ H v u Q I r h
 rw[arm_assign_Attribute]
 refine wpAny_bind (wpAny_holding (thn (ho pins s σ H _ I h) λov s1 ⟨x,H1,I1,r1,a,ex,hH,q⟩=>?_))
 subst ex
 obtain rfl:ov=.ref a:=r1
 obtain⟨⟨t0,sl,he⟩,_,_⟩:=I1.hok a _ hH
 obtain⟨cd,n,c1,c2,c3⟩:=Z.cl
 obtain⟨hp,g,d,tk,os⟩:=s1
 refine wpAny_bind (wpAny_standAt (wpAny_bind (wpAny_holding (JE I1.kIn he Z.sa hna Z.ob c1 c2 c3 λh' tk' dx k ge le ns=>?_))))
 have I3:=I1.write (h':=h') (t':=tk') (x:=a) (e:=a) (o:=.ext (Aj a C (some dx))) (by rw[hH];trivial) (.inl rfl) k ⟨_,ge⟩ (WN ⟨t0,sl,ge⟩)
 have hd1:H1 dx=none:=I1.hok.fresh le
 have hdn:hp.get? dx=none:=Heap.get?_none_of_le le
 have hd0:X.s₀.heap.get? dx=none:=by
  cases z:X.s₀.heap.get? dx with
  |none=>rfl
  |some o=>
   obtain⟨o',e'⟩:=I1.base.there dx o z (by rw[hex];simp)
   rw[show _=hp.get? dx from rfl]at e'
   rw[hdn]at e';cases e'
 have hda:dx≠a:=λz=>by rw[z,hH]at hd1;cases hd1
 have I4:=JI (u:=.ext (MG dx [(attr,v)])) I1 I3 hex hdn (by rw[Da hda];exact hd1) (JP ⟨_,ns,λy=>by
  by_cases hy:y=attr
  .subst hy
   simp only[lookup_cons,beq_self_eq_true,if_true]
   exact r
  .have:(y==attr)=false:=by simp[hy]
   simp only[lookup_cons,this,List.lookup_nil,if_neg hy]
   trivial⟩)
 exact wpAny_release ⟨σ,_,I4,q dx hd1 hd0⟩
theorem KQ(Z:XInit X.K C S f)(hna:findIn X.K (.ref C) attr=some none)(ho:PE X o to):
  PG X (.Attribute o attr apos) (λv σ H Q=>to σ H λx H1=>∃ a d kvs,x=.ref a/\H1 a=some (.ext (Aj a C (some d)))/\H1 d=some (.ext (MG d kvs))/\kvs.lookup attr=none/\kvs.length<=50/\Q σ (Eb H1 d (.xd (kvs++ [(attr,v)])))):=by
 intro pins s σ H v u Q I r h
 rw[arm_assign_Attribute]
 refine wpAny_bind (wpAny_holding (thn (ho pins s σ H _ I h) λov s1 ⟨x,H1,I1,r1,a,dx,kvs,ex,hH,hd,hk,hl,q⟩=>?_))
 subst ex
 obtain rfl:ov=.ref a:=r1
 obtain⟨⟨t0,sl,he⟩,_,_⟩:=I1.hok a _ hH
 obtain⟨⟨mA,ns,rr⟩,_,_⟩:=I1.hok dx _ hd
 obtain⟨cd,n,c1,c2,c3⟩:=Z.cl
 obtain⟨hp,g,d,tk,os⟩:=s1
 refine wpAny_bind (wpAny_standAt (wpAny_bind (wpAny_holding (Sz I1.kIn he Z.sa hna Z.ob c1 c2 c3 ns (HG rr) (by rw[length_map];omega) λh' tk' same ns'=>?_))))
 have I3:=I1.write (h':=h') (t':=tk') (x:=dx) (e:=dx) (o:=.xd (kvs++ [(attr,v)])) (by rw[hd];trivial) (.inl rfl) (λb o hb e=>(same.2 b hb).trans e) (by obtain⟨o,_,_,e,_⟩:=ns';exact⟨o,e⟩) ⟨_,ns',λy=>by
  rw[Qx hk]
  by_cases hy:y=attr
  .rw[if_pos hy,if_pos hy];exact r
  .rw[if_neg hy,if_neg hy];exact rr y⟩
 exact wpAny_release ⟨σ,_,I3,q⟩
end
structure RoomH(k:Nat)(A:Around):Prop where
 dp:A.depth+3*k+5<recursionLimit
 un:A.units+16*k+200<cLine
 gd:A.guards=some []
variable{k:Nat}
theorem Room.h(r:Room k A):RoomH k A:=⟨r.dp,r.un,r.gd⟩
theorem RoomH.mono{j:Nat}(r:RoomH k A)(h:j<=k):RoomH j A:=⟨by have:=r.dp;omega,by have:=r.un;omega,r.gd⟩
theorem RoomH.deeper(r:RoomH (k+1) A)(env:Env):RoomH k (A.deeper env):=
 ⟨by have:=r.dp;show A.depth+1+3*k+5<_;omega,by have:=r.un;show A.units+3+16*k+200<_;omega,r.gd⟩
theorem RoomH.make(r:RoomH (k+1) A)(C:Addr)(us:List Value)(kw:List (Str×Value)):RoomH k (A.under (.builtin "type.__call__" ⟨.ref C::us,kw⟩)):=
 ⟨by have:=r.dp;rw[Gq];omega,by have:=r.un;rw[Hq];omega,by first|exact r.gd|(simpa [Around.under,Code.guards,pushGuards] using r.gd)⟩
theorem RoomH.depth(r:RoomH k A):A.depth<recursionLimit:=by have:=r.dp;omega
abbrev KZ(CX:Vt)(P:Program)(w:World)(K:Frag)(mg:Str->Option Value)(base:Heap)(N:List Str)(qual:Str)(scope:Scope)(f:Addr)(cd:Value)(A:Around)(outer:List Env)(s:Shared)(H:Hp)(E:XK):Cx:= {Ak CX P w K mg base N qual scope f cd A outer s H E with calm:=false}
structure FnOkH(P:Program)(w:World)(K:Frag)(mg:Str->Option Value)(base:Heap)(CX:Vt)(k:Nat)(f:Addr)(fd:FuncData)(ps:List Str)(sp:Sp):Prop where
 len:∀ vs H Q E,sp vs H Q E->vs.length=ps.length
 run:∀ (A:Around) (outer:List Env) (s:Shared) (H:Hp) (args:Args) (us:List Value) (vs:List V) (Q:VK) (E:XK),RoomH k A->Env0 P w K mg base A outer s H->BindsTo s fd args (ps.zip us)->Vals vs us->sp vs H Q E->
  codeAny (model P w) A (.call (.ref f) args) (CR CX outer P w H s Q E) s
variable{CX:Vt}{K:Frag}{mg:Str->Option Value}{base:Heap}{N ps:List Str}{qual:Str}{scope:Scope}{us:List Value}{vs:List V}
theorem AA{cd:Value}{outer:List Env}{s1:Shared}{E:XK}(S:FnScope N ps scope)(e0:Env0 P w K mg base A outer s H)(hl:vs.length=ps.length)(r:Vals vs us)(x:InCallC s s.heap.objs.size (bindL (envOfC qual scope s.heap.objs.size f cd).kindOf (ps.zip us) λ_=>none) (cellsFrom (s.heap.objs.size+1) scope.names []) (bindC (envOfC qual scope s.heap.objs.size f cd).kindOf (ps.zip us) λ_=>none) s1):
  Inv (KZ CX P w K mg base N qual scope f cd A outer s H E) [] (start N vs) H s1:=by
 have J:=Os (CX:=CX) (E:=E) (A:= {A with handled:=none}) S rfl ⟨e0.frames,e0.mod,e0.bs,e0.bsz,e0.funs,e0.frf,e0.hok,e0.bare⟩ hl r x
 exact⟨⟨J.ok.mod,J.ok.kind,J.ok.glob,J.ok.blt,J.ok.above,J.ok.inj,J.ok.has,J.ok.cab,λz=>absurd (show false=true from z) (by decide),J.ok.frames,J.ok.stk,J.ok.exf,J.ok.bs,J.ok.bsz,J.ok.noex,J.ok.exfs,J.ok.funs,J.ok.frf⟩,J.os,J.bare,J.base,J.loc,J.cell,J.free,J.freeC,J.pin,J.hok,J.len⟩
variable{sp:Sp}
theorem EV{name:Str}{params:Arguments}{body:List Stmt}{dV kV doc pm cdv ct oc:Value}{an od:Option Addr}{osl:Array (Option Value)}(lk:K.lookup f=some ⟨oc,od,.func (fnOf name qual params body scope dV kV doc pm an cdv ct),osl⟩)(hcd:codeIn K cdv qual=true)(S:FnScope N ps scope)(len:∀ vs H Q E,sp vs H Q E->vs.length=ps.length)(hbody:∀ (A:Around) (outer:List Env) (s:Shared) (H:Hp) (vs:List V) (Q:VK) (E:XK),RoomH k (A.deeper (envOfC qual scope s.heap.objs.size f cdv))->sp vs H Q E->
   ∃ t,PSs (KZ CX P w K mg base N qual scope f cdv A outer s H E) body t/\t {nx:=λ_ H'=>Q .non H',rt:=Q} (start N vs) H):
  FnOkH P w K mg base CX (k+1) f (fnOf name qual params body scope dV kV doc pm an cdv ct) ps sp:=by
 refine⟨len,λA outer s H args us vs Q E hr e0 hb r hsp=>?_⟩
 have hl:=len _ _ _ _ hsp
 have KX:K.In s.heap:=e0.mod.kin.keeps λb o e=>(e0.bs b o e).1
 have lim:s.heap.NoLimit:=e0.mod.nolimit.keeps λb o e=>(e0.bs b o e).1
 have hkind:∀ y∈ps.zip us,scope.names.lookup y.1=some .local\/(scope.names.lookup y.1=some .cell/\((cellsFrom (s.heap.objs.size+1) scope.names []).lookup y.1).isSome=true):=λ⟨n,v⟩ hy=>by
  rcases S.par n (List.of_mem_zip hy).1 with q|q
  .exact .inl q
  .exact .inr ⟨q,cellsFrom_some _ _ _ (.inl q)⟩
 refine codeAny_call_function hr.depth (KX _ _ lk) rfl S.co S.gen rfl (PySem.W.codeRec_of KX hcd) (hb _ _ _ _ ?_)
 refine wpAny_newFunctionEnv_cells S.kind hkind λenv he s1 x=>?_
 subst he
 refine⟨lim.keeps x.toInCall.keep,codeAny_func ?_⟩
 obtain⟨t,ht,hq⟩:=hbody A outer s H vs Q E (hr.deeper _) hsp
 have I:Inv (KZ CX P w K mg base N qual scope f cdv A outer s H E) [] (start N vs) H s1:=AA S e0 hl r x
 refine wpAny_mono (ht [] s1 (start N vs) H _ I hq) (λfl s' hs=>?_) λe s' hs=>hs
 have fin:∀ {σ':St} {H':Hp} {v:V} {u:Value},Inv (KZ CX P w K mg base N qual scope f cdv A outer s H E) [] σ' H' s'->RelV v u->Q v H'->CE outer P w H s Q u s':=
  λ{σ' H' v u} J rv q=>⟨v,H',J.os,J.bare,J.base,J.hok,rv,q⟩
 cases fl with
 |ret u=>
  obtain⟨v,σ',H',J,rv,q⟩:=hs
  exact fin J rv q
 |next=>
  obtain⟨σ',H',J,q⟩:=hs
  exact fin (v:=V.non) (u:=Value.none) J rfl q
 |brk=>
  obtain⟨_,_,_,q⟩:=hs
  exact False.elim q
 |cont=>
  obtain⟨_,_,_,q⟩:=hs
  exact False.elim q
variable{fd:FuncData}
theorem Fun.okH{st:Stmt}(F:Fun K x qual st f fd)(S:FnScope N ps (Ca st))(len:∀ vs H Q E,sp vs H Q E->vs.length=ps.length)(hbody:∀ (cdv:Value) (A:Around) (outer:List Env) (s:Shared) (H:Hp) (vs:List V) (Q:VK) (E:XK),RoomH k (A.deeper (envOfC qual (Ca st) s.heap.objs.size f cdv))->sp vs H Q E->
   ∃ t,PSs (KZ Al P w K mg base N qual (Ca st) f cdv A outer s H E).nox (Va st) t/\t {nx:=λ_ H'=>Q .non H',rt:=Q} (start N vs) H):FnOkH P w K mg base Al (k+1) f fd ps sp:=by
 obtain⟨oc,od,kV,doc,pm,an,cdv,ct,osl,rfl,lk,hcd⟩:=F.ex
 refine EV lk hcd S len λA outer s H vs Q E hr hsp=>?_
 obtain⟨t,h,q⟩:=hbody cdv A outer s H vs Q E hr hsp
 exact⟨t,h.nox,q⟩
section
variable {S:Addr}
theorem QK{pins:List (Addr×Obj)}{σ:St}{Q:VK}(Z:XInit X.K C S f)(F:FnOkH X.prog X.w X.K X.mg X.base Al k f fd ps sp)(hr:RoomH (k+1) X.A)(hb:Binds X.K fd ps [])(I:Inv X pins σ H s)(r:Vals vs us)(hz:us.length<=sizeLine)(h:∀ a,H a=none->s.heap.get? a=none->sp (.ref a::vs) (Eb H a (.ext (Lm a C))) (λv H2=>v=.non/\Q (.ref a) H2) E0):
  wpAny (model X.prog X.w) X.A (call (.ref C) us) (EP X pins σ Q) X.xe s:=by
 have hq:=h (s.heap.objs.size+1) (I.hok.fresh (le_succ _)) (Heap.get?_none_of_le (le_succ _))
 obtain⟨nm,qn,N,bs,bm,hdct,sn,sub,ab,col,dd,k0,k1,k2,k3,k5,lk,ok,ni,tl⟩:=Z.obj
 have ns:=Heap.Ns.of_isNs (PySem.W.isNs_of_in I.kIn ok)
 have hi:s.heap.nsMap N "__init__"=some (.ref f):=JW I.kIn ns ni
 have I2:Inv X pins σ (Eb H (s.heap.objs.size+1) (.ext (Lm (s.heap.objs.size+1) C))) {s with heap:=Th s.heap C us}:=
  I.laid (h':=Th s.heap C us) (t':=s.toks) (λb o z=>Uh z) (le_succ _) (VB ⟨_,_,As us⟩)
 have r2:Vals (V.ref (s.heap.objs.size+1)::vs) (Value.ref (s.heap.objs.size+1)::us):=.cons rfl r
 have hl:(Value.ref (s.heap.objs.size+1)::us).length=ps.length:=by
  have e:=r2.length
  rw[F.len _ _ _ _ hq]at e
  exact e.symm
 have run:=F.run _ X.stack _ _ ⟨Value.ref (s.heap.objs.size+1)::us,[]⟩ (Value.ref (s.heap.objs.size+1)::us) _ _ E0 (hr.make C us []) (I2.env0.make C us []) (by
  have:=hb _ (Value.ref (s.heap.objs.size+1)::us) I2.kIn (by simpa using hl)
  simpa using this) r2 hq
 obtain⟨hp,g,d,tk,os⟩:=s
 refine YG PySem.F.excBase_ValueError (tail_of_in I.kIn tl) (I.kIn _ _ lk) ns hi hz (λself=>PySem.W.bind_fn I.kIn self Z.ini) (codeAny_mono run λrr s' z=>?_)
 cases rr with
 |error e=>exact False.elim z
 |ok fl=>
  cases fl with
  |ret u=>
   obtain⟨v,H',I3,rv,ev,q3⟩:=I2.after z
   subst ev
   exact⟨rv,⟨V.ref (hp.objs.size+1),H',I3,rfl,q3⟩⟩
  |next=>exact False.elim z
  |brk=>exact False.elim z
  |cont=>exact False.elim z
end
end L2
namespace L3
open PySem PySem.Spec PyProof.Rows L2 SeqAt
def SmallK:Bool->V->Prop
 |true,v=>∃ n,v=.int n/\Nm (.int n)
 |false,v=>Nm v
theorem SmallK.v{k:Bool}{v:V}(h:SmallK k v):Nm v:=by
 cases k with
 |true=>obtain⟨n,rfl,q⟩:=h;exact q
 |false=>exact h
def SmallL:List (Str×Bool)->List V->Prop
 | [],[]=>True
 |k::ks,v::vs=>SmallK k.2 v/\SmallL ks vs
 |_,_=>False
def Y6(C:Addr)(ks:List (Str×Bool)):Sp:=λvs H Q _=>∃ a xs,vs=.ref a::xs/\SmallL ks xs/\H a=some (.ext (Lm a C))/\∀ d,H d=none->Q .non (Eb (Eb H a (.ext (Aj a C (some d)))) d (.xd ((ks.map (·.1)).zip xs)))
theorem SmallL.length:∀ {ks:List (Str×Bool)} {xs:List V},SmallL ks xs->xs.length=ks.length
 | [],[],_=>rfl
 |_::_,_::_,h=>by rw[List.length_cons,List.length_cons,SmallL.length h.2]
 | [],_::_,h=>h.elim
 |_::_,[],h=>h.elim
structure XInG(X:Cx)(C:Addr)(ks:List (Str×Bool))(sts:List Stmt):Prop where
 h:PSs X sts (λD σ H=>∃ a xs,σ[0]? =some (some (.ref a))/\(∀ i v,xs[i]? =some v->σ[i+1]? =some (some v))/\SmallL ks xs/\H a=some (.ext (Lm a C))/\∀ d,H d=none->D.nx σ (Eb (Eb H a (.ext (Aj a C (some d)))) d (.xd ((ks.map (·.1)).zip xs))))
variable{X:Cx}{C f:Addr}{x:Str}{k:Bool}
section
variable {S:Addr}{xb self y attr attr2:Str}{p1 p2 p3 p7 p8 p9 q1 q2 q3 q4 r1 r2 r3 r4:Pos}{v1 v2:Expr}{rest:List Expr}{P:L2.St->Prop}{b:Nat}{k2:Bool}
theorem JV{pl:Sem Bool}(Z:XInit X.K C S f)(hm:X.mg xb=some (.ref S))(hna:findIn X.K (.ref C) attr=some none)(hnb:findIn X.K (.ref C) attr2=some none)(hj:PJ X (v1::v2::rest) P b)(hP:∀ σ v w,σ[1]? =some (some v)->SmallK k v->σ[2]? =some (some w)->SmallK k2 w->P σ)(hne:(attr2==attr)=false:=by decide)(hb:b<=10000:=by decide)(hex:X.ex= []:=by rfl)(hg:Gl X xb:=by rfl)(hN0:X.N[0]? =some self:=by rfl)(hN1:X.N[1]? =some x:=by rfl)(hN2:X.N[2]? =some y:=by rfl)(hv0:Br X.env.scope self:=by first|exact Or.inl rfl|exact Or.inr (Or.inl rfl)|exact Or.inr (Or.inr rfl))(hv1:Br X.env.scope x:=by first|exact Or.inl rfl|exact Or.inr (Or.inl rfl)|exact Or.inr (Or.inr rfl))(hv2:Br X.env.scope y:=by first|exact Or.inl rfl|exact Or.inr (Or.inl rfl)|exact Or.inr (Or.inr rfl))(d0:(self==("__debug__":Str))=false:=by decide)(d1:(x==("__debug__":Str))=false:=by decide)(d2:(xb==("__debug__":Str))=false:=by decide)(d3:(y==("__debug__":Str))=false:=by decide)(e0:(self==("__classdict__":Str))=false:=by decide)(e1:(x==("__classdict__":Str))=false:=by decide)(e2:(y==("__classdict__":Str))=false:=by decide)(s1:starEach [.Name self p3, .JoinedStr (v1::v2::rest) p7] X.env=(false,eval (.Name self p3) X.env)::starEach [.JoinedStr (v1::v2::rest) p7] X.env:=by rfl)(s2:starEach [.JoinedStr (v1::v2::rest) p7] X.env=(false,eval (.JoinedStr (v1::v2::rest) p7) X.env)::starEach [] X.env:=by rfl)(hpl:(backTo p8 (starEach [.JoinedStr (v1::v2::rest) p7] X.env)).any (·.1)=false:=by rfl)(hkw:backToKw p8 (keywordEach [] X.env)= []:=by rfl)(ht:eval (.Call (.Attribute (.Name xb p1) "__init__" p2) [.Name self p3, .JoinedStr (v1::v2::rest) p7] [] p8) X.env=(do
   let ov <-eval (.Name xb p1) X.env
   standAt p2.atName
   let (f,first) <-holding [ov] (getMethod ov "__init__" pl)
   callWith p8 f first (backTo p8 (starEach [.Name self p3, .JoinedStr (v1::v2::rest) p7] X.env)) (backToKw p8 (keywordEach [] X.env))):=by rfl)(w1:swapsWith (.Call (.Attribute (.Name xb p1) "__init__" p2) [.Name self p3, .JoinedStr (v1::v2::rest) p7] [] p8) none p9.line X.env=pure false:=by rfl)(w2:swapsWithSole [.Attribute (.Name self q1) attr q2] (.Name x q3) q4.line X.env=pure false:=by rfl)(w3:swappedStores [.Attribute (.Name self q1) attr q2] (.Name x q3) X.env=pure none:=by rfl)(w4:(assignEach [.Attribute (.Name self q1) attr q2] X.env).map (·.2)= [assign (.Attribute (.Name self q1) attr q2) X.env]:=by rfl)(w5:swapsWithSole [.Attribute (.Name self r1) attr2 r2] (.Name y r3) r4.line X.env=pure false:=by rfl)(w6:swappedStores [.Attribute (.Name self r1) attr2 r2] (.Name y r3) X.env=pure none:=by rfl)(w7:(assignEach [.Attribute (.Name self r1) attr2 r2] X.env).map (·.2)= [assign (.Attribute (.Name self r1) attr2 r2) X.env]:=by rfl):
  XInG X C [(attr,k),(attr2,k2)] [.Expr (.Call (.Attribute (.Name xb p1) "__init__" p2) [.Name self p3, .JoinedStr (v1::v2::rest) p7] [] p8) p9, .Assign [.Attribute (.Name self q1) attr q2] (.Name x q3) q4, .Assign [.Attribute (.Name self r1) attr2 r2] (.Name y r3) r4]:=⟨by
 refine PSs.weak (Wl (Vl (VJ (pl:=pl) Z hg hm (Hd (Pd hN0 hv0 d0 e0) (Hd (IQ hj hb) Nh s2) s1) d2 s1 hpl hkw ht) w1) (Wl (NA (Pd hN1 hv1 d1 e1) (LQ hex Z hna (Pd hN0 hv0 d0 e0)) w2 w3 w4)
  (Jv (NA (Pd hN2 hv2 d3 e2) (KQ Z hnb (Pd hN0 hv0 d0 e0)) w5 w6 w7)))) λD σ H ⟨a,xs,h0,hx,hs,hH,q⟩=>?_
 match xs,hs with
 | [v,w],hs=>
  have h1:=hx 0 v rfl
  have h2:=hx 1 w rfl
  refine⟨.ref a,h0,hP σ v w h1 hs.1 h2 hs.2.1,λt=>⟨a,t,rfl,hH,v,h1,.ref a,h0,a,rfl,hH,λd hd _=>?_⟩⟩
  have hda:d≠a:=λz=>by rw[z,hH]at hd;cases hd
  refine⟨w,h2,.ref a,h0,a,d,[(attr,v)],rfl,by rw[Da (Ne.symm hda)];exact Ma,Ma,?_,by simp,?_⟩
  .rw[lookup_cons,hne];rfl
  .rw[ID]
   exact q d hd⟩
end
structure FnG(P:Program)(w:World)(K:Frag)(mg:Str->Option Value)(base:Heap)(k:Nat)(c:Str)(ks:List (Str×Bool)):Prop where
 ex:∃ j C S f fd ps,j+1<=k/\FnOkH P w K mg base Al j f fd ps (Y6 C ks)/\XInit K C S f/\mg c=some (.ref C)/\nsIn K mainGlobals c=some (some (.ref C))/\Binds K fd ps []
variable{P:Program}{w:World}{K:Frag}{mg:Str->Option Value}{base:Heap}{c:Str}{ks:List (Str×Bool)}
theorem FnG.mono{j k:Nat}(F:FnG P w K mg base j c ks)(h:j<=k):FnG P w K mg base k c ks:=by
 obtain⟨i,C,S,f,fd,ps,a,b⟩:=F.ex
 exact⟨i,C,S,f,fd,ps,le_trans a h,b⟩
variable{fd:FuncData}{ps:List Str}
theorem JO{k:Nat}{qual:Str}{st:Stmt}{S fa:Addr}{N:List Str}(F:Fun K "__init__" qual st fa fd)(T:FnScope N ps (Ca st))(Z:XInit K C S fa)(hm:mg c=some (.ref C))(hc:nsIn K mainGlobals c=some (some (.ref C)))(hb:Binds K fd ps [])(body:∀ (cdv:Value) (A:Around) (outer:List Env) (s:Shared) (H:Hp) (E:XK),RoomH k (A.deeper (envOfC qual (Ca st) s.heap.objs.size fa cdv))->
   XInG (KZ Al P w K mg base N qual (Ca st) fa cdv A outer s H E).nox C ks (Va st))(hps:ps.length=ks.length+1:=by rfl):FnG P w K mg base (k+1+1) c ks:=by
 refine⟨k+1,C,S,fa,fd,ps,le_refl _,F.okH T (λvs H Q E h=>?_) (λcdv A outer s H vs Q E hr h=>?_),Z,hm,hc,hb⟩
 .obtain⟨a,xs,rfl,hs,_⟩:=h
  rw[hps,List.length_cons,hs.length]
 .obtain⟨a,xs,rfl,hs,h3,q⟩:=h
  refine⟨_,(body cdv A outer s _ E hr).h,a,xs,rfl,λi v e=>?_,hs,h3,q⟩
  have hi:=(List.getElem?_eq_some_iff.mp e).1
  show((V.ref a::xs).map some++replicate _ none)[i+1]? =_
  rw[List.getElem?_append_left (by rw[length_map,List.length_cons];omega),getElem?_map,List.getElem?_cons_succ,e];rfl
def Tq:Bool->D->Bool
 |_,.int i=>decide (0<=i)&&decide (i<1000)
 |false,.str x=>decide (x.length<=60)&&x.cps.all (λc=>decide (c<1114112))
 |false,.non=>true
 |_,_=>false
def BB:List (Str×Bool)->List D->Bool
 | [],[]=>true
 |k::ks,d::ds=>Tq k.2 d&&BB ks ds
 |_,_=>false
theorem SA(h1:x.length<=60)(h2:x.cps.all (λc=>decide (c<1114112))=true):(reprText x).length<=1000:=by
 have:=StrLaws.reprText_len x λc hc=>by
  rw[<-Array.all_toList,all_eq_true]at h2
  have:=of_decide_eq_true (h2 c hc)
  exact lt_trans this (by decide)
 omega
variable{W:WS}{H:Hp}
theorem AL{d:D}{v:V}(h:Tq k d=true)(r:Has K W H d v):SmallK k v/\WK d=some v:=by
 cases d with
 |int i=>
  rw[Has]at r;subst r
  have h':(decide (0<=i)&&decide (i<1000))=true:=by cases k<;>exact h
  rw[and_eq_true,decide_eq_true_eq,decide_eq_true_eq]at h'
  have:=KR h'.1 h'.2
  cases k with
  |true=>exact⟨⟨i,rfl,this⟩,rfl⟩
  |false=>exact⟨this,rfl⟩
 |str x=>
  rw[Has]at r;subst r
  cases k with
  |true=>cases h
  |false=>
   have h':(decide (x.length<=60)&&x.cps.all (λc=>decide (c<1114112)))=true:=h
   rw[and_eq_true,decide_eq_true_eq]at h'
   exact⟨SA h'.1 h'.2,rfl⟩
 |non=>
  rw[Has]at r;subst r
  cases k with
  |true=>cases h
  |false=>exact⟨trivial,rfl⟩
 |_=>cases k<;>cases h
theorem Vy{K:Frag}{W:WS}{H:Hp}:∀ {ks:List (Str×Bool)} {ds:List D} {vs:List V},BB ks ds=true->HasL K W H ds vs->SmallL ks vs/\∀ H',ExVs H' ds vs
 | [],[],vs,_,r=>by rw[HasL]at r;subst r;exact⟨trivial,λ_=>trivial⟩
 |k::ks,d::ds,vs,h,r=>by
  rw[HasL]at r
  obtain⟨v,r',rfl,hv,hr⟩:=r
  have h':(Tq k.2 d&&BB ks ds)=true:=h
  rw[and_eq_true]at h'
  obtain⟨a,b⟩:=AL h'.1 hv
  obtain⟨c,e⟩:=Vy h'.2 hr
  exact⟨⟨a,c⟩,λH'=>⟨.inl b,e H'⟩⟩
 | [],_::_,_,h,_=>by cases h
 |_::_,[],_,h,_=>by cases h
theorem MD:∀ {ks:List (Str×Bool)} {vs:List V},SmallL ks vs->((ks.map (·.1)).zip vs).map (·.1)=ks.map (·.1)/\((ks.map (·.1)).zip vs).map (·.2)=vs
 | [],[],_=>⟨rfl,rfl⟩
 |k::ks,v::vs,h=>by
  obtain⟨a,b⟩:=MD h.2
  exact⟨by rw[map_cons,List.zip_cons_cons,map_cons,a],by rw[map_cons,List.zip_cons_cons,map_cons,b]⟩
 | [],_::_,h=>h.elim
 |_::_,[],h=>h.elim
def Es(ks:List (Str×Bool))(ds:List D):List D:=.tup (ks.map λk=>D.str k.1)::ds
def YX(c:Str)(ks:List (Str×Bool))(ds:List D):Out:=if BB ks ds=true then .ex c (Es ks ds) else .stuck
def Vj(c:Str)(ks:List (Str×Bool))(fs:Ba->Res (List D)):Ba->Out:=λδ=>Rl (fs δ) (YX c ks)
theorem AV{d:Addr}{ds:List D}{xs:List V}(h:SmallL ks xs)(e:H d=some (.xd ((ks.map (·.1)).zip xs)))(v:ExVs H ds xs):ExD H (some d) (ks.map λk=>D.str k.1) ds:=by
 obtain⟨a,b⟩:=MD h
 refine⟨d,_,rfl,e,?_,by rw[b];exact v⟩
 rw[show((ks.map (·.1)).zip xs).map (λp=>D.str p.1)=(((ks.map (·.1)).zip xs).map (·.1)).map D.str by rw[map_map];rfl,a,map_map]
 rfl
variable{σ:L2.St}
section
variable {xw:XW}{S:Addr}{k:Nat}{p pos np cpos:Pos}{e a:Expr}{es:List Expr}{t:TA}{fs:Ba->Res (List D)}
theorem FQ(Z:XInit X.K C S f)(G:FnOkH X.prog X.w X.K X.mg X.base Al k f fd ps (Y6 C ks))(hr:RoomH (k+1) X.A)(hg:Gl X x)(hm:X.mg x=some (.ref C))(hb:Binds X.K fd ps [])(hex:X.ex= [])(ha:PA X (e::es) t)(hdb:(x==("__debug__":Str))=false:=by decide)(he:starEach (e::es) X.env=(false,eval e X.env)::starEach es X.env:=by rfl)(hpl:(backTo pos (starEach es X.env)).any (·.1)=false:=by rfl)(hks:ks.length<=50:=by decide):
  PE X (.Call (.Name x p) (e::es) [] pos) (λσ H Q=>t σ H λvs H1=>SmallL ks vs/\∀ a d,H1 a=none->H1 d=none->d≠a->X.s₀.heap.get? a=none->Q (.ref a) (Eb (Eb H1 a (.ext (Aj a C (some d)))) d (.xd ((ks.map (·.1)).zip vs)))):=by
 intro pins s σ H Q I h
 refine wpAny_Call_Name_kw (Qi I hg hm ?_ hdb)
 refine callWith_K (h₀:=X.base) I.ok.mod.kin Z.kpC (thn (ha pos pins s σ H _ I h) λus s1 ⟨vs,H1,I1,r,hs,q⟩=>⟨I1.kIn,?_⟩) he hpl
 refine QK Z G hr hb I1 r (by show us.length<=_;rw[<-r.length,hs.length,sizeLine_eq];omega) λb hb1 hb2=>?_
 refine⟨b,vs,rfl,hs,Ma,λd hd=>⟨rfl,?_⟩⟩
 have hdb':d≠b:=λz=>by rw[z,Ma]at hd;cases hd
 rw[Da hdb']at hd
 rw[ID]
 refine q b d hb1 hd hdb' ?_
 cases z:X.s₀.heap.get? b with
 |none=>rfl
 |some o=>
  obtain⟨o',e'⟩:=I1.base.there b o z (by rw[hex];simp)
  rw[hb2]at e';cases e'
def K0(X:Cx)(xw:XW)(C:Addr)(c:Str)(ks:List (Str×Bool))(pre:List D):VK:=λv H'=>∃ b d H2 vs ds,v=.ref b/\H'=Eb (Eb H2 b (.ext (Aj b C (some d)))) d (.xd ((ks.map (·.1)).zip vs))/\H2 b=none/\H2 d=none/\d≠b/\X.s₀.heap.get? b=none/\SmallL ks vs/\(∀ H,ExVs H ds vs)/\xw c (pre++Es ks ds) (Eb H2 d (.xd ((ks.map (·.1)).zip vs)))
theorem N5{W₀:WS}{H₀:Hp}{δ:Ba}{Dn:Ends}{pre:List D}(st:StHas X.K W₀ H₀ W H σ δ)(q:RS X.K xw W₀ H₀ W H (Rl (fs δ) λds=>if BB ks ds=true then .ex c (pre++Es ks ds) else .stuck) Dn):
  W5 X.K xw fs σ H (λvs H1=>SmallL ks vs/\∀ b d,H1 b=none->H1 d=none->d≠b->X.s₀.heap.get? b=none->K0 X xw C c ks pre (.ref b) (Eb (Eb H1 b (.ext (Aj b C (some d)))) d (.xd ((ks.map (·.1)).zip vs)))):=by
 refine⟨W₀,H₀,W,δ,st,?_⟩
 cases hf:fs δ with
 |stuck=>rw[hf]at q;exact q
 |ex c' fs'=>rw[hf]at q;exact λH2 k2=>q H2 (st.fr.ext.trans k2)
 |ok ds=>
  rw[hf]at q
  have q':RS X.K xw W₀ H₀ W H (if BB ks ds=true then .ex c (pre++Es ks ds) else .stuck) Dn:=q
  clear q
  split at q'
  .rename_i hi
   intro vs H2 k2 hv
   obtain⟨s1,s2⟩:=Vy hi hv
   exact⟨s1,λb d hb1 hd1 hdb hb2=>⟨b,d,H2,vs,ds,rfl,rfl,hb1,hd1,hdb,hb2,s1,s2,q' _ ((st.fr.ext.trans k2).trans λx o e=>by rw[Da (Ka e hd1)];exact e)⟩⟩
  .exact q'.elim
theorem Ny(F:FnG X.prog X.w X.K X.mg X.base k c ks)(hr:Room k X.A)(hx:NG X xw)(hcalm:X.calm=true)(ha:XA X xw (a::es) fs)(hex:X.ex= []:=by rfl)(hg:Gl X c:=by rfl)(hdb:(c==("__debug__":Str))=false:=by decide)(he:starEach (a::es) X.env=(false,eval a X.env)::starEach es X.env:=by rfl)(hpl:(backTo cpos (starEach es X.env)).any (·.1)=false:=by rfl)(hks:ks.length<=50:=by decide):
  XS X xw (.Raise (some (.Call (.Name c np) (a::es) [] cpos)) none pos) (Vj c ks fs):=⟨by
 obtain⟨j,C,S,f,fd,ps,hj,G,Z,hm,hn,hb⟩:=F.ex
 intro pins s σ H Dn I ⟨W₀,H₀,W,δ,st,q⟩
 have rd:=N5 (C:=C) (pre:= []) st q
 obtain⟨nm,qn,N,bs,bm,hdct,sn,sub,ab,col,dd,k0,k1,k2,k3,k5,lk,_,_,tl⟩:=Z.obj
 have T:=tail_of_in I.kIn tl
 rw[arm_exec_Raise]
 refine wpAny_bind (wpAny_standAt (QA (C:=C) (nm:=nm) (q:=qn) (N:=N) (bs:=bs) (bm:=bm) (hdct:=hdct) (sn:=sn) (sub:=sub) (ab:=ab) (col:=col) (dd:=dd) (k0:=k0) (k1:=k1) (k2:=k2) (k3:=k3) (k5:=k5) (newId:="ValueError.__new__") (T.hasType PySem.F.excBase_ValueError.hasBase) (I.ok.hd hcalm) ?_))
 refine wpAny_bind (thn (FQ Z G (hr.h.mono hj) hg hm hb hex ha.h hdb he hpl hks pins s σ H (K0 X xw C c ks []) I rd) λv s1 ⟨y,H1,I1,r,b,d,H2,vs,ds,ey,eH,h1,hd1,hdb',h2,hs,hv,qx⟩=>?_)
 subst ey eH
 obtain rfl:v=.ref b:=r
 have hbb:Eb (Eb H2 b (.ext (Aj b C (some d)))) d (.xd ((ks.map (·.1)).zip vs)) b=some (.ext (Aj b C (some d))):=by rw[Da (Ne.symm hdb')];exact Ma
 obtain⟨⟨t0,sl,hb'⟩,_,_⟩:=I1.hok b _ hbb
 refine wpAny_bind (wpAny_standAt (wpAny_pure ?_))
 refine⟨b,some d,t0,sl,rfl,I1.kIn _ _ lk,hb',?_⟩
 exact hx pins σ _ s1 b C (some d) c (Es ks ds) I1 hbb h2 hn (by rw[Qw h1 hdb'];exact⟨rfl,AV hs Ma (hv _)⟩) (by rw[Qw h1 hdb'];exact qx)⟩
end
theorem FI{i:Nat}{v:V}(h:σ[i]? =some (some v))(s:SmallK k v):∃ v,σ[i]? =some (some v)/\Nm v:=⟨v,h,s.v⟩
end L3
namespace PySem
open Sem (wp)
section
variable {prog:Program}{w:World}{A:Around}{E:Value->Shared->Prop}{s:Shared}{env:Env}
variable {nm q:Str}{C N:Addr}{bs bm:List Value}{hdct:Bool}{sn:List Str}{sub:List Value}{ab:Bool}{col:Option Bool}{dd:Option Addr}{k0 k1 k2 k3 k5:Option Value}{newId:String}
end
end PySem
namespace L3
open PySem PySem.Spec PyProof.Rows L2 SeqAt
variable{X:Cx}{pins:List (Addr×Obj)}{σ:L2.St}{H:Hp}{s:Shared}{C:Addr}{A:Around}{Ex:Value->Shared->Prop}
section
variable {s1:Shared}{b:Addr}{cls a0:Value}{dx:Option Addr}{M:Model}{Q:Unit->Shared->Prop}
end
variable{xw:XW}{k:Nat}{c:Str}{ks:List (Str×Bool)}{np cpos pos:Pos}{a:Expr}{es:List Expr}
section
variable {ar:Addr}{p:Pos}{j:Nat}{fs:Ba->Res (List D)}
end
variable{pos2 p2:Pos}{st:Stmt}{x:Str}
section
variable {ea:Expr}{eas:List Expr}{fs fa:Ba->Res (List D)}{p hpos tpos np2 cpos2:Pos}{orelse:List Stmt}{k2 nn jj:Nat}{C n c2:Str}{m:List D->Res D}{gK:D->Ba->Out}{go:Ba->Out}
end
variable{W:WS}
section
variable {p:Pos}{fa:Ba->Res D}
end
variable{K:Frag}{W₀:WS}{H₀:Hp}
section
variable {W1:WS}{H1:Hp}{Dn:Ends}
def RZ(K:Frag)(W₀:WS)(H₀:Hp)(ks:List Bb)(ds:List D)(Q:V->Hp->Prop):Prop:=∀ a kvs H',Same H₀ H'->H₀ a=none->H' a=some (.dK kvs)->kvs.map (·.1)=ks->HasL K (λb=>W₀ b\/b=a) H' ds (kvs.map (·.2))->Q (.ref a) H'
def F7(K:Frag)(xw:XW)(W₀:WS)(H₀:Hp)(W:WS)(H:Hp)(o:Out)(Dn:Ends):Prop:=match o with
 | .rt (.dct ks ds)=>RZ K W₀ H₀ ks ds Dn.rt
 |o=>RS K xw W₀ H₀ W H o Dn
def A6(K:Frag)(xw:XW)(g:Ba->Out):TS:=λDn σ H=>∃ W₀ H₀ W δ,StHas K W₀ H₀ W H σ δ/\F7 K xw W₀ H₀ W H (g δ) Dn
end
structure NoQ(g:Ba->Out):Prop where
 h:∀ δ ks ds,g δ≠ .rt (.dct ks ds)
section
variable {sts:List Stmt}{g1 g2:Ba->Out}{p:Pos}
structure XSQ(X:Cx)(xw:XW)(sts:List Stmt)(g:Ba->Out):Prop where
 h:PSs X sts (A6 X.K xw g)
def S5(K:Frag)(n:Nat)(m:List D->Res D):Sp:=λvs H Q E=>vs.length=n/\∃ W ds,WL W H/\HasL K W H ds vs/\match m ds with
 | .ok (.dct ks fs)=>RZ K W H ks fs Q
 | .ok d=>∀ v H',Same H H'->Has K W H' d v->Q v H'
 | .ex c fs=>∀ cls dx H',nsIn K mainGlobals c=some (some cls)->Same H H'->ExF H' dx fs->E cls dx H'
 | .stuck=>False
structure FnQX(P:Program)(w:World)(K:Frag)(mg:Str->Option Value)(base:Heap)(k:Nat)(x:Str)(n:Nat)(m:List D->Res D):Prop where
 ex:∃ f fd ps,FnOk P w K mg base (ND P w) k f fd ps (S5 K n m)/\mg x=some (.ref f)/\keepIn K (.ref f)=true/\Binds K fd ps []
end
theorem Zo:∀ {xs:List V} {us:List Value},xs.length=us.length->(∀ (i:Nat) (x:V) (u:Value),xs[i]? =some x->us[i]? =some u->RelV x u)->Vals xs us
 | [],[],_,_=>.nil
 | [],_::_,h,_=>by simp at h
 |_::_,[],h,_=>by simp at h
 |x::xs,u::us,h,r=>.cons (r 0 x u rfl rfl) (Zo (by simpa using h) λi y v e1 e2=>r (i+1) y v (by simpa using e1) (by simpa using e2))
variable{e:Expr}{f:Ba->Res D}
section
variable {p:Pos}
theorem ZJ{te:TE}(hc:X.calm=true)(hm:X.mg "list"=none)(hg:Gl X "list")(h:PE X e te)(he:starEach [e] X.env=(false,eval e X.env)::starEach [] X.env)(hpl:(backTo pos (starEach [] X.env)).any (·.1)=false):
  PE X (.Call (.Name "list" p) [e] [] pos) (λσ H Q=>te σ H λx H1=>∃ a o kvs,x=.ref a/\H1 a=some (.frz o (.dK kvs))/\kvs.length<=sizeLine/\∀ n,H1 n=none->Q (.ref n) (Eb H1 n (.lst (kvs.map λq=>kV q.1)))):=by
 intro pins s σ H Q I q
 refine wpAny_Call_Name_kw (Lf I hg hm (show bootBuiltins "list"=some (.type "list") by decide +kernel) ?_ (by decide) (by decide))
 refine PyProof.Rows.callWith_type1 ?_ he hpl
 rw[he]
 show wpAny _ _ (spliced ((false,eval _ X.env)::backTo pos (starEach [] X.env))) _ _ s
 refine Calls.spliced_cons (thn (h pins s σ H _ I q) λv s1 ⟨x,H1,I1,r1,q1⟩=>?_)
 refine Calls.spliced_nil ?_
 obtain⟨a,o,kvs,rfl,hq,hn,qn⟩:=q1
 cases r1
 obtain⟨h1',_,hS,vs',r',o',es,ep,g1,g2,g3,g4⟩:=(show _/\_ from I1.hok a _ hq)
 rw[h1']at g1;cases g1
 obtain⟨hs,vs,rel,dat⟩:=Zp I1.hok hq g3
 refine PySem.W.kdl_call (s:=s1) (PySem.W.kdl_dict (prog:=X.prog) (w:=X.w) (d:=a) (knd:=Uc X.prog X.w) (kvs:=vs) (ep:=ep) hs) (I1.ok.hd hc) dat (by rw[<-Pi rel];exact hn) λh' tk acc' c' kk hS hacc=>?_
 obtain⟨e1,e2⟩:=hacc
 have hv:Vals (kvs.map λq=>kV q.1) acc'.toList:=by
  refine Zo (by have:=Pi rel;have e9:acc'.toList.length=vs.length:=e1;rw[length_map,e9];exact this) λi x u hx hu=>?_
  rw[getElem?_map]at hx
  obtain⟨q,hq',rfl⟩:=map_eq_some_iff.mp hx
  rw[getElem?_toList]at hu
  obtain⟨k,y,ek,hk⟩:=e2 i u hu
  obtain⟨y2,e3,_⟩:=UI rel hq'
  rw[e3]at ek
  cases ek
  exact BA hk
 refine⟨.ref _,_,I1.laid (t':=tk) (o:=.lst (kvs.map λq=>kV q.1)) (λb u e=>kk b u e) (le_refl _) ?_,rfl,qn _ I1.fresh⟩
 exact⟨by rw[length_map];exact hn,acc'.toList,c',hv,hS⟩
def Dq:D->Res (List D)
 | .dct ks _=>@ite (Res (List D)) (ks.length<=sizeLine) (propDecidable _) (.ok (ks.map Qn)) .stuck
 |_=>.stuck
theorem Ts{K:Frag}{W:WS}{H:Hp}:∀ ks:List Bb,HasL K W H (ks.map Qn) (ks.map kV)
 | []=>by rw[map_nil,map_nil,HasL]
 |k::ks=>by rw[map_cons,map_cons,HasL];exact⟨_,_,rfl,Rs k,Ts ks⟩
theorem XN(hc:X.calm=true)(hm:X.mg "list"=none)(h:XE X xw e f)(hg:Gl X "list":=by rfl)(he:starEach [e] X.env=(false,eval e X.env)::starEach [] X.env:=by rfl)(hpl:(backTo pos (starEach [] X.env)).any (·.1)=false:=by rfl):
  XF X xw (.Call (.Name "list" p) [e] [] pos) (Yq Dq f):=
 ⟨PE.weak (ZJ hc hm hg h.h he hpl) λσ H Q ⟨W₀,H₀,W,δ,st,q⟩=>by
  refine⟨W₀,H₀,W,δ,st,?_⟩
  unfold Yq at q
  cases h1:f δ with
  |stuck=>rw[h1]at q;exact q
  |ex c fs=>rw[h1]at q;exact q
  |ok d=>
   rw[h1]at q
   intro v H1 k1 hv
   have q':RF X.K xw W H (Dq d) Q:=q
   unfold Dq at q'
   split at q'
   .rename_i ks ds
    split at q'
    .rename_i hn
     rw[Has]at hv
     obtain⟨a,kvs,rfl,⟨o,ea⟩,r5,r6⟩:=hv
     have hl:kvs.length<=sizeLine:=by rw[<-r5,length_map]at hn;exact hn
     refine⟨a,o,kvs,rfl,ea,hl,λn hn=>?_⟩
     have e3:(kvs.map λq=>kV q.1)=ks.map kV:=by rw[<-r5,map_map];rfl
     rw[e3]
     exact q' n _ H1 k1 hn (Ts ks)
    .exact q'.elim
   .exact q'.elim⟩
end
variable{apos:Pos}
section
variable {p:Pos}
end
section
variable {b:Expr}{fa fb:Ba->Res (List (Bb×D))}{p:Pos}
end
section
variable {H':Hp}{δ:Ba}
end
variable{p1 p3:Pos}{tg:Expr}
section
variable {p:Pos}{ie:Expr}{fi:Ba->Res D}{ff:Ba->Res (List D)}
def tNil:TE:=λ_ H Q=>∀ a,H a=none->Q (.ref a) (Eb H a (.lst []))
variable {scope:Scope}{iter:Expr}{fl:Ba->Res (List D)}{t:D->Ba->Res Ba}
end
section
variable {p:Pos}{fs:Ba->Res (List D)}
end
structure NoR(g:Ba->Out):Prop where
 h:∀ δ d,g δ≠ .rt d
def VZ(xs:List Str):Prop:=xs.length<=100/\∀ x∈xs,(reprText x).length<=1000
section
variable {p:Pos}
end
def T7(K:Frag)(C:Addr)(attr:Str):Sp:=λvs H Q _=>∃ a l xs,vs= [.ref a,.ref l]/\SqL K H l (xs.map V.str)/\VZ xs/\H a=some (.ext (Lm a C))/\∀ n o d,H n=none->H d=none->d≠n->Q .non (Eb (Eb (Eb H n (.frz o (.lst (xs.map V.str)))) a (.ext (Aj a C (some d)))) d (.xd [(attr,.ref n)]))
structure XInR(X:Cx)(C:Addr)(attr:Str)(sts:List Stmt):Prop where
 h:PSs X sts (λD σ H=>∃ a l xs,σ[0]? =some (some (.ref a))/\σ[1]? =some (some (.ref l))/\SqL X.K H l (xs.map V.str)/\VZ xs/\H a=some (.ext (Lm a C))/\∀ n o d,H n=none->H d=none->d≠n->D.nx σ (Eb (Eb (Eb H n (.frz o (.lst (xs.map V.str)))) a (.ext (Aj a C (some d)))) d (.xd [(attr,.ref n)])))
variable{attr:Str}
section
variable {S f:Addr}{xb self:Str}{p7 p8 p9 q1 q2 q3 q4 q5 q6 r1 r2 r3:Pos}{z:Str}
end
structure FnR(P:Program)(w:World)(K:Frag)(mg:Str->Option Value)(base:Heap)(k:Nat)(c attr:Str):Prop where
 ex:∃ j C S f fd ps,j+1<=k/\FnOkH P w K mg base Al j f fd ps (T7 K C attr)/\XInit K C S f/\mg c=some (.ref C)/\nsIn K mainGlobals c=some (some (.ref C))/\Binds K fd ps []
section
variable {S f:Addr}{fd:FuncData}{ps:List Str}{p:Pos}{t:TA}{fs:Ba->Res (List D)}
end
section
variable {o:Expr}{fs:Ba->Res (List D)}
end
section
variable {prog:Program}{w:World}{E:Value->Shared->Prop}{it l:Addr}{xs:Array Value}
end
section
variable {p:Pos}
end
section
variable {p:Pos}{fs:Ba->Res (List D)}
end
end L3
namespace L3
open PySem
open Sem (wp)
variable{K:Type}
def WD[DecidableEq K](σ:List K)(k:K):List K:=if k∈σ then σ else σ++ [k]
def Su[DecidableEq K](ks:List K):List K:=ks.foldl WD []
theorem YM[DecidableEq K](σ:List K)(k:K):(WD σ k).length<=σ.length+1:=by unfold WD;split<;>simp
theorem Fs{K:Type}[DecidableEq K]:∀ (ns σ:List K),(ns.foldl WD σ).length<=σ.length+ns.length
 | [],σ=>by simp
 |n::ns,σ=>by have:=Fs ns (WD σ n);have:=YM σ n;rw[foldl_cons,List.length_cons];omega
theorem Tu[DecidableEq K](ns:List K):(Su ns).length<=ns.length:=by have:=Fs ns [];simpa [Su] using this
theorem HJ[DecidableEq K]{ns:List K}{i:Nat}{k:K}(h:ns[i]? =some k):Su (ns.take (i+1))=WD (Su (ns.take i)) k:=by
 unfold Su
 rw[List.take_add_one,List.foldl_append,h]
 rfl
variable{a:Addr}
section
variable {prog:Program}{w:World}[DecidableEq K]{knd:KeyKind prog w K}{A:Around}{R:Result->Shared->Prop}{I:Addr}{fp wr:List Addr}{G:Array GenState->Array GenState->Prop}{n:Nat}{P:Nat->Value->Prop}{St:Nat->Shared->Prop}{E:Value->Shared->Prop}{s:Shared}
def SB(knd:KeyKind prog w K)(h:Heap)(a:Addr)(σ:List K):Prop:=h.SetOf knd a (λk=>decide (k∈σ)) σ.length
theorem SB.at'{h h':Heap}{σ:List K}(x:SB knd h a σ)(k:∀ o,h.get? a=some o->h'.get? a=some o):SB knd h' a σ:=by
 obtain⟨o,es,ep,t,ho,r⟩:=x;exact⟨o,es,ep,t,k o ho,r⟩
theorem KY{σ:List K}{k:K}{v:Value}{Q:Bool->Shared->Prop}(hk:knd.is k v=true)(hsc:v.scannable=true)(hS:SB knd s.heap a σ)(room:σ.length+1<scanBound)(h:∀ h' b,SameBut a s.heap h'->SB knd h' a (WD σ k)->Q b {s with heap:=h'}):wpAny (model prog w) A (setAddHashed a v (knd.hash k)) Q E s:=by
 refine wpAny_setAddHashed_of hk hsc hS room λh' sb hS'=>h h' _ sb ?_
 unfold SB WD
 by_cases hm:k∈σ
 .rw[if_pos hm]
  rw[decide_eq_true hm]at hS'
  have e:(λk'=>decide (k'∈σ)||decide (k'=k))=λk'=>decide (k'∈σ):=by
   funext k'
   by_cases h1:k'=k
   .rw[h1,decide_eq_true hm];rfl
   .rw[decide_eq_false h1,Bool.or_false]
  rw[e]at hS'
  exact hS'
 .rw[if_neg hm]
  rw[decide_eq_false hm]at hS'
  have e:(λk'=>decide (k'∈σ)||decide (k'=k))=λk'=>decide (k'∈σ++ [k]):=by
   funext k'
   by_cases h1:k'=k
   .rw[h1];simp
   .simp[h1]
  rw[e]at hS'
  rw[length_append,length_singleton]
  exact hS'
theorem DR(W:WalksS prog w A.in1 I fp wr G n P St)(S:Addr)(hSf:S∉fp)(ks:List K)(hn:ks.length=n)(hv:∀ i v,P i v->∃ k,ks[i]? =some k/\knd.is k v=true/\v.scannable=true)(hb:n+1<scanBound):
  ∀ (k i:Nat) (s:Shared),n-i=k->i<=n->St i s->SB knd s.heap S (Su (ks.take i))->(∀ s',Moved (S::wr) G s s'->SB knd s'.heap S (Su ks)->R (.ok (.ret .none)) s')->
   codeAny (model prog w) A (.builtin "set.update.loop" ⟨[.ref S,.ref I],[]⟩) R s:=by
 have hSw:S∉wr:=λh=>hSf (W.sub _ h)
 have up:∀ b∈wr,b∈S::wr:=λb hb=>mem_cons_of_mem _ hb
 intro k
 induction k with
 |zero=>
  intro i s hk hi st hS hR
  have:i=n:=by omega
  subst this
  refine codeAny_builtin PyProof.Rows.F.entry_set_update_loop ?_;rw[Around.under_plainId PyProof.Rows.F.plain_set_update_loop _]
  show wpAny _ A.in1 (pyNext (.ref I) >>= _) _ _ s
  refine wpAny_bind (W.done s _ _ st λs' mv=>wpAny_pure (hR s' (mv.mono up) ?_))
  rw[List.take_of_length_le (Nat.le_of_eq hn)]at hS
  exact hS.at' λo e=>mv.heap S o hSw e
 |succ k ih=>
  intro i s hk hi st hS hR
  have lt:i<n:=by omega
  refine codeAny_builtin PyProof.Rows.F.entry_set_update_loop ?_;rw[Around.under_plainId PyProof.Rows.F.plain_set_update_loop _]
  show wpAny _ A.in1 (pyNext (.ref I) >>= _) _ _ s
  refine wpAny_bind (W.item i s _ _ lt st λv s' pv st' mv=>?_)
  obtain⟨kk,ek,hkk,hsc⟩:=hv i v pv
  have hS':SB knd s'.heap S (Su (ks.take i)):=hS.at' λo e=>mv.heap S o hSw e
  have room:(Su (ks.take i)).length+1<scanBound:=by have:=Tu (ks.take i);rw[List.length_take]at this;omega
  show wpAny _ A.in1 (holding [v] (setAdd S v) >>= _) _ _ s'
  refine wpAny_bind (wpAny_holding ?_)
  unfold setAdd
  refine wpAny_holding (wpAny_bind (knd.pyHash (k:=kk) hkk ?_))
  refine KY (s:= {s' with toks:=s'.toks+1}) hkk hsc hS' room λh' b sb hS2=>wpAny_pure ⟨plainId_quiet PyProof.Rows.F.plain_set_update_loop _,?_⟩
  refine ih (i+1) _ (by omega) lt (W.frame _ s' _ _ st' (le_succ _) λb hb o e=>sb.extBut _ _ (λq=>hSf (q▸hb)) e) (by rw[HJ ek];exact hS2) λs'' mv2 hS3=>hR s'' ?_ hS3
  exact Moved.trans W.gtrans ((mv.mono up).then_heap (le_succ _) λb o hb e=>sb.extBut _ _ (λq=>hb (by rw[q];exact mem_cons_self)) e) mv2
theorem TK{h:Heap}{led:Bool}(hg:h.get? a=some {cls:=.type "set",dict:=none,data:=.set #[] 0 (.fresh 0 0 led)}):SB knd h a []:=
 ⟨_,#[],0,_,hg,⟨rfl,rfl,rfl⟩,rfl,λe he=>by simp at he,λk=>by simp,by decide,by rfl,rfl⟩
theorem Cr{T:String}{l:Addr}{ol:Obj}{items:Array Value}{ks:List K}{Q:Value->Shared->Prop}(hh:A.handled=none)(hol:s.heap.get? l=some ol)(hcl:ol.cls=.type T)(hs1:isSubtype (.type T) (.type "set")=pure false)(hs2:isSubtype (.type T) (.type "frozenset")=pure false)(hnd:(Value.type T==Value.type "dict")=false)(hit:Itr prog w l ol items)(hn:ks.length=items.size)(hv:∀ (i:Nat) (v:Value),items[i]? =some v->∃ k,ks[i]? =some k/\knd.is k v=true/\v.scannable=true)(hb:items.size+1<scanBound)(h:∀ h' tk,SB knd h' s.heap.objs.size (Su ks)->(∀ b o,s.heap.get? b=some o->h'.get? b=some o)->Q (.ref s.heap.objs.size) {s with heap:=h',toks:=tk}):wpAny (model prog w) A (call (.type "set") [.ref l]) Q E s:=by
 obtain⟨c,tl,hmro⟩:=PySem.F.called_set.mro
 have hmade:=PySem.F.called_set.made
 have hsub:=PySem.F.called_set.sub
 refine wpAny_call (codeAny_of_tree ?_);show wpAny _ _ (callAny (.type "set") _) _ _ _
 refine wpAny_pure ⟨Code.quiet_builtin _ (by decide +kernel),codeAny_builtin PySem.F.entry_type_call ?_⟩;rw[Around.under_plain (weight_type_call_type "set" [.ref l] []) rfl]
 have q1:=PySem.F.called_set.notType
 have q2:=PySem.F.called_set.canCreate
 have q3:=PySem.F.typeCall_set_1 (.ref l)
 repeat (any_goals (first|assumption|wp_step))
 refine codeAny_mono (ZK (.ref l) (E:=E) (Q₁:=λobj s₁=>∃ led:Bool,led=(!w.params.followText "set-order")/\obj=.ref s.heap.objs.size/\s₁= {s with heap:=s.heap.push {cls:=.type "set",dict:=none,data:=.set #[] 0 (.fresh 0 0 led)}}) λled e=>⟨led,e,rfl,rfl⟩) λr s₁ hr=>?_
 cases r with
 |error e=>exact hr
 |ok fl=>
  cases fl with
  |ret obj=>
   obtain⟨led,hled,rfl,rfl⟩:=hr
   generalize hg:s.heap.push {cls:=.type "set",dict:=none,data:=.set #[] 0 (.fresh 0 0 led)}=h1
   have k1:∀ b o,s.heap.get? b=some o->h1.get? b=some o:=λb o e=>by rw[<-hg];exact get?_push_of_some _ e
   have n1:h1.get? s.heap.objs.size=some {cls:=.type "set",dict:=none,data:=.set #[] 0 (.fresh 0 0 led)}:=by rw[<-hg];exact get?_push_size _ rfl
   have z1:h1.objs.size=s.heap.objs.size+1:=by rw[<-hg,size_push]
   clear hg
   have hT:Shared.TypeIs {s with heap:=h1} (.ref s.heap.objs.size) "set":=⟨_,n1,rfl⟩
   have q4:=PySem.F.called_set.init.lookup
   have q5:=PySem.F.called_set.init.bind (.ref s.heap.objs.size)
   repeat (any_goals (first|assumption|wp_step))
   refine codeAny_mono (codeAny_call_builtin (R:=wants (λr s₂=>r=.none/\∃ h' tk,s₂= {s with heap:=h',toks:=tk}/\SB knd h' s.heap.objs.size (Su ks)/\∀ b o,s.heap.get? b=some o->h'.get? b=some o) E)
    PySem.F.called_set.init.plain PySem.F.entry_set_init (check_set_init_1 hT ?_)) λr₂ s₂ hr₂=>?_
   .have hol':=k1 _ _ hol
    have hTl:Shared.TypeIs {s with heap:=h1} (.ref l) T:=⟨_,hol',hcl⟩
    unfold Builtin.«set.__init__» noKeywords Builtin.Frozenset.updateFrom
    generalize hPI:pyIter=PI
    wp_walk
    subst hPI
    refine hit _ _ _ _ hol' λI St h2 W st eI k2=>?_
    refine wpAny_bind (wpAny_runValue ?_)
    have lS:s.heap.objs.size<I:=by rw[eI];show _<h1.objs.size;rw[z1];exact Nat.lt_succ_self _
    have ll:l<s.heap.objs.size:=lt_size hol
    have hSf:s.heap.objs.size∉ [I,l]:=by
     simp only[mem_cons,not_mem_nil,or_false,not_or]
     exact⟨ne_of_lt lS,ne_of_gt ll⟩
    refine DR ((W _ (by simp[hh])).toS) s.heap.objs.size hSf ks hn hv hb items.size 0 _ (by omega) (zero_le _) st (TK (k2 _ _ n1)) λs' mv hS=>?_
    obtain⟨h',g',d',tk',os'⟩:=s'
    have eg:g'=s.gens:=mv.gens
    have ed:d'=s.drawn:=mv.drawn
    have eo:os'=s.os:=mv.os
    subst eg ed eo
    refine wpAny_pure (wpAny_pure ⟨rfl,h',tk',rfl,hS,λb o e=>?_⟩)
    have lb:b<s.heap.objs.size:=lt_size e
    refine mv.heap b o (λz=>?_) (k2 _ _ (k1 _ _ e))
    simp only[mem_cons,not_mem_nil,or_false]at z
    rcases z with z|z
    .rw[z]at lb;exact lt_irrefl _ lb
    .rw[z]at lb;exact lt_irrefl _ (lt_trans lb lS)
   .cases r₂ with
    |error e=>exact hr₂
    |ok fl₂=>
     cases fl₂ with
     |ret r=>
      obtain⟨rfl,h',tk,rfl,hS',hk'⟩:=hr₂
      repeat (any_goals (first|assumption|wp_step))
      exact h _ _ hS' hk'
     |_=>exact hr₂.elim
  |_=>exact hr.elim
end
open PySem.Spec PyProof.Rows L2 SeqAt
variable{a e:Expr}{X:Cx}{xw:XW}{pos p2:Pos}{fa:Ba->Res D}
section
variable {p pos2:Pos}
theorem CD:∀ {us:List Value} {xs:List Str},Vals (xs.map V.str) us->xs.length=us.length/\∀ (i:Nat) v,us[i]? =some v->∃ k,xs[i]? =some k/\Value.isStrOf k v=true/\v.scannable=true
 |us,[],r=>by cases r;exact⟨rfl,λi v h=>by simp at h⟩
 |us,x::xs,r=>by
  cases r with
  |cons h1 t=>
   obtain⟨l,q⟩:=CD t
   refine⟨by rw[List.length_cons,List.length_cons,l],λi v hv=>?_⟩
   cases i with
   |zero=>
    obtain⟨tk,rfl⟩:=h1
    have e:Value.str x tk=v:=by simpa using hv
    subst e
    exact⟨x,rfl,by simp[Value.isStrOf],rfl⟩
   |succ i=>
    obtain⟨k,e1,e2⟩:=q i v (by simpa using hv)
    exact⟨k,by simpa using e1,e2⟩
end
section
variable {o:Expr}{es:List Expr}{f:Ba->Res D}{gs:Ba->Res (List D)}{p apos:Pos}{fld m:Str}{cs:List Str}
structure OwnK(K:Frag)(C:Addr):Prop where
 hg:plainGet K C "__class__"=true
 hd:hasDictIn K C=true
 ha:findIn K (.ref C) "__class__"=some (some (.builtin "object.__class__"))
 hn:specialIn K (.builtin "object.__class__") "__get__"=some (some (.builtin "getset_descriptor.__get__"))
 ht:PySem.W.takesIn K (.builtin "object.__class__")=some true
 hm:mroIn K C (.type "object")=some true
structure IsiO(K:Frag)(tb:List (Str×Bool))(vc:V):Prop where
 cls:∃ a,vc=.ref a
 ok:∀ c b,tb.lookup c=some b->∃ C,nsIn K mainGlobals c=some (some (.ref C))/\OwnK K C/\kitOne K (.ref C) (IB vc)=some b
structure MtK(P:Program)(w:World)(K:Frag)(mg:Str->Option Value)(base:Heap)(k:Nat)(c m:Str)(n:Nat)(g:List D->Res D):Prop where
 ex:∃ C f fd ps,nsIn K mainGlobals c=some (some (.ref C))/\Cls K C/\Meth K C m f/\FnOk P w K mg base Al k f fd ps (NY K n g)/\Binds K fd ps []
end
end L3
namespace L3
open PySem PyProof.Rows
variable{ss:List Str}
section
variable {prog:Program}{w:World}{A:Around}{E:Value->Shared->Prop}{s:Shared}{T:String}{r d:Addr}{n:Nat}{P:Nat->Value->Prop}{OK:Heap->Prop}
theorem CA{Q:List Value->Shared->Prop}(K:PySem.W.KdlSrc prog w T r d n P OK)(hh:A.handled=none)(hok:OK s.heap)(hn:n<=sizeLine)(h:∀ h' tk acc,(∀ b o,s.heap.get? b=some o->h'.get? b=some o)->s.heap.objs.size<h'.objs.size->ItemsOf P acc n->Q acc.toList {s with heap:=h',toks:=tk}):
  wpAny (model prog w) A (collect (.ref r)) Q E s:=by
 generalize hg:s.heap.push {cls:=.type "list",data:=.seq ([]:List Value).toArray}=h1
 have k1:∀ b o,s.heap.get? b=some o->h1.get? b=some o:=λb o e=>by rw[<-hg];exact get?_push_of_some _ e
 have n1:h1.get? s.heap.objs.size=some {cls:=.type "list",data:=.seq #[]}:=by rw[<-hg];exact get?_push_size _ rfl
 have hlt:=K.there _ hok
 unfold collect
 refine wpAny_bind (wpAny_runValue (codeAny_builtin PySem.F.entry_proto_collect ?_));rw[Around.under_plainId PySem.F.plain_proto_collect _]
 show wpAny _ A.in1 (newList [] >>= λl=>again (.builtin "list.__iadd__" ⟨[l,.ref r],[]⟩)) _ _ s
 refine wpAny_bind (wpAny_newObj_type (wpAny_pure ⟨plainId_quiet PySem.F.plain_list_iadd _,codeAny_builtin PySem.F.entry_list_iadd ?_⟩));rw[Around.under_plainId PySem.F.plain_list_iadd _,hg]
 show wpAny _ A.in1 (Builtin.List.listExtendWith (.ref s.heap.objs.size) (.ref r) (.ref s.heap.objs.size)) _ _ {s with heap:=h1}
 refine PySem.W.kdl_extend (s:= {s with heap:=h1}) (R:=λr s'=>match r with
  | .ok (.ret v)=>wpAny (model prog w) A (match v with
   | .ref a=>(load a >>= λo=>match o.data with
    | .seq xs _=>pure xs.toList
    |_=>unsupported "internal:collect")
   |_=>unsupported "internal:collect") Q E s'
  | .ok _=>False
  | .error e=>E e s') K hh (K.keep _ _ hok λb _ o e=>k1 b o e) s.heap.objs.size (ne_of_gt hlt.1) (ne_of_gt hlt.2) _ _ n1 (λh' tk acc c hk hS hacc=>?_) hn
 show wpAny _ A (load s.heap.objs.size >>= _) _ _ _
 refine wpAny_bind (wpAny_load hS (wpAny_pure ?_))
 exact h h' tk acc (λb o e=>hk b o (ne_of_lt (lt_size e)) (k1 b o e)) (lt_size hS) hacc
theorem CB{Q:Value->Shared->Prop}(K:PySem.W.KdlSrc prog w T r d n P OK)(hh:A.handled=none)(hok:OK s.heap)(hn:n<64)(hP:∀ acc:Array Value,ItemsOf P acc n->StrsAre acc.toList ss)(h:∀ h' tk p (out:List Value) (ss':List Str) (e:Nat),StrsAre out ss'->ss'.Perm ss->sortedS ss'=true->h'.get? p=some (seqObj "list" out.toArray e)->s.heap.objs.size<=p->(∀ b o,s.heap.get? b=some o->h'.get? b=some o)->
   Q (.ref p) {s with heap:=h',toks:=tk}):wpAny (model prog w) A (call (.builtin "sorted") [.ref r]) Q E s:=by
 refine Calls.call_function_entry kind_sorted plain_sorted entry_sorted (args_sorted1 _) ?_
 unfold Builtin.«sorted»
 refine wpAny_bind (m:=checkCount "sorted" 1 1 _) (wpAny_pure ?_)
 refine wpAny_bind (CA K (by simpa using hh) hok (by rw[sizeLine_eq];omega) λh1 tk acc k1 z1 hacc=>?_)
 have hS:=hP acc hacc
 have hl:acc.toList.length<64:=by rw[length_toList,hacc.1];exact hn
 generalize acc.toList=vs at*
 refine wpAny_bind (wpAny_newList ?_ (by rw[sizeLine_eq];omega))
 have n1:(h1.push {cls:=.type "list",data:=.seq vs.toArray}).get? h1.objs.size=some (seqObj "list" vs.toArray 0):=get?_push_size _ rfl
 refine wpAny_bind (wpAny_holding (wpAny_call_entry slot_list_sort ⟨_,n1,rfl⟩ entry_list_sort (list_sort_treeK strKind_oneLt n1 hS.keysOf (λv₁ v₂ rest e=>keyKind_strs (by rw[<-e];exact hS)) hl λst' hp hs=>⟨_,rfl,wpAny_pure ⟨_,rfl,?_⟩⟩) (args_list_sort _)))
 obtain⟨ss',a1,a2,a3⟩:=sorted_out_str hS hp hs
 obtain⟨e,he⟩:=sortedHeap_at (out:=(arrOf st').map (·.2)) n1
 have old:∀ b o,s.heap.get? b=some o->b<h1.objs.size/\b≠h1.objs.size:=λb o q=>⟨lt_size (k1 _ _ q),ne_of_lt (lt_size (k1 _ _ q))⟩
 refine h _ tk h1.objs.size ((arrOf st').map (·.2)).toList ss' e a1 a2 a3 (by rw[Array.toArray_toList];exact he) (le_of_lt z1) λb o q=>?_
 rw[sortedHeap_old (old b o q).2 (by rw[size_push'];exact Nat.lt_succ_of_lt (old b o q).1)]
 exact get?_push_of_some _ (k1 _ _ q)
end
open PySem.Spec L2 SeqAt
def Fz(a b:Str):Bool:= !decide (b.cps.toList<a.cps.toList)
def Xk(xs:List Str):List Str:=xs.mergeSort Fz
theorem Us(a b c:Str)(h1:Fz a b=true)(h2:Fz b c=true):Fz a c=true:=by
 unfold Fz at*
 simp only[Bool.not_eq_true',decide_eq_false_iff_not] at*
 intro h
 rcases strKind.negTrans c.cps.toList b.cps.toList a.cps.toList (decide_eq_true h) with z|z
 .exact h2 (of_decide_eq_true z)
 .exact h1 (of_decide_eq_true z)
theorem FF(a b:Str):(Fz a b||Fz b a)=true:=by
 unfold Fz
 by_cases h:b.cps.toList<a.cps.toList
 .have:¬ a.cps.toList<b.cps.toList:=λz=>List.lt_irrefl _ (List.lt_trans h z)
  simp[this]
 .simp[h]
theorem ZI(a b:Str)(h1:Fz a b=true)(h2:Fz b a=true):a=b:=by
 unfold Fz at*
 simp only[Bool.not_eq_true',decide_eq_false_iff_not] at*
 have e:=List.le_antisymm (List.not_lt.mp h1) (List.not_lt.mp h2)
 cases a;cases b
 congr 1
 exact Array.toList_inj.mp e
theorem MR(xs:List Str):(Xk xs).Pairwise λa b=>Fz a b=true:=List.pairwise_mergeSort Us FF xs
theorem Ym(xs:List Str):(Xk xs).Perm xs:=List.mergeSort_perm xs Fz
theorem Jt:∀ (p:Str) (l:List Str),risingS p l=true->(p::l).Pairwise λa b=>Fz a b=true
 |p,[],_=>by simp
 |p,x::r,h=>by
  rw[risingS,and_eq_true]at h
  have ih:=Jt x r h.2
  have hx:Fz p x=true:=by
   have:=h.1
   rw[ltCps_eq]at this
   exact this
  refine pairwise_cons.mpr ⟨λy hy=>?_,ih⟩
  rcases mem_cons.mp hy with rfl|hy
  .exact hx
  .exact Us p x y hx ((pairwise_cons.mp ih).1 y hy)
theorem Zn{ss':List Str}(hp:ss'.Perm ss)(hs:sortedS ss'=true):ss'=Xk ss:=by
 have h1:ss'.Pairwise λa b=>Fz a b=true:=by
  cases ss' with
  |nil=>simp
  |cons x r=>exact Jt x r hs
 exact Perm.eq_of_pairwise (λa b _ _=>ZI a b) h1 (MR ss) (hp.trans (Ym ss).symm)
def Ot:List Bb->Option (List Str)
 | []=>some []
 | .inr x::ks=>(Ot ks).map (x:: ·)
 |_=>none
theorem Pt:∀ {ks:List Bb} {ss:List Str},Ot ks=some ss->ks=ss.map Sum.inr
 | [],ss,h=>by cases h;rfl
 | .inl i::ks,ss,h=>by cases h
 | .inr x::ks,ss,h=>by
  obtain⟨r,hr,rfl⟩:=map_eq_some_iff.mp (show(Ot ks).map (x:: ·)=some ss from h)
  rw[Pt hr];rfl
section
variable {X:Cx}{xw:XW}{e:Expr}{f:Ba->Res D}{p pos:Pos}
theorem Qt{us:List Value}(h:StrsAre us ss):Vals (ss.map V.str) us:=by
 induction h with
 |nil=>exact .nil
 |cons x t h ih=>exact .cons ⟨_,rfl⟩ ih
theorem Cn:∀ {us:List Value} {ss:List Str},Vals (ss.map V.str) us->StrsAre us ss
 |us,[],h=>by cases h;exact .nil
 |us,x::ss,h=>by
  cases h with
  |cons h1 t=>
   obtain⟨tk,rfl⟩:=h1
   exact .cons _ _ (Cn t)
theorem BK{te:TE}(hc:X.calm=true)(hm:X.mg "sorted"=none)(hg:Gl X "sorted")(h:PE X e te)(he:starEach [e] X.env=(false,eval e X.env)::starEach [] X.env)(hpl:(backTo pos (starEach [] X.env)).any (·.1)=false):
  PE X (.Call (.Name "sorted" p) [e] [] pos) (λσ H Q=>te σ H λx H1=>∃ a o kvs ss,x=.ref a/\H1 a=some (.frz o (.dK kvs))/\kvs.map (·.1)=ss.map Sum.inr/\kvs.length<64/\∀ n,H1 n=none->Q (.ref n) (Eb H1 n (.lst ((Xk ss).map V.str)))):=by
 intro pins s σ H Q I q
 refine wpAny_Call_Name_kw (Lf I hg hm (show bootBuiltins "sorted"=some (.builtin "sorted") by decide +kernel) ?_)
 refine PyProof.Rows.callWith_builtin1 ?_ he hpl
 rw[he]
 show wpAny _ _ (spliced ((false,eval _ X.env)::backTo pos (starEach [] X.env))) _ _ s
 refine Calls.spliced_cons (thn (h pins s σ H _ I q) λv s1 ⟨x,H1,I1,r1,q1⟩=>?_)
 refine Calls.spliced_nil ?_
 obtain⟨a,o,kvs,ss,rfl,hq,hks,hn,qn⟩:=q1
 cases r1
 obtain⟨h1',_,hS,vs',r',o',es,ep,g1,g2,g3,g4⟩:=(show _/\_ from I1.hok a _ hq)
 rw[h1']at g1;cases g1
 obtain⟨hs,vs,rel,dat⟩:=Zp I1.hok hq g3
 have hl:=Pi rel
 refine CB (ss:=ss) (s:=s1) (PySem.W.kdl_dict (prog:=X.prog) (w:=X.w) (d:=a) (knd:=Uc X.prog X.w) (kvs:=vs) (ep:=ep) hs) (I1.ok.hd hc) dat (by rw[<-hl];exact hn) (λacc hacc=>?_) λh' tk pp out ss' e a1 a2 a3 hget hsz kk=>?_
 .obtain⟨e1,e2⟩:=hacc
  refine Cn ?_
  have em:ss.map V.str=kvs.map λq=>kV q.1:=by
   have:=congrArg (List.map kV) hks
   rw[map_map,map_map]at this
   exact this.symm
  rw[em]
  refine Zo (by have e9:acc.toList.length=vs.length:=e1;rw[length_map,e9];exact hl) λi x u hx hu=>?_
  rw[getElem?_map]at hx
  obtain⟨q,hq',rfl⟩:=map_eq_some_iff.mp hx
  rw[getElem?_toList]at hu
  obtain⟨k,y,ek,hk⟩:=e2 i u hu
  obtain⟨y2,e3,_⟩:=UI rel hq'
  rw[e3]at ek
  cases ek
  exact BA hk
 .have es:=Zn a2 a3
  subst es
  refine⟨.ref pp,_,I1.laid (t':=tk) (o:=.lst ((Xk ss).map V.str)) (λb u e=>kk b u e) hsz ?_,rfl,qn _ (I1.hok.fresh hsz)⟩
  have lz:(Xk ss).length<64:=by
   rw[(Ym ss).length_eq,<-length_map (f:=(Sum.inr:Str->Bb)),<-hks,length_map];exact hn
  exact⟨by rw[length_map,sizeLine_eq];omega,out,e,Qt a1,hget⟩
theorem Zm{K:Frag}{W:WS}{H:Hp}:∀ xs:List Str,HasL K W H (xs.map D.str) (xs.map V.str)
 | []=>by rw[map_nil,map_nil,HasL]
 |x::xs=>by rw[map_cons,map_cons,HasL];exact⟨_,_,rfl,by rw[Has],Zm xs⟩
def Cm:D->Res (List D)
 | .dct ks _=>match Ot ks with
  |some ss=>if ss.length<64 then .ok ((Xk ss).map D.str) else .stuck
  |none=>.stuck
 |_=>.stuck
theorem YN(hc:X.calm=true)(hm:X.mg "sorted"=none)(h:XE X xw e f)(hg:Gl X "sorted":=by rfl)(he:starEach [e] X.env=(false,eval e X.env)::starEach [] X.env:=by rfl)(hpl:(backTo pos (starEach [] X.env)).any (·.1)=false:=by rfl):
  XF X xw (.Call (.Name "sorted" p) [e] [] pos) (Yq Cm f):=
 ⟨PE.weak (BK hc hm hg h.h he hpl) λσ H Q ⟨W₀,H₀,W,δ,st,q⟩=>by
  refine⟨W₀,H₀,W,δ,st,?_⟩
  unfold Yq at q
  cases h1:f δ with
  |stuck=>rw[h1]at q;exact q
  |ex c fs=>rw[h1]at q;exact q
  |ok d=>
   rw[h1]at q
   intro v H1 k1 hv
   have q':RF X.K xw W H (Cm d) Q:=q
   unfold Cm at q'
   split at q'
   .rename_i ks ds
    split at q'
    .rename_i ss hss
     split at q'
     .rename_i hn
      rw[Has]at hv
      obtain⟨a,kvs,rfl,⟨o,ho⟩,hk,_⟩:=hv
      have hks:=Pt hss
      have hl:kvs.length=ss.length:=by rw[<-length_map (f:=(·.1)),hk,hks,length_map]
      refine⟨a,o,kvs,ss,rfl,ho,by rw[hk,hks],by omega,λn hn1=>?_⟩
      exact q' n _ H1 k1 hn1 (Zm (Xk ss))
     .exact q'.elim
    .exact q'.elim
   .exact q'.elim⟩
end
end L3
namespace L3
open PySem PySem.SeqAt PySem.MeetsSeq PySem.MeetsSeq2 PySem.MeetsSeq3
section
variable {P:Program}{w:World}
end
end L3
namespace L3
open PySem PySem.Spec PyProof.Rows L2 SeqAt
variable{X:Cx}{xw:XW}{pins:List (Addr×Obj)}{σ:L2.St}{W:WS}{H:Hp}{s:Shared}
section
variable {K:Frag}{W₀:WS}{H₀ H':Hp}{δ:Ba}
end
section
variable {e:Expr}{f:Ba->Res D}
end
end L3
namespace L3
open PySem PySem.Spec PyProof.Rows L2
variable{prog:Program}{w:World}{A:Around}{E:Value->Shared->Prop}{s:Shared}{z i1 i2:Addr}{k:Nat}
section
variable {TI TO:Addr}{f1 f2:List Addr}{n1 n2:Nat}{P1 P2:Nat->Value->Prop}{S1 S2:Nat->Heap->Prop}
end
structure ZN(z TI TO i1 i2 l1 l2 N:Addr):Prop where
 za:ZA z TI TO i1 i2 [i1,l1] [i2,l2]
 n1:l1≠i1
 n2:l2≠i2
 nz:N≠z
 nT:N≠TI
 nO:N≠TO
 m1:N≠i1
 m2:N≠i2
 k1:N≠l1
 k2:N≠l2
variable{l1 l2 N:Addr}{t1 t2:Bool}{xs ys:Array Value}
section
variable {TI TO:Addr}
end
structure ZG(xs ys:Array Value)(lo:Addr)(h:Heap)(as:List Addr):Prop where
 rise:as.Pairwise (· < ·)
 above:∀ a∈as,lo<a
 pairs:∀ (j:Nat) (a:Addr),as[j]? =some a->∃ x y,xs[j]? =some x/\ys[j]? =some y/\IsPair h a x y
section
variable {R:Result->Shared->Prop}{TI TO:Addr}
end
variable{X:Cx}{xw:XW}{a:Expr}{pos:Pos}
section
variable {b:Expr}{fs:Ba->Res (List D)}{p p2 pos2:Pos}
end
open SeqAt
section
variable {p pos' spos:Pos}{fa:Ba->Res D}
end
variable{e:Expr}
section
variable {f:Ba->Res Bool}
end
section
variable {ie:Expr}{f fi:Ba->Res D}
end
end L3
namespace L3
open PySem PySem.Spec PyProof.Rows L2
section
variable {prog:Program}{w:World}{A:Around}{E:Value->Shared->Prop}{s:Shared}
end
variable{X:Cx}{xw:XW}{pos:Pos}{a b:Expr}
section
variable {elts:List Expr}{kt:Nat}{pt p kp:Pos}{fs:Ba->Res (List D)}
end
open SeqAt
section
variable {p p2 apos cpos:Pos}{e o:Expr}{f fa fb:Ba->Res D}{fs:Ba->Res (List D)}
def A4{α:Type}(w:World)(R:Value->α->Prop)(e:DictEntry)(p:Str×α):Prop:=e.hash=UV w (.inr p.1)/\(∃ t,e.key=.str p.1 t)/\R e.val p.2
structure GlobG{α:Type}(R:Value->α->Prop)(w:World)(K:Frag)(mg:Str->Option Value)(x:Str)(l:List (Str×α)):Prop where
 h:∃ (ad:Addr) (o:Obj) (es:Array DictEntry) (n:Nat),mg x=some (.ref ad)/\K.lookup ad=some o/\o.ExactDict/\o.data=.dict es n/\Paired (A4 w R) es.toList l/\(l.map (·.1)).Nodup/\(ad==sysModules)=false
end
end L3
namespace L3
open PySem PySem.Spec PyProof.Rows L2 SeqAt
open Builtin Builtin.Str
variable{X:Cx}{xw:XW}{apos cpos:Pos}{o:Expr}{f:Ba->Res D}
section
variable {pos p p2:Pos}{a b e:Expr}{fa fb:Ba->Res D}{fs:Ba->Res (List D)}
end
end L3
namespace L3
open PySem
def EM(m i:Nat):Nat:=(i*5+1)%m
def CM(m:Nat):Nat->Nat->Nat
 |0,i=>i
 |d+1,i=>CM m d (EM m i)
def E5(m:Nat):Nat->Nat->List Nat
 |0,_=> []
 |n+1,i=>i::E5 m n (EM m i)
theorem OC{m j:Nat}:∀ {n i:Nat},j∈E5 m n i->∃ d,d<n/\CM m d i=j
 |n+1,i,h=>by
  rcases mem_cons.mp h with e|h
  .exact⟨0,by omega,e.symm⟩
  .obtain⟨d,h1,h2⟩:=OC h
   exact⟨d+1,by omega,h2⟩
theorem So(m b:Nat):∀ (a i:Nat),CM m (a+b) i=CM m b (CM m a i)
 |0,i=>by rw[zero_add];rfl
 |a+1,i=>by rw[show a+1+b=(a+b)+1 by omega];exact So m b a (EM m i)
def Pz(m:Nat):Bool:=Nat.beq (CM m m 0) 0&&(range m).all λj=>(E5 m m 0).any λi=>Nat.beq i j
theorem EH:(Pz 8&&Pz 16&&Pz 32&&Pz 64&&Pz 128)=true:=by decide +kernel
def Msk(mask:Nat):Prop:=mask=7\/mask=15\/mask=31\/mask=63\/mask=127
variable{mask:Nat}
theorem Msk.cov(h:Msk mask):∀ i j,i<=mask->j<=mask->∃ d,d<=mask/\CM (mask+1) d i=j:=by
 have c:Pz (mask+1)=true:=by
  have:=EH
  simp only[and_eq_true]at this
  rcases h with rfl|rfl|rfl|rfl|rfl
  .exact this.1.1.1.1
  .exact this.1.1.1.2
  .exact this.1.1.2
  .exact this.1.2
  .exact this.2
 unfold Pz at c
 rw[and_eq_true]at c
 have c0:=Nat.eq_of_beq_eq_true c.1
 have at':∀ j,j<=mask->∃ d,d<mask+1/\CM (mask+1) d 0=j:=λj hj=>by
  have:=all_eq_true.mp c.2 j (mem_range.mpr (by omega))
  obtain⟨i,h1,h2⟩:=List.any_eq_true.mp this
  cases Nat.eq_of_beq_eq_true h2
  exact OC h1
 intro i j hi hj
 obtain⟨a,ha,ea⟩:=at' i hi
 obtain⟨b,hb,eb⟩:=at' j hj
 by_cases hab:a<=b
 .exact⟨b-a,by omega,by rw[<-ea,<-So,show a+(b-a)=b by omega,eb]⟩
 .exact⟨mask+1-a+b,by omega,by rw[<-ea,<-So,show a+(mask+1-a+b)=(mask+1)+b by omega,So,c0,eb]⟩
variable{n i:Nat}
section
variable {owner:Array (Option Nat)}
theorem NE{p:Nat}(h:owner[i]? =some none):∃ j,SetTable.layClean.free mask owner (n+1) i p=some j/\owner[j]? =some none:=by
 unfold SetTable.layClean.free
 cases hf:(range (SetTable.runEnd mask i+1-i)).find? λk=>(owner.getD (i+k) (some 0)).isNone with
 |some k=>
  refine⟨i+k,rfl,?_⟩
  have:=List.find?_some hf
  simp only[Array.getD_eq_getD_getElem?]at this
  cases hg:owner[i+k]? with
  |none=>rw[hg]at this;simp at this
  |some o=>rw[hg]at this;simp at this;rw[this]
 |none=>
  have:=List.find?_eq_none.mp hf 0 (mem_range.mpr (by unfold SetTable.runEnd;split<;>omega))
  simp[Array.getD_eq_getD_getElem?,h]at this
theorem Js{p:Nat}(h:∃ j,SetTable.layClean.free mask owner n (SetTable.leap mask i p).1 (SetTable.leap mask i p).2=some j/\owner[j]? =some none):
  ∃ j,SetTable.layClean.free mask owner (n+1) i p=some j/\owner[j]? =some none:=by
 unfold SetTable.layClean.free
 cases hf:(range (SetTable.runEnd mask i+1-i)).find? λk=>(owner.getD (i+k) (some 0)).isNone with
 |some k=>
  refine⟨i+k,rfl,?_⟩
  have:=List.find?_some hf
  simp only[Array.getD_eq_getD_getElem?]at this
  cases hg:owner[i+k]? with
  |none=>rw[hg]at this;simp at this
  |some o=>rw[hg]at this;simp at this;rw[this]
 |none=>exact h
theorem Ww{j0:Nat}(h0:owner[j0]? =some none):∀ (d n i:Nat),d<n->CM (mask+1) d i=j0->∃ j,SetTable.layClean.free mask owner n i 0=some j/\owner[j]? =some none
 |0,n+1,i,_,e=>by cases (show i=j0 from e);exact NE h0
 |d+1,n+1,i,h,e=>Js (Ww h0 d n _ (by omega) (by simpa [SetTable.leap,CM,EM] using e))
theorem Ks(hm:Msk mask){j0:Nat}(h0:owner[j0]? =some none)(hj:j0<=mask):∀ (m n i p:Nat),p<32^m->i<=mask->m+mask<n->∃ j,SetTable.layClean.free mask owner n i p=some j/\owner[j]? =some none
 |0,n,i,p,hp,hi,hn=>by
  have:p=0:=by simpa using hp
  subst this
  obtain⟨d,h1,h2⟩:=hm.cov i j0 hi hj
  exact Ww h0 d n i (by omega) h2
 |m+1,n+1,i,p,hp,hi,hn=>by
  refine Js (Ks hm h0 hj m n _ _ ?_ ?_ (by omega))
  .show p / 32<32^m
   rw[Nat.pow_succ]at hp;omega
  .show(i*5+1+p / 32)%(mask+1)<=mask
   have:=Nat.mod_lt (i*5+1+p / 32) (show mask+1>0 by omega)
   omega
theorem Ty{k:Nat}:∀ {l:List (Option Nat)} {j:Nat},l[j]? =some none->((l.set j (some k)).filterMap id).Perm (k::l.filterMap id)
 |none::l,0,_=>by simp
 |some x::l,0,h=>by simp at h
 |x::l,j+1,h=>by
  have:=Ty (k:=k) (l:=l) (j:=j) (by simpa using h)
  cases x with
  |none=>simpa using this
  |some x=>simpa using (this.cons x).trans (Perm.swap _ _ _)
theorem NC:∀ {l:List (Option Nat)},(l.filterMap id).length<l.length->∃ j:Nat,l[j]? =some none
 | [],h=>by simp at h
 |none::l,_=>⟨0,rfl⟩
 |some x::l,h=>by
  obtain⟨j,hj⟩:=NC (l:=l) (by simpa using h)
  exact⟨j+1,by simpa using hj⟩
theorem RM(h:Int):SetTable.bits h<32^13:=by unfold SetTable.bits;omega
def CW(mask:Nat)(acc:Option (Array (Option Nat)×Nat))(h:Int):Option (Array (Option Nat)×Nat):=do
 let (owner,k) <-acc
 let j <-SetTable.layClean.free mask owner (SetTable.turns mask) (SetTable.bits h%(mask+1)) (SetTable.bits h)
 pure (owner.setIfInBounds j (some k),k+1)
theorem Ox(hm:Msk mask):∀ (hs:List Int) (owner:Array (Option Nat)) (k:Nat),owner.size=mask+1->(owner.toList.filterMap id).Perm (range k)->k+hs.length<=mask->
  ∃ o',hs.foldl (CW mask) (some (owner,k))=some (o',k+hs.length)/\o'.size=mask+1/\(o'.toList.filterMap id).Perm (range (k+hs.length))
 | [],owner,k,h1,h2,_=>⟨owner,rfl,h1,h2⟩
 |h::hs,owner,k,h1,h2,h3=>by
  rw[List.length_cons]at h3
  obtain⟨j0,hj0⟩:=NC (l:=owner.toList) (by rw[h2.length_eq,length_range,length_toList,h1];omega)
  have hb:j0<owner.size:=by rw[<-length_toList];exact(List.getElem?_eq_some_iff.mp hj0).1
  have hlt:=Nat.mod_lt (SetTable.bits h) (show mask+1>0 by omega)
  obtain⟨j,hf,hj⟩:=Ks hm (j0:=j0) (owner:=owner) (by rw[<-getElem?_toList];exact hj0) (by omega) 13 (SetTable.turns mask) (SetTable.bits h%(mask+1)) (SetTable.bits h) (RM h) (by omega) (by unfold SetTable.turns;omega)
  obtain⟨o',e1,e2,e3⟩:=Ox hm hs (owner.setIfInBounds j (some k)) (k+1) (by rw[Array.size_setIfInBounds,h1])
   (by rw[Array.toList_setIfInBounds];exact(Ty (by rw[getElem?_toList];exact hj)).trans (((h2.cons k).trans (List.perm_append_singleton k _).symm).trans (by rw[List.range_succ]))) (by omega)
  refine⟨o',?_,e2,?_⟩
  .rw[foldl_cons,show CW mask (some (owner,k)) h=some (owner.setIfInBounds j (some k),k+1) by unfold CW;simp[hf],e1,List.length_cons]
   congr 2;omega
  .rw[List.length_cons];rw[show k+1+hs.length=k+(hs.length+1) by omega]at e3;exact e3
theorem BJ(l:List (Option Nat)):((range l.length).filterMap λj=>((l[j]?).getD none).map (j,·)).map (·.2)=l.filterMap id:=by
 rw[List.map_filterMap]
 have e:(λj=>Option.map (λx:Nat×Nat=>x.2) (Option.map (j,·) ((l[j]?).getD none)))=λj=>id ((l[j]?).getD none):=by
  funext j;cases (l[j]?).getD none<;>rfl
 rw[e,show(λj=>id ((l[j]?).getD none))=id∘λj=>(l[j]?).getD none from rfl,<-List.filterMap_map]
 congr 1
 apply List.ext_getElem
 .simp
 .intro i h1 h2
  simp[getElem?_eq_getElem h2]
theorem Mx(hm:Msk mask){finger moves:Nat}{led plain:Bool}{hs:Array Int}(h:hs.size<=mask):
  ∃ t order,SetTable.laid mask finger moves led plain hs=some (t,order)/\order.toList.Perm (range hs.size)/\t.fits hs.size=true/\t.mask=mask/\t.fill=hs.size:=by
 obtain⟨o',e1,e2,e3⟩:=Ox hm hs.toList (Array.replicate (mask+1) none) 0 (by simp) (by simp) (by simpa using h)
 rw[zero_add,length_toList]at e1 e3
 have e:SetTable.layClean mask hs=some o':=by
  unfold SetTable.layClean
  rw[<-Array.foldl_toList]
  exact(congrArg (Option.map (·.1)) (show hs.toList.foldl _ _=_ from e1))
 unfold SetTable.laid
 rw[e]
 have hl:(range (mask+1)).filterMap (λj=>(o'.getD j none).map (j,·))=(range o'.toList.length).filterMap λj=>((o'.toList[j]?).getD none).map (j,·):=by
  rw[length_toList,e2];congr 1;funext j;rw[Array.getD_eq_getD_getElem?,getElem?_toList]
 have hs2:=BJ o'.toList
 rw[<-hl]at hs2
 have hz:((range (mask+1)).filterMap (λj=>(o'.getD j none).map (j,·))).length=hs.size:=by
  have:=congrArg length hs2
  rw[length_map,e3.length_eq,length_range]at this
  exact this
 refine⟨_,_,rfl,?_,?_,rfl,?_⟩
 .exact(Perm.of_eq hs2).trans e3
 .rw[<-hz]at h ⊢;simp[SetTable.fits,SetTable.fill]at h ⊢;exact h
 .rw[<-hz];simp[SetTable.fill]
end
section
variable {prog:Program}{w:World}{K:Type}[DecidableEq K]{knd:KeyKind prog w K}{A:Around}{E:Value->Shared->Prop}{s:Shared}
def Mm(knd:KeyKind prog w K)(es:List (Int×Value))(k:K):Prop:=∃ e∈es,knd.is k e.2=true
def GM(knd:KeyKind prog w K)(es:List (Int×Value)):Prop:=es.Pairwise λe f=>∀ k,knd.is k e.2=true->¬ knd.is k f.2=true
theorem W6:∀ (σ:List K) (es:List (Int×Value)),σ.Nodup->(∀ k∈σ,Mm knd es k)->σ.length<=es.length
 | [],_,_,_=>zero_le _
 |k::σ,es,nd,h=>by
  obtain⟨e,he,hk⟩:=h k mem_cons_self
  obtain⟨l1,l2,rfl⟩:=List.append_of_mem he
  rw[nodup_cons]at nd
  have:=W6 σ (l1++l2) nd.2 λk' h'=>by
   obtain⟨e',he',hk'⟩:=h k' (mem_cons_of_mem _ h')
   refine⟨e',?_,hk'⟩
   simp only[mem_append,mem_cons]at he' ⊢
   rcases he' with z|z|z
   .exact .inl z
   .subst z;exact absurd (knd.inj _ _ _ hk hk'▸h') nd.1
   .exact .inr z
  simp only[length_append,List.length_cons]at this ⊢
  omega
theorem MH:∀ (es:List (Int×Value)) (σ:List K),σ.Nodup->(∀ k,k∈σ↔Mm knd es k)->es.length=σ.length->(∀ e∈es,∃ k,knd.is k e.2=true)->GM knd es
 | [],_,_,_,_,_=>Pairwise.nil
 |e::es,σ,nd,h,hl,hk=>by
  obtain⟨k,hke⟩:=hk e mem_cons_self
  have hkσ:k∈σ:=(h k).mpr ⟨e,mem_cons_self,hke⟩
  have hno:∀ f∈es,¬ knd.is k f.2=true:=λf hf z=>by
   have:=W6 σ es nd λk' h'=>by
    obtain⟨e',he',hk'⟩:=(h k').mp h'
    rcases mem_cons.mp he' with z'|z'
    .subst z';cases knd.inj _ _ _ hke hk';exact⟨f,hf,z⟩
    .exact⟨e',z',hk'⟩
   rw[List.length_cons]at hl;omega
  refine pairwise_cons.mpr ⟨λf hf k' h1 h2=>hno f hf (knd.inj _ _ _ h1 hke▸h2),?_⟩
  refine MH es (σ.erase k) (nd.erase k) (λk'=>?_) ?_ λf hf=>hk f (mem_cons_of_mem _ hf)
  .rw[nd.mem_erase_iff,h k']
   refine⟨λ⟨h1,e',h2,h3⟩=>?_,λ⟨f,h1,h2⟩=>⟨λz=>hno f h1 (z▸h2),f,mem_cons_of_mem _ h1,h2⟩⟩
   rcases mem_cons.mp h2 with z|z
   .subst z;exact absurd (knd.inj _ _ _ h3 hke) h1
   .exact⟨e',z,h3⟩
  .rw[List.length_erase_of_mem hkσ,<-hl,List.length_cons];rfl
theorem HF(ks:List K):(Su ks).Nodup:=by
 unfold Su
 suffices h:∀ (ks σ:List K),σ.Nodup->(ks.foldl WD σ).Nodup from h ks [] List.nodup_nil
 intro ks
 induction ks with
 |nil=>intro σ h;exact h
 |cons k ks ih=>
  intro σ h
  refine ih _ ?_
  unfold WD
  split
  .exact h
  .rename_i hk
   rw[List.nodup_append]
   exact⟨h,by simp,λa ha b hb=>by rw[mem_singleton]at hb;subst hb;exact λz=>hk (z▸ha)⟩
theorem GP{k:K}(ks:List K):k∈Su ks↔k∈ks:=by
 unfold Su
 suffices h:∀ (ks σ:List K),k∈ks.foldl WD σ↔k∈σ\/k∈ks by simpa using h ks []
 intro ks
 induction ks with
 |nil=>intro σ;simp
 |cons x ks ih=>
  intro σ
  rw[foldl_cons,ih,mem_cons]
  have:k∈WD σ x↔k∈σ\/k=x:=by
   unfold WD
   split
   .rename_i hx;exact⟨.inl,λz=>z.elim id λe=>e▸hx⟩
   .simp
  rw[this,or_assoc]
structure At(knd:KeyKind prog w K)(h:Heap)(a:Addr)(o:Obj)(es:Array (Int×Value))(ep:Nat)(t:SetTable):Prop where
 get:h.get? a=some o
 ex:o.ExactSet
 dat:o.data=.set es ep t
 el:ElemsOf knd es.toList
 sz:es.size<64
 fit:t.fits es.size=true
theorem At.ty{a:Addr}{o:Obj}{es:Array (Int×Value)}{ep:Nat}{t:SetTable}(x:At knd s.heap a o es ep t):s.TypeIs (.ref a) "set":=⟨o,x.get,x.ex.1⟩
theorem At.up{h h':Heap}{a:Addr}{o:Obj}{es:Array (Int×Value)}{ep:Nat}{t:SetTable}(x:At knd h a o es ep t)(k:h'.get? a=some o):At knd h' a o es ep t:=⟨k,x.ex,x.dat,x.el,x.sz,x.fit⟩
theorem At.store{h:Heap}{a:Addr}{o:Obj}{es:Array (Int×Value)}{ep:Nat}{t:SetTable}(x:At knd h a o es ep t){es':Array (Int×Value)}{t':SetTable}(el:ElemsOf knd es'.toList)(sz:es'.size<64)(fit:t'.fits es'.size=true):
  At knd (h.update a (Obj.putSet es' t')) a {o with data:=.set es' (ep+1) t'} es' (ep+1) t':=by
 have hg:(h.update a (Obj.putSet es' t')).get? a=some {o with data:=.set es' (ep+1) t'}:=by
  have:=Heap.get?_update_self (Obj.putSet es' t') x.get (by rw[putSet_of es' t' x.dat];rfl)
  rw[putSet_of es' t' x.dat]at this;exact this
 exact⟨hg,x.ex,rfl,el,sz,fit⟩
section
variable {a b r:Addr}{o oo ro:Obj}{es eo re:Array (Int×Value)}{ep epo rp:Nat}{t tb rt:SetTable}
theorem Vc(x:At knd s.heap a o es ep t){Q:(Array (Int×Value)×Nat×SetTable)->Shared->Prop}(h:Q (es,ep,t) s):wpAny (model prog w) A (setState a) Q E s:=wpAny_setState_of x.get x.dat x.fit h
theorem Dp(x:At knd s.heap a o es ep t){Q:Array (Int×Value)->Shared->Prop}(h:Q es s):wpAny (model prog w) A (setEntries a) Q E s:=wpAny_setEntries_of x.get x.dat x.fit h
theorem Pj(x:At knd s.heap a o es ep t){Q:Nat->Shared->Prop}(h:Q es.size s):wpAny (model prog w) A (Builtin.Frozenset.sizeOf a) Q E s:=by
 unfold Builtin.Frozenset.sizeOf
 exact wpAny_bind (Dp x (wpAny_pure h))
theorem Ej(x:At knd s.heap a o es ep t){Q:Nat->Shared->Prop}(h:Q ep s):wpAny (model prog w) A (setEpoch a) Q E s:=wpAny_setEpoch_of x.get x.dat x.fit h
theorem Au(x:At knd s.heap a o es ep t){id:String}{Q:Unit->Shared->Prop}(h:Q () s):wpAny (model prog w) A (Builtin.Frozenset.unchanged id a ep) Q E s:=by
 unfold Builtin.Frozenset.unchanged
 refine wpAny_bind (Ej x ?_)
 rw[if_neg (by simp)]
 exact wpAny_pure h
theorem KB(x:At knd s.heap a o es ep t){k:K}{v:Value}(hk:knd.is k v=true)(hsc:v.scannable=true){Q:Option Nat->Shared->Prop}(h:Q (es.toList.findIdx? λe=>knd.is k e.2) s):
  wpAny (model prog w) A (setFind a v (knd.hash k)) Q E s:=by
 unfold setFind setFindIn
 refine wpAny_bind (Vc x ?_)
 dsimp only
 rw[byScan_of hsc (lt_trans x.sz (by decide)) x.el]
 simp only[↓reduceIte]
 refine wpAny_bind (wpAny_rule ?_)
 refine wpAny_bind (wpAny_setScan_of hk x.get x.dat x.fit x.el ?_)
 cases hr:List.findIdx? (λe=>knd.is k e.2) es.toList with
 |none=>rw[hr]at h;exact wpAny_pure h
 |some j=>rw[hr]at h;dsimp only;rw[zero_add];exact wpAny_pure h
theorem Fj(x:At knd s.heap a o es ep t){es':Array (Int×Value)}{t':SetTable}{Q:Unit->Shared->Prop}(sz:es'.size<64)(h:Q () {s with heap:=s.heap.update a (Obj.putSet es' t')}):wpAny (model prog w) A (storeSet a es' t') Q E s:=
 wpAny_storeSet_of x.get x.dat h (fits_of_scanBound (lt_trans sz (by decide)))
theorem Cs{k:K}:(es.toList.findIdx? λe=>knd.is k e.2).isSome=true↔Mm knd es.toList k:=by
 rw[List.findIdx?_isSome,List.any_eq_true];rfl
theorem Tg(x:At knd s.heap a o es ep t){Q:Bool->Shared->Prop}(h:Q true s):wpAny (model prog w) A (Builtin.Frozenset.isAnySet (.ref a)) Q E s:=by
 unfold Builtin.Frozenset.isAnySet
 refine wpAny_bind (wpAny_isInstance x.ty sub_set_self ?_)
 exact wpAny_pure h
theorem Zt(x:At knd s.heap a o es ep t){Q:Value->Shared->Prop}(h:Q (.type "set") s):wpAny (model prog w) A (Builtin.Frozenset.baseOf a) Q E s:=by
 unfold Builtin.Frozenset.baseOf
 exact wpAny_bind (wpAny_isInstance x.ty sub_set_self (wpAny_pure h))
theorem Cw{others:List Addr}(hq:∀ b∈others,∃ o es ep t,At knd s.heap b o es ep t){Q:Bool->Shared->Prop}(h:Q true s):wpAny (model prog w) A (setsQuiet others) Q E s:=by
 unfold setsQuiet
 refine wpAny_bind (wpAny_forIn_list _ (λrest (b:Option Bool×Unit) s'=>b=(none,())/\s'=s/\∀ x∈rest,x∈others) _ ?_ (λb s' ⟨hb,hs,_⟩=>by subst hb hs;exact wpAny_pure h) others _ ⟨rfl,rfl,λ_ h=>h⟩)
 rintro x rest b s' ⟨rfl,rfl,hm⟩
 obtain⟨o,es,ep,t,g⟩:=hq x (hm x mem_cons_self)
 refine wpAny_bind (Dp g ?_)
 refine wpAny_bind (MeetsSeq2.wpAny_forIn_array _ (λrest (b:Option Bool×Unit) s''=>b=(none,())/\s''=s'/\∀ x∈rest,x∈es.toList) _ ?_ (λb s'' ⟨hb,hs,_⟩=>by subst hb hs;exact wpAny_pure ⟨rfl,rfl,λy hy=>hm y (mem_cons_of_mem _ hy)⟩) es _ ⟨rfl,rfl,λ_ h=>h⟩)
 rintro e rest b s'' ⟨rfl,rfl,hm⟩
 have:=(g.el e (hm e mem_cons_self)).2
 obtain⟨hh,v⟩:=e
 cases v<;>first|exact wpAny_pure ⟨rfl,rfl,λy hy=>hm y (mem_cons_of_mem _ hy)⟩|cases this
theorem MB(x:At knd s.heap a o es ep t){Q:Array (Int×Value)->Shared->Prop}(hs:w.params.followText "set-order"=true\/(t.led=true/\t.plain=true)\/es.size<=1)(h:∀ L:Array (Int×Value),L.toList.Perm es.toList->Q L s):wpAny (model prog w) A (setWalk a) Q E s:=by
 unfold setWalk setsByText
 refine wpAny_bind (Vc x ?_)
 dsimp only
 refine wpAny_bind (wpAny_bind (wpAny_askSetting (wpAny_pure ?_)))
 show wpAny _ _ (if w.params.followText "set-order"=true then _ else _) _ _ _
 by_cases hb:w.params.followText "set-order"=true
 .rw[if_pos hb]
  exact wpAny_bind (wpAny_askSetting (wpAny_pure (h _ (Oq _ _))))
 .rw[if_neg hb]
  rcases hs with z|z
  .exact absurd z hb
  .have e1:(!t.plain&&decide (es.size>1))=false:=by
    rcases z with z|z
    .rw[z.2];rfl
    .rw[decide_eq_false (by omega),Bool.and_false]
   have e2:(!t.led&&decide (es.size>1))=false:=by
    rcases z with z|z
    .rw[z.1];rfl
    .rw[decide_eq_false (by omega),Bool.and_false]
   show wpAny _ _ (if(!t.plain&&decide (es.size>1))=true then _ else _) _ _ _
   rw[e1,if_neg Bool.false_ne_true]
   refine wpAny_bind ?_
   show wpAny _ _ (if(!t.led&&decide (es.size>1))=true then _ else _) _ _ _
   rw[e2,if_neg Bool.false_ne_true]
   exact wpAny_pure (wpAny_pure (h es (Perm.refl _)))
theorem SG(x:At knd s.heap a o es ep t){others:List Addr}(hq:∀ b∈a::others,∃ o es ep t,At knd s.heap b o es ep t){Q:Array (Int×Value)->Shared->Prop}(h:∀ L:Array (Int×Value),L.toList.Perm es.toList->Q L s):
  wpAny (model prog w) A (setWalkUnseen a others none) Q E s:=by
 unfold setWalkUnseen setsByText
 refine wpAny_bind (Vc x ?_)
 dsimp only
 refine wpAny_bind (wpAny_bind (wpAny_askSetting (wpAny_pure ?_)))
 show wpAny _ _ (if(w.params.followText "set-order"||(t.led&&t.plain)||decide (es.size<=1))=true then _ else _) _ _ _
 split
 .rename_i hc
  refine MB x ?_ h
  simp only[Bool.or_eq_true,and_eq_true,decide_eq_true_eq]at hc
  rcases hc with(z|z)|z
  .exact .inl z
  .exact .inr (.inl z)
  .exact .inr (.inr z)
 .refine wpAny_bind (Cw hq ?_)
  exact wpAny_bind (wpAny_rule (wpAny_pure (h es (Perm.refl _))))
theorem Fw(x:At knd s.heap a o es ep t)(y:At knd s.heap r ro re rp rt){others:List Addr}(hq:∀ b∈a::others,∃ o es ep t,At knd s.heap b o es ep t){Q:Array (Int×Value)->Shared->Prop}(h:∀ (L:Array (Int×Value)) h' ro' rp' rt',L.toList.Perm es.toList->SameBut r s.heap h'->At knd h' r ro' re rp' rt'->Q L {s with heap:=h'}):
  wpAny (model prog w) A (setWalkUnseen a others (some r)) Q E s:=by
 unfold setWalkUnseen setsByText
 refine wpAny_bind (Vc x ?_)
 dsimp only
 refine wpAny_bind (wpAny_bind (wpAny_askSetting (wpAny_pure ?_)))
 show wpAny _ _ (if(w.params.followText "set-order"||(t.led&&t.plain)||decide (es.size<=1))=true then _ else _) _ _ _
 have h0:∀ L:Array (Int×Value),L.toList.Perm es.toList->Q L s:=λL p=>h L s.heap _ _ _ p (SameBut.refl _ _) y
 split
 .rename_i hc
  refine MB x ?_ h0
  simp only[Bool.or_eq_true,and_eq_true,decide_eq_true_eq]at hc
  rcases hc with(z|z)|z
  .exact .inl z
  .exact .inr (.inl z)
  .exact .inr (.inr z)
 .refine wpAny_bind (Cw hq ?_)
  refine wpAny_bind (wpAny_rule ?_)
  refine wpAny_bind (Vc y ?_)
  dsimp only
  split
  .refine wpAny_bind (Fj y y.sz (wpAny_pure ?_))
   exact h es _ _ _ _ (Perm.refl _) (SameBut.update _ _ _) (y.store y.el y.sz (by have:=y.fit;cases rt;exact this))
  .exact wpAny_pure (h0 es (Perm.refl _))
theorem BT(x:At knd s.heap r ro re rp rt){k:K}{v:Value}(hk:knd.is k v=true)(hsc:v.scannable=true)(room:re.size+1<64){Q:Bool->Shared->Prop}(h:∀ h' c ro' re' rp' rt',SameBut r s.heap h'->At knd h' r ro' re' rp' rt'->re'.size<=re.size+1->(∀ k',Mm knd re'.toList k'↔Mm knd re.toList k'\/k'=k)->Q c {s with heap:=h'}):
  wpAny (model prog w) A (setAddHashed r v (knd.hash k)) Q E s:=by
 classical
 have hS:s.heap.SetOf knd r (λk=>decide (Mm knd re.toList k)) re.size:=⟨ro,re,rp,rt,x.get,x.ex,x.dat,x.el,λk=>by rw[decide_eq_true_eq];rfl,lt_trans x.sz (by decide),x.fit,rfl⟩
 refine wpAny_setAddHashed_of hk hsc hS (lt_trans room (by decide)) λh' sb hS'=>?_
 obtain⟨o',es',ep',t',g1,g2,g3,g4,g5,g6,g7,g8⟩:=hS'
 have hz:es'.size<=re.size+1:=by rw[g8];split<;>omega
 refine h h' _ o' es' ep' t' sb ⟨g1,g2,g3,g4,by omega,g7⟩ hz λk'=>?_
 have:=g5 k'
 rw[Bool.or_eq_true,decide_eq_true_eq,decide_eq_true_eq]at this
 exact this.symm
theorem Ul{l l':List (Int×Value)}(p:l'.Perm l)(k:K):Mm knd l' k↔Mm knd l k:=⟨λ⟨e,h1,h2⟩=>⟨e,p.mem_iff.mp h1,h2⟩,λ⟨e,h1,h2⟩=>⟨e,p.mem_iff.mpr h1,h2⟩⟩
theorem LB(want:Bool){id:String}(x:At knd s.heap a o es ep t)(y:At knd s.heap b oo eo epo tb)(z:At knd s.heap r ro re rp rt)(hra:r≠a)(hrb:r≠b)(he:re= #[])(L:Array (Int×Value))(hL:ElemsOf knd L.toList)(hz:L.size<63){Q:Unit->Shared->Prop}(h:∀ h' ro' re' rp' rt',SameBut r s.heap h'->At knd h' r ro' re' rp' rt'->(∀ k,Mm knd re'.toList k↔Mm knd L.toList k/\(Mm knd eo.toList k↔want=true))->Q () {s with heap:=h'})(body:Int×Value->Unit->Sem (ForInStep Unit))(hb:∀ e u,body e u=(do holding [e.2] (do if((<-setFind b e.2 e.1).isSome==want)=true then(do let _ <-setAddHashed r e.2 e.1;pure ()) else pure ());Builtin.Frozenset.unchanged id a ep;pure (ForInStep.yield ()))):
  wpAny (model prog w) A (forIn L () body) Q E s:=by
 subst he
 refine MeetsSeq2.wpAny_forIn_array _ (λrest _ s'=>∃ done h' ro' re' rp' rt',L.toList=done++rest/\s'= {s with heap:=h'}/\SameBut r s.heap h'/\At knd h' r ro' re' rp' rt'/\re'.size<=done.length/\(∀ k,Mm knd re'.toList k↔Mm knd done k/\(Mm knd eo.toList k↔want=true))) _ ?_ ?_ L () ⟨[],s.heap,ro,#[],rp,rt,rfl,rfl,SameBut.refl _ _,z,by simp,λk=>⟨λ⟨_,q,_⟩=>by simp at q,λ⟨⟨_,q,_⟩,_⟩=>by simp at q⟩⟩
 .rintro e rest u s' ⟨done,h',ro',re',rp',rt',e1,rfl,sb,g,hsz,mm⟩
  rw[hb]
  have hee:=hL e (by rw[e1];simp)
  obtain⟨⟨k,hk,hh⟩,hsc⟩:=hee
  have x':At knd h' a o es ep t:=x.up (sb.extBut _ _ (Ne.symm hra) x.get)
  have y':At knd h' b oo eo epo tb:=y.up (sb.extBut _ _ (Ne.symm hrb) y.get)
  have hl:done.length+(rest.length+1)=L.size:=by rw[<-length_toList,e1];simp
  refine wpAny_bind (wpAny_holding (wpAny_bind ?_))
  rw[hh]
  refine KB (s:= {s with heap:=h'}) y' hk hsc ?_
  have fs:=Cs (knd:=knd) (es:=eo) (k:=k)
  have step:∀ h2 ro2 re2 rp2 rt2,SameBut r h' h2->At knd h2 r ro2 re2 rp2 rt2->re2.size<=re'.size+1->(∀ k',Mm knd re2.toList k'↔Mm knd (done++ [e]) k'/\(Mm knd eo.toList k'↔want=true))->
    ∃ done h3 ro' re' rp' rt',L.toList=done++rest/\({s with heap:=h2}:Shared)= {s with heap:=h3}/\SameBut r s.heap h3/\At knd h3 r ro' re' rp' rt'/\re'.size<=done.length/\(∀ k,Mm knd re'.toList k↔Mm knd done k/\(Mm knd eo.toList k↔want=true)):=λh2 ro2 re2 rp2 rt2 sb2 g2 hs2 mm2=>
   ⟨done++ [e],h2,ro2,re2,rp2,rt2,by rw[e1];simp,rfl,sb.trans sb2,g2,by rw[length_append,length_singleton];omega,mm2⟩
  have app:∀ k',Mm knd (done++ [e]) k'↔Mm knd done k'\/k'=k:=λk'=>by
   constructor
   .rintro⟨f,h1,h2⟩
    rcases mem_append.mp h1 with q|q
    .exact .inl ⟨f,q,h2⟩
    .rw[mem_singleton]at q;subst q;exact .inr (knd.inj _ _ _ h2 hk)
   .rintro(⟨f,h1,h2⟩|rfl)
    .exact⟨f,mem_append_left _ h1,h2⟩
    .exact⟨e,by simp,hk⟩
  split
  .rename_i hc
   refine wpAny_bind (BT (s:= {s with heap:=h'}) g hk hsc (by omega) λh2 c ro2 re2 rp2 rt2 sb2 g2 hs2 mm2=>wpAny_pure (wpAny_bind (Au (s:= {s with heap:=h2}) (x'.up (sb2.extBut _ _ (Ne.symm hra) x'.get)) (wpAny_pure (step h2 ro2 re2 rp2 rt2 sb2 g2 hs2 λk'=>?_)))))
   rw[mm2,mm,app]
   have:Mm knd eo.toList k↔want=true:=by rw[<-fs,beq_iff_eq.mp hc]
   constructor
   .rintro(⟨q1,q2⟩|rfl)
    .exact⟨.inl q1,q2⟩
    .exact⟨.inr rfl,this⟩
   .rintro⟨q1|rfl,q2⟩
    .exact .inl ⟨q1,q2⟩
    .exact .inr rfl
  .rename_i hc
   refine wpAny_pure (wpAny_bind (Au (s:= {s with heap:=h'}) x' (wpAny_pure (step h' ro' re' rp' rt' (SameBut.refl _ _) g (by omega) λk'=>?_))))
   rw[mm,app]
   have:¬ (Mm knd eo.toList k↔want=true):=λq=>hc (by rw[beq_iff_eq];rw[<-fs]at q;exact Bool.eq_iff_iff.mpr q)
   constructor
   .rintro⟨q1,q2⟩;exact⟨.inl q1,q2⟩
   .rintro⟨q1|rfl,q2⟩
    .exact⟨q1,q2⟩
    .exact absurd q2 this
 .rintro u s' ⟨done,h',ro',re',rp',rt',e1,rfl,sb,g,hsz,mm⟩
  rw[append_nil]at e1
  rw[<-e1]at mm
  exact h h' ro' re' rp' rt' sb g mm
end
end
variable{prog:Program}{w:World}{K:Type}{A:Around}{E Q:Value->Shared->Prop}{s:Shared}{a b r:Addr}{o oo ro:Obj}{es eo re:Array (Int×Value)}{ep epo rp:Nat}{tb rt:SetTable}
section
variable [DecidableEq K]{knd:KeyKind prog w K}
variable {t:SetTable}
theorem Bw:∀ n,n<128->(Msk (SetTable.sizeAbove n-1))/\n<=SetTable.sizeAbove n-1/\SetTable.sizeAbove n<=128:=by
 have h:(range 128).all (λn=>decide ((SetTable.sizeAbove n-1=7\/SetTable.sizeAbove n-1=15\/SetTable.sizeAbove n-1=31\/SetTable.sizeAbove n-1=63\/SetTable.sizeAbove n-1=127)/\n<=SetTable.sizeAbove n-1/\SetTable.sizeAbove n<=128))=true:=by decide +kernel
 intro n hn
 have:=all_eq_true.mp h n (mem_range.mpr hn)
 rw[decide_eq_true_eq]at this
 exact this
theorem Ew{es:Array (Int×Value)}{l:Option (SetTable×Array Nat)}{t:SetTable}{order:Array Nat}{Q:Array (Int×Value)×SetTable->Shared->Prop}(hl:l=some (t,order))(hp:order.toList.Perm (range es.size))(h:∀ es':Array (Int×Value),es'.toList.Perm es.toList->Q (es',t) s):
  wpAny (model prog w) A (do
   let some (t,order):=l|unsupported "internal:set-table-without-room"
   let es':=order.filterMap (es[·]?)
   if es'.size != es.size then unsupported "internal:set-table-lost-an-element"
   pure (es',t)) Q E s:=by
 subst hl
 dsimp only
 have p:(order.filterMap (es[·]?)).toList.Perm es.toList:=by
  rw[Array.toList_filterMap]
  exact(hp.filterMap _).trans (by rw[filterMap_getElem?_range])
 have e:(order.filterMap (es[·]?)).size=es.size:=by rw[<-length_toList,p.length_eq,length_toList]
 rw[if_neg (by rw[e];simp)]
 exact wpAny_pure (h _ p)
theorem Dw(x:At knd s.heap r ro re rp rt)(hn:n<128)(hz:re.size<=n){Q:Unit->Shared->Prop}(h:∀ h' ro' re' rp' rt',SameBut r s.heap h'->At knd h' r ro' re' rp' rt'->re'.toList.Perm re.toList->rt'.mask=SetTable.sizeAbove n-1->rt'.fill=re.size->Q () {s with heap:=h'}):
  wpAny (model prog w) A (setRelay r n) Q E s:=by
 obtain⟨hm,h1,h2⟩:=Bw n hn
 unfold setRelay
 refine wpAny_bind (Vc x ?_)
 dsimp only
 rw[if_neg (by rw[sizeLine_eq];omega)]
 obtain⟨t',order,e1,e2,e3,e4,e5⟩:=Mx hm (finger:=rt.finger) (moves:=rt.movedTo (SetTable.sizeAbove n-1)) (led:=rt.led) (plain:=rt.plain) (hs:=re.map (·.1)) (by rw[size_map];omega)
 rw[size_map]at e2 e3 e5
 refine wpAny_bind (Ew (t:=t') (order:=order) e1 e2 λes' p=>?_)
 have ez:es'.size=re.size:=by rw[<-length_toList,p.length_eq,length_toList]
 dsimp only
 refine Fj x (by rw[ez];exact x.sz) ?_
 exact h _ _ _ _ _ (SameBut.update _ _ _) (x.store (x.el.perm p) (by rw[ez];exact x.sz) (by rw[ez];exact e3)) p e4 e5
theorem Iz(h:∀ ro led,(s.heap.get? s.heap.objs.size=none)->At knd (s.heap.push {cls:=.type "set",dict:=none,data:=.set #[] 0 (.fresh 0 0 led)}) s.heap.objs.size ro #[] 0 (.fresh 0 0 led)->
   Q (.ref s.heap.objs.size) {s with heap:=s.heap.push {cls:=.type "set",dict:=none,data:=.set #[] 0 (.fresh 0 0 led)}}):
  wpAny (model prog w) A (newSet (.type "set")) Q E s:=by
 unfold newSet setsByText
 refine wpAny_bind (wpAny_bind (wpAny_askSetting (wpAny_pure ?_)))
 dsimp only
 simp only[newObj]
 refine wpAny_bind (wpAny_alloc (wpAny_pure (h _ _ ?_ ⟨get?_push_size _ rfl,⟨rfl,rfl,rfl⟩,rfl,λe he=>by simp at he,by decide,by rfl⟩)))
 cases hg:s.heap.get? s.heap.objs.size with
 |none=>rfl
 |some o=>exact absurd (lt_size hg) (lt_irrefl _)
theorem NM(x:At knd s.heap a o es ep t)(hz:es.size<32)(h:∀ h' ro' re' rp' rt',(∀ b o,s.heap.get? b=some o->h'.get? b=some o)->At knd h' s.heap.objs.size ro' re' rp' rt'->re'.toList.Perm es.toList->Q (.ref s.heap.objs.size) {s with heap:=h'}):
  wpAny (model prog w) A (Builtin.Frozenset.copyOf a) Q E s:=by
 unfold Builtin.Frozenset.copyOf
 refine wpAny_bind (Zt x (wpAny_bind (Iz (knd:=knd) λro led hno y=>?_)))
 generalize hg:s.heap.push {cls:=.type "set",dict:=none,data:=.set #[] 0 (.fresh 0 0 led)}=h1 at y
 have k1:∀ b o,s.heap.get? b=some o->h1.get? b=some o:=λb o e=>by rw[<-hg];exact get?_push_of_some _ e
 have x1:At knd h1 a o es ep t:=x.up (k1 _ _ x.get)
 have lt:∀ b o,s.heap.get? b=some o->b≠s.heap.objs.size:=λb o e=>ne_of_lt (lt_size e)
 clear hg
 generalize s.heap.objs.size=r at y lt h ⊢
 have hra:r≠a:=Ne.symm (lt _ _ x.get)
 have kk:∀ h2,SameBut r h1 h2->∀ b o,s.heap.get? b=some o->h2.get? b=some o:=λh2 sb b o e=>sb.extBut _ _ (lt _ _ e) (k1 _ _ e)
 refine wpAny_bind (wpAny_pure (wpAny_bind ?_))
 unfold setMerge
 rw[if_neg (by simpa using hra)]
 refine wpAny_bind (Vc (s:= {s with heap:=h1}) x1 ?_)
 dsimp only
 split
 .rename_i he
  have:es= #[]:=by simpa using he
  subst this
  exact wpAny_pure (wpAny_pure (h _ _ _ _ _ k1 y (Perm.refl _)))
 .have go:∀ h2 ro2 re2 rp2 rt2,SameBut r h1 h2->At knd h2 r ro2 re2 rp2 rt2->Msk rt2.mask->es.size<=rt2.mask->rt2.fill=0->
    wpAny (model prog w) A (do
     let (_,_,ts) <-setState r
     match ts.road t with
     | .slotForSlot=>storeSet r es {t with finger:=ts.finger,led:=ts.led&&t.led,moves:=ts.moves,plain:=ts.plain&&t.plain}
     | .clean=>do
      let (es,t) <-(do
       let some (t,order):=(SetTable.laid ts.mask ts.finger ts.moves (led:=ts.led&&t.led) (plain:=ts.plain&&t.plain) (es.map (·.1)))|unsupported "internal:set-table-without-room"
       let es':=order.filterMap (es[·]?)
       if es'.size != es.size then unsupported "internal:set-table-lost-an-element"
       pure (es',t))
      storeSet r es t
     | .oneByOne=>do
      for (h,x) in <-setWalkUnseen a [r] (some r) do
       let _ <-holding [x] (setAddHashed r x h)
       pure ()
       if(<-setState a).2.1 != ep then unsupported "set.changed-during-merge")
     (λ_ s'=>wpAny (model prog w) A (pure (Value.ref r)) Q E s') E {s with heap:=h2}:=λh2 ro2 re2 rp2 rt2 sb y2 hm hn hf=>by
   refine wpAny_bind (Vc (s:= {s with heap:=h2}) y2 ?_)
   dsimp only
   unfold SetTable.road
   rw[hf,if_neg (by simp)]
   split
   .rename_i hr
    split at hr
    .refine Fj (s:= {s with heap:=h2}) y2 x.sz (wpAny_pure ?_)
     exact h _ _ _ _ _ (kk _ (sb.trans (SameBut.update _ _ _))) (y2.store x.el x.sz (show SetTable.fits _ _=true from x.fit)) (Perm.refl _)
    .cases hr
   .obtain⟨t',order,e1,e2,e3,e4,e5⟩:=Mx hm (finger:=rt2.finger) (moves:=rt2.moves) (led:=rt2.led&&t.led) (plain:=rt2.plain&&t.plain) (hs:=es.map (·.1)) (by rw[size_map];exact hn)
    rw[size_map]at e2 e3
    refine wpAny_bind (Ew (t:=t') (order:=order) e1 e2 λes' p=>?_)
    have ez:es'.size=es.size:=by rw[<-length_toList,p.length_eq,length_toList]
    dsimp only
    refine Fj (s:= {s with heap:=h2}) y2 (by rw[ez];exact x.sz) (wpAny_pure ?_)
    exact h _ _ _ _ _ (kk _ (sb.trans (SameBut.update _ _ _))) (y2.store (x.el.perm p) (by rw[ez];exact x.sz) (by rw[ez];exact e3)) p
   .rename_i hr
    split at hr<;>cases hr
  refine wpAny_bind ?_
  unfold setRoomFor
  refine wpAny_bind (Vc (s:= {s with heap:=h1}) y ?_)
  show wpAny _ _ (match (if(0+es.size)*5>=7*3 then some ((0+es.size)*2) else none) with|some wanted=>setRelay r wanted|_=>pure PUnit.unit) _ _ _
  split
  .rename_i wanted hw
   split at hw
   .cases hw
    refine Dw (s:= {s with heap:=h1}) y (by omega) (by simp) λh2 ro2 re2 rp2 rt2 sb y2 p e4 e5=>?_
    obtain⟨hm,h1,_⟩:=Bw ((0+es.size)*2) (by omega)
    exact go h2 ro2 re2 rp2 rt2 sb y2 (by rw[e4];exact hm) (by rw[e4];omega) e5
   .cases hw
  .rename_i hw
   split at hw
   .exact absurd rfl (hw _)
   .exact wpAny_pure (go h1 _ _ _ _ (SameBut.refl _ _) y (.inl rfl) (by show _<=7;omega) rfl)
end
section
variable [DecidableEq K]{knd:KeyKind prog w K}
variable {t:SetTable}
theorem Xp{α:Type}(xs:Array α)(i:Nat):(SetTable.eraseAt xs i).toList=xs.toList.take i++xs.toList.drop (i+1):=by
 simp[SetTable.eraseAt,List.extract_eq_take_drop,List.take_of_length_le]
theorem FE(h:t.fits n=true)(hi:i<n):(t.drop i).fits (n-1)=true:=by
 unfold SetTable.fits at h ⊢
 rw[and_eq_true,beq_iff_eq,decide_eq_true_eq]at h
 have hp:t.place[i]? =some (t.place[i]'(by omega)):=Array.getElem?_eq_getElem _
 unfold SetTable.drop
 rw[hp]
 have h1:(SetTable.eraseAt t.place i).size=n-1:=by rw[<-length_toList,Xp];simp;omega
 have h2:∀ p j,(SetTable.insertAt t.dummies p j).size=t.dummies.size+1:=λp j=>by
  rw[<-length_toList,(SetTable.insertAt_perm _ _ _).length_eq];simp
 have h3:=h.2
 unfold SetTable.fill at h3 ⊢
 simp only[h1,h2,and_eq_true,beq_self_eq_true,true_and,decide_eq_true_eq]
 omega
theorem OM(x:At knd s.heap r ro re rp rt)(hd:GM knd re.toList){k:K}{v:Value}(hk:knd.is k v=true)(hsc:v.scannable=true){Q:Bool->Shared->Prop}(h:∀ h' c ro' re' rp' rt',SameBut r s.heap h'->At knd h' r ro' re' rp' rt'->GM knd re'.toList->re'.size<=re.size->(∀ k',Mm knd re'.toList k'↔Mm knd re.toList k'/\k'≠k)->Q c {s with heap:=h'}):
  wpAny (model prog w) A (setDiscardHashed r v (knd.hash k)) Q E s:=by
 unfold setDiscardHashed
 refine wpAny_bind (KB x hk hsc ?_)
 cases hf:re.toList.findIdx? λe=>knd.is k e.2 with
 |none=>
  refine wpAny_pure (h s.heap _ _ _ _ _ (SameBut.refl _ _) x hd (le_refl _) λk'=>⟨λq=>⟨q,λz=>?_⟩,λq=>q.1⟩)
  subst z
  have:=(Cs (knd:=knd) (es:=re)).mpr q
  rw[hf]at this;cases this
 |some i=>
  obtain⟨hi,hki,_⟩:=List.findIdx?_eq_some_iff_getElem.mp hf
  dsimp only
  refine wpAny_bind (Vc x ?_)
  dsimp only
  have hi':i<re.size:=by rw[<-length_toList];exact hi
  have el:=Xp re i
  have hsub:∀ e∈(SetTable.eraseAt re i).toList,e∈re.toList:=λe he=>by
   rw[el]at he
   rcases mem_append.mp he with q|q
   .exact List.mem_of_mem_take q
   .exact List.mem_of_mem_drop q
  have hz:(SetTable.eraseAt re i).size=re.size-1:=by rw[<-length_toList,el];simp;omega
  have split:re.toList=re.toList.take i++re.toList[i]::re.toList.drop (i+1):=by
   rw[<-List.drop_eq_getElem_cons hi,List.take_append_drop]
  have hd2:=hd
  unfold GM at hd2
  rw[split,List.pairwise_append,pairwise_cons]at hd2
  have hel:ElemsOf knd (SetTable.eraseAt re i).toList:=λe he=>x.el e (hsub e he)
  have fit:(rt.drop i).fits (SetTable.eraseAt re i).size=true:=by rw[hz];exact FE x.fit hi'
  refine wpAny_bind (Fj x (by rw[hz];have:=x.sz;omega) (wpAny_bind (wpAny_point (wpAny_pure ?_))))
  refine h _ _ _ _ _ _ (SameBut.update _ _ _) (x.store hel (by rw[hz];have:=x.sz;omega) fit) ?_ (by omega) λk'=>?_
  .unfold GM
   rw[el,List.pairwise_append]
   exact⟨hd2.1,hd2.2.1.2,λe he f hf=>hd2.2.2 e he f (mem_cons_of_mem _ hf)⟩
  .constructor
   .rintro⟨e,he,hke⟩
    refine⟨⟨e,hsub e he,hke⟩,λz=>?_⟩
    subst z
    rw[el]at he
    rcases mem_append.mp he with q|q
    .exact hd2.2.2 e q _ mem_cons_self k' hke hki
    .exact hd2.2.1.1 e q k' hki hke
   .rintro⟨⟨e,he,hke⟩,hne⟩
    refine⟨e,?_,hke⟩
    rw[split]at he
    rw[el]
    rcases mem_append.mp he with q|q
    .exact mem_append_left _ q
    .rcases mem_cons.mp q with q|q
     .exact absurd (knd.inj _ _ _ hke (q▸hki)) hne
     .exact mem_append_right _ q
theorem RG{id:String}(y:At knd s.heap b oo eo epo tb)(z:At knd s.heap r ro re rp rt)(hd:GM knd re.toList)(hrb:r≠b)(L:Array (Int×Value))(hL:ElemsOf knd L.toList){Q:Unit->Shared->Prop}(h:∀ h' ro' re' rp' rt',SameBut r s.heap h'->At knd h' r ro' re' rp' rt'->re'.size<=re.size->(∀ k,Mm knd re'.toList k↔Mm knd re.toList k/\¬ Mm knd L.toList k)->Q () {s with heap:=h'})(body:Int×Value->Unit->Sem (ForInStep Unit))(hb:∀ e u,body e u=(do let _ <-holding [e.2] (setDiscardHashed r e.2 e.1);Builtin.Frozenset.unchanged id b epo;pure (ForInStep.yield ()))):
  wpAny (model prog w) A (forIn L () body) Q E s:=by
 refine MeetsSeq2.wpAny_forIn_array _ (λrest _ s'=>∃ done h' ro' re' rp' rt',L.toList=done++rest/\s'= {s with heap:=h'}/\SameBut r s.heap h'/\At knd h' r ro' re' rp' rt'/\GM knd re'.toList/\re'.size<=re.size/\(∀ k,Mm knd re'.toList k↔Mm knd re.toList k/\¬ Mm knd done k)) _ ?_ ?_ L () ⟨[],s.heap,ro,re,rp,rt,rfl,rfl,SameBut.refl _ _,z,hd,le_refl _,λk=>⟨λq=>⟨q,λ⟨_,q,_⟩=>by simp at q⟩,λq=>q.1⟩⟩
 .rintro e rest u s' ⟨done,h',ro',re',rp',rt',e1,rfl,sb,g,hd',hsz,mm⟩
  rw[hb]
  obtain⟨⟨k,hk,hh⟩,hsc⟩:=hL e (by rw[e1];simp)
  have y':At knd h' b oo eo epo tb:=y.up (sb.extBut _ _ (Ne.symm hrb) y.get)
  refine wpAny_bind (wpAny_holding ?_)
  rw[hh]
  refine OM (s:= {s with heap:=h'}) g hd' hk hsc λh2 c ro2 re2 rp2 rt2 sb2 g2 hd2 hs2 mm2=>?_
  refine wpAny_bind (Au (s:= {s with heap:=h2}) (y'.up (sb2.extBut _ _ (Ne.symm hrb) y'.get)) (wpAny_pure ⟨done++ [e],h2,ro2,re2,rp2,rt2,by rw[e1];simp,rfl,sb.trans sb2,g2,hd2,by omega,λk'=>?_⟩))
  rw[mm2,mm]
  constructor
  .rintro⟨⟨q1,q2⟩,q3⟩
   refine⟨q1,λ⟨f,h1,h2⟩=>?_⟩
   rcases mem_append.mp h1 with q|q
   .exact q2 ⟨f,q,h2⟩
   .rw[mem_singleton]at q;subst q;exact q3 (knd.inj _ _ _ h2 hk)
  .rintro⟨q1,q2⟩
   exact⟨⟨q1,λ⟨f,h1,h2⟩=>q2 ⟨f,mem_append_left _ h1,h2⟩⟩,λz=>q2 ⟨e,by simp,z▸hk⟩⟩
 .rintro u s' ⟨done,h',ro',re',rp',rt',e1,rfl,sb,g,_,hsz,mm⟩
  rw[append_nil]at e1
  rw[<-e1]at mm
  exact h h' ro' re' rp' rt' sb g hsz mm
theorem PM(x:At knd s.heap r ro re rp rt)(hz:re.size<32){Q:Unit->Shared->Prop}(h:∀ h' ro' re' rp' rt',SameBut r s.heap h'->At knd h' r ro' re' rp' rt'->re'.toList.Perm re.toList->Q () {s with heap:=h'}):wpAny (model prog w) A (setTidy r) Q E s:=by
 unfold setTidy
 refine wpAny_bind (Vc x ?_)
 dsimp only
 split
 .have:SetTable.grown re.size=re.size*4:=if_neg (by omega)
  rw[this]
  exact Dw x (by omega) (by omega) λh' ro' re' rp' rt' sb y p _ _=>h h' ro' re' rp' rt' sb y p
 .exact wpAny_pure (h s.heap _ _ _ _ (SameBut.refl _ _) x (Perm.refl _))
def Tr(knd:KeyKind prog w K)(s:Shared)(P:K->Prop)(Q:Value->Shared->Prop):Prop:=
 ∀ h' ro' re' rp' rt',(∀ b o,s.heap.get? b=some o->h'.get? b=some o)->At knd h' s.heap.objs.size ro' re' rp' rt'->(∀ k,Mm knd re'.toList k↔P k)->Q (.ref s.heap.objs.size) {s with heap:=h'}
theorem ET{id:String}(x:At knd s.heap a o es ep t)(y:At knd s.heap b oo eo epo tb)(hd:GM knd es.toList)(hz:es.size<32)(hzo:eo.size<32)(h:Tr knd s (λk=>Mm knd es.toList k/\¬ Mm knd eo.toList k) Q):
  wpAny (model prog w) A (Builtin.Frozenset.difference id a (.ref b)) Q E s:=by
 unfold Builtin.Frozenset.difference
 refine wpAny_bind (Tg y ?_)
 simp only[Bool.not_true,false_eq_true,if_false,Bool.false_and,if_true]
 refine wpAny_bind (wpAny_pure (wpAny_bind (Pj y (wpAny_bind (Pj x ?_)))))
 have lt:∀ b o,s.heap.get? b=some o->s.heap.objs.size≠b:=λb o e=>ne_of_gt (lt_size e)
 split
 .refine wpAny_bind (wpAny_rule (wpAny_bind (NM x hz λh1 ro re rp rt k1 g p=>?_)))
  have hlen:re.size=es.size:=by rw[<-length_toList,p.length_eq,length_toList]
  refine wpAny_bind (wpAny_pure ?_)
  have y1:At knd h1 b oo eo epo tb:=y.up (k1 _ _ y.get)
  have hrb:=lt _ _ y.get
  have x1:At knd h1 a o es ep t:=x.up (k1 _ _ x.get)
  unfold Tr at h
  generalize s.heap.objs.size=r at g lt hrb h ⊢
  refine wpAny_bind (wpAny_holding ?_)
  unfold Builtin.Frozenset.differenceUpdate
  rw[if_neg (by simpa using Ne.symm hrb)]
  refine wpAny_bind (Tg (s:= {s with heap:=h1}) y1 ?_)
  simp only[if_true]
  refine wpAny_bind (wpAny_pure (wpAny_bind (Pj (s:= {s with heap:=h1}) y1 (wpAny_bind (Pj (s:= {s with heap:=h1}) g ?_)))))
  rw[if_neg (by omega)]
  refine wpAny_bind (Ej (s:= {s with heap:=h1}) y1 ?_)
  refine wpAny_bind (wpAny_holding (wpAny_bind (SG (s:= {s with heap:=h1}) y1 (λc hc=>?_) λL pL=>wpAny_bind ?_)))
  .rcases mem_cons.mp hc with z|z
   .subst z;exact⟨_,_,_,_,y1⟩
   .rw[mem_singleton]at z;subst z;exact⟨_,_,_,_,g⟩
  refine RG (s:= {s with heap:=h1}) (id:=id) y1 g (hd.perm p.symm λ{e f} q k h1 h2=>q k h2 h1) hrb L (y1.el.perm pL) (λh2 ro2 re2 rp2 rt2 sb g2 hs2 mm=>wpAny_pure ?_) _ λe u=>rfl
  refine PM (s:= {s with heap:=h2}) g2 (by omega) λh3 ro3 re3 rp3 rt3 sb3 g3 p3=>wpAny_pure ?_
  refine h h3 ro3 re3 rp3 rt3 (λc oc e=>(sb.trans sb3).extBut _ _ (Ne.symm (lt _ _ e)) (k1 _ _ e)) g3 λk=>?_
  rw[Ul p3,mm,Ul p,Ul pL]
 .refine wpAny_bind (Zt x (wpAny_bind (Iz (knd:=knd) λro led hno z=>wpAny_bind (wpAny_pure ?_))))
  generalize hg:s.heap.push {cls:=.type "set",dict:=none,data:=.set #[] 0 (.fresh 0 0 led)}=h1 at z ⊢
  have k1:∀ b o,s.heap.get? b=some o->h1.get? b=some o:=λb o e=>by rw[<-hg];exact get?_push_of_some _ e
  clear hg
  unfold Tr at h
  generalize s.heap.objs.size=r at z lt h ⊢
  have x1:At knd h1 a o es ep t:=x.up (k1 _ _ x.get)
  have y1:At knd h1 b oo eo epo tb:=y.up (k1 _ _ y.get)
  have hra:=lt _ _ x.get
  have hrb:=lt _ _ y.get
  refine wpAny_bind (Ej (s:= {s with heap:=h1}) x1 ?_)
  refine wpAny_bind (wpAny_holding (wpAny_bind (Fw (s:= {s with heap:=h1}) x1 z (λc hc=>?_) λL h2 ro2 rp2 rt2 pL sb g=>?_)))
  .simp only[mem_cons,not_mem_nil,or_false]at hc
   rcases hc with q|q|q
   .subst q;exact⟨_,_,_,_,x1⟩
   .subst q;exact⟨_,_,_,_,y1⟩
   .subst q;exact⟨_,_,_,_,z⟩
  have x2:At knd h2 a o es ep t:=x1.up (sb.extBut _ _ (Ne.symm hra) x1.get)
  have y2:At knd h2 b oo eo epo tb:=y1.up (sb.extBut _ _ (Ne.symm hrb) y1.get)
  have hlen:L.size=es.size:=by rw[<-length_toList,pL.length_eq,length_toList]
  refine wpAny_bind ?_
  refine LB (s:= {s with heap:=h2}) false (id:=id) x2 y2 g hra hrb rfl L (x2.el.perm pL) (by omega) (λh3 ro3 re3 rp3 rt3 sb3 g3 mm=>?_) _ λe u=>?_
  .refine wpAny_pure ?_
   refine wpAny_pure ?_
   refine h h3 ro3 re3 rp3 rt3 (λc oc e=>(sb.trans sb3).extBut _ _ (Ne.symm (lt _ _ e)) (k1 _ _ e)) g3 λk=>?_
   rw[mm,Ul pL];simp
  .simp
theorem CT{id:String}(x:At knd s.heap a o es ep t)(y:At knd s.heap b oo eo epo tb)(hne:a≠b)(hz:es.size<32)(hzo:eo.size<32)(h:Tr knd s (λk=>Mm knd es.toList k/\Mm knd eo.toList k) Q):
  wpAny (model prog w) A (Builtin.Frozenset.intersection id a (.ref b)) Q E s:=by
 unfold Builtin.Frozenset.intersection
 rw[if_neg (by simpa using Ne.symm hne)]
 have lt:∀ b o,s.heap.get? b=some o->s.heap.objs.size≠b:=λb o e=>ne_of_gt (lt_size e)
 refine wpAny_bind (Zt x (wpAny_bind (Iz (knd:=knd) λro led hno z=>wpAny_bind (wpAny_pure ?_))))
 generalize hg:s.heap.push {cls:=.type "set",dict:=none,data:=.set #[] 0 (.fresh 0 0 led)}=h1 at z ⊢
 have k1:∀ b o,s.heap.get? b=some o->h1.get? b=some o:=λb o e=>by rw[<-hg];exact get?_push_of_some _ e
 clear hg
 unfold Tr at h
 generalize s.heap.objs.size=r at z lt h ⊢
 have x1:At knd h1 a o es ep t:=x.up (k1 _ _ x.get)
 have y1:At knd h1 b oo eo epo tb:=y.up (k1 _ _ y.get)
 have hra:=lt _ _ x.get
 have hrb:=lt _ _ y.get
 refine wpAny_bind (wpAny_holding (wpAny_bind (Tg (s:= {s with heap:=h1}) y1 ?_)))
 simp only[if_true]
 refine wpAny_bind (wpAny_pure (wpAny_bind (Pj (s:= {s with heap:=h1}) y1 (wpAny_bind (Pj (s:= {s with heap:=h1}) x1 ?_)))))
 have main:∀ {c d:Addr} {oc od:Obj} {ec ed:Array (Int×Value)} {pc pd:Nat} {tc td:SetTable},At knd h1 c oc ec pc tc->At knd h1 d od ed pd td->r≠c->r≠d->ec.size<32->(∀ k,(Mm knd es.toList k/\Mm knd eo.toList k)↔(Mm knd ec.toList k/\Mm knd ed.toList k))->∀ (body:Int×Value->Unit->Sem (ForInStep Unit)),(∀ e u,body e u=(do holding [e.2] (do if((<-setFind d e.2 e.1).isSome==true)=true then(do let _ <-setAddHashed r e.2 e.1;pure ()) else pure ());Builtin.Frozenset.unchanged id c pc;pure (ForInStep.yield ())))->
   wpAny (model prog w) A (do let L <-setWalkUnseen c [d,r] (some r);forIn L () body;pure ()) (λ_ s'=>wpAny (model prog w) A (pure (Value.ref r)) Q E s') E {s with heap:=h1}:=by
  intro c d oc od ec ed pc pd tc td xc yd hrc hrd hsz hmm body hbody
  refine wpAny_bind (Fw (s:= {s with heap:=h1}) xc z (λq hq=>?_) λL h2 ro2 rp2 rt2 pL sb g=>?_)
  .simp only[mem_cons,not_mem_nil,or_false]at hq
   rcases hq with e|e|e
   .subst e;exact⟨_,_,_,_,xc⟩
   .subst e;exact⟨_,_,_,_,yd⟩
   .subst e;exact⟨_,_,_,_,z⟩
  have x2:At knd h2 c oc ec pc tc:=xc.up (sb.extBut _ _ (Ne.symm hrc) xc.get)
  have y2:At knd h2 d od ed pd td:=yd.up (sb.extBut _ _ (Ne.symm hrd) yd.get)
  have hlen:L.size=ec.size:=by rw[<-length_toList,pL.length_eq,length_toList]
  refine wpAny_bind ?_
  refine LB (s:= {s with heap:=h2}) true (id:=id) x2 y2 g hrc hrd rfl L (x2.el.perm pL) (by omega) (λh3 ro3 re3 rp3 rt3 sb3 g3 mm=>?_) body hbody
  refine wpAny_pure ?_
  refine wpAny_pure ?_
  refine h h3 ro3 re3 rp3 rt3 (λc oc e=>(sb.trans sb3).extBut _ _ (Ne.symm (lt _ _ e)) (k1 _ _ e)) g3 λk=>?_
  rw[mm,Ul pL]
  simp only[iff_true]
  exact(hmm k).symm
 split
 .dsimp only
  refine wpAny_bind (Ej (s:= {s with heap:=h1}) x1 ?_)
  exact main x1 y1 hra hrb hz (λk=>Iff.rfl) _ λe u=>by simp
 .dsimp only
  refine wpAny_bind (Ej (s:= {s with heap:=h1}) y1 ?_)
  exact main y1 x1 hrb hra hzo (λk=>And.comm) _ λe u=>by simp
end
open PySem.Spec PyProof.Rows L2 SeqAt
theorem Er:entryFor table "set.__sub__"=some Builtin.«frozenset.__sub__» :=entryFor_alias (id':="frozenset.__sub__") (by kernel_rfl) rfl (by decide +kernel) (by kernel_rfl)
theorem Dr:entryFor table "set.__and__"=some Builtin.«frozenset.__and__» :=entryFor_alias (id':="frozenset.__and__") (by kernel_rfl) rfl (by decide +kernel) (by kernel_rfl)
section
variable [DecidableEq K]{knd:KeyKind prog w K}
variable {σ τ:List K}
def Ih(op:Operator)(σ τ:List K):List K:=match op with
 | .Sub=>σ.filter λk=>decide (k∉τ)
 |_=>σ.filter λk=>decide (k∈τ)
theorem LY(op:Operator)(hop:op= .Sub\/op= .BitAnd)(x:SB knd s.heap a σ)(y:SB knd s.heap b τ)(hne:a≠b)(nd:σ.Nodup)(h1:σ.length<32)(h2:τ.length<32)(h:∀ h' o es ep t,(∀ b o,s.heap.get? b=some o->h'.get? b=some o)->h'.get? s.heap.objs.size=some o->o.ExactSet->o.data=.set es ep t->t.fits es.size=true->es.size<64->(es.size=0↔Ih op σ τ= [])->Q (.ref s.heap.objs.size) {s with heap:=h'}):
  wpAny (model prog w) A (binaryOp op (.ref a) (.ref b)) Q E s:=by
 obtain⟨o,es,ep,t,a1,a2,a3,a4,a5,a6,a7,a8⟩:=x
 obtain⟨oo,eo,epo,tb,b1,b2,b3,b4,b5,b6,b7,b8⟩:=y
 have x:At knd s.heap a o es ep t:=⟨a1,a2,a3,a4,by rw[a8];omega,a7⟩
 have y:At knd s.heap b oo eo epo tb:=⟨b1,b2,b3,b4,by rw[b8];omega,b7⟩
 have mx:∀ k,k∈σ↔Mm knd es.toList k:=λk=>by rw[<-decide_eq_true_eq (p:=k∈σ)];exact a5 k
 have my:∀ k,k∈τ↔Mm knd eo.toList k:=λk=>by rw[<-decide_eq_true_eq (p:=k∈τ)];exact b5 k
 have hd:GM knd es.toList:=MH es.toList σ nd mx (by rw[length_toList];exact a8) λe he=>(a4 e he).1.elim λk hk=>⟨k,hk.1⟩
 have fin:∀ P:K->Prop,(∀ k,k∈Ih op σ τ↔P k)->Tr knd s P λv s'=>v≠ .notImplemented/\Q v s':=λP hP h' ro re rp rt keep g mm=>by
  refine⟨by simp,h h' ro re rp rt keep g.get g.ex g.dat g.fit g.sz ?_⟩
  constructor
  .intro z
   refine List.eq_nil_iff_forall_not_mem.mpr λk hk=>?_
   obtain⟨e,he,_⟩:=(mm k).mpr ((hP k).mp hk)
   have:re= #[]:=Array.eq_empty_of_size_eq_zero z
   subst this;simp at he
  .intro z
   cases hl:re.toList with
   |nil=>rw[<-length_toList,hl];rfl
   |cons e l=>
    obtain⟨⟨k,hk,_⟩,_⟩:=g.el e (by rw[hl];exact mem_cons_self)
    have:=(hP k).mpr ((mm k).mp ⟨e,by rw[hl];exact mem_cons_self,hk⟩)
    rw[z]at this;simp at this
 rcases hop with rfl|rfl
 .refine wpAny_binaryOp_same (T:="set") (op:= .Sub) x.ty y.ty F.fills_set_sub F.slot_set_sub (wpAny_call_entry F.slot_set_sub x.ty Er ?_ (F.args_set_sub_2 _ _))
  show wpAny _ _ (Builtin.Frozenset.slot1 "__sub__" _ >>= _) _ _ _
  refine wpAny_bind (wpAny_pure ?_)
  refine wpAny_bind (wpAny_bind (Tg x (Tg y ?_)))
  refine wpAny_bind (wpAny_pure (wpAny_bind ?_))
  exact ET x y hd (by rw[a8];exact h1) (by rw[b8];exact h2) λh' ro re rp rt k g mm=>wpAny_pure ⟨_,rfl,fin _ (λk=>by simp[Ih,mx,my]) h' ro re rp rt k g mm⟩
 .refine wpAny_binaryOp_same (T:="set") (op:= .BitAnd) x.ty y.ty F.fills_set_and F.slot_set_and (wpAny_call_entry F.slot_set_and x.ty Dr ?_ (F.args_set_and_2 _ _))
  show wpAny _ _ (Builtin.Frozenset.slot1 "__and__" _ >>= _) _ _ _
  refine wpAny_bind (wpAny_pure ?_)
  refine wpAny_bind (wpAny_bind (Tg x (Tg y ?_)))
  refine wpAny_bind (wpAny_pure (wpAny_bind ?_))
  exact CT x y hne (by rw[a8];exact h1) (by rw[b8];exact h2) λh' ro re rp rt k g mm=>wpAny_pure ⟨_,rfl,fin _ (λk=>by simp[Ih,mx,my]) h' ro re rp rt k g mm⟩
end
variable{a b:Expr}{X:Cx}{xw:XW}{pos p2:Pos}{ta:TE}{pins:List (Addr×Obj)}{σ:L2.St}{H:Hp}{W:WS}
section
variable {p1 p3 p4 p5 p6 pc pcc:Pos}{fa fb:Ba->Res D}{op:Operator}
def V7(K:Frag)(op:Operator)(ta tb:TE):TE:=λσ H Q=>ta σ H λv H1=>∃ l xs,v=.ref l/\SqL K H1 l (xs.map V.str)/\xs.length<32/\tb σ H1 λu H2=>∃ m ys,u=.ref m/\SqL K H2 m (ys.map V.str)/\ys.length<32/\
 ∀ n:Nat,(n=0↔Ih op xs ys= [])->Q (.int n) H2
theorem GF(op:Operator)(xs ys:List Str):Ih op (Su xs) (Su ys)= []↔Ih op xs ys= []:=by
 unfold Ih
 split<;>simp[List.filter_eq_nil_iff,GP]
theorem RC{R:List Str->Hp->Prop}(hc:X.calm=true)(hg2:Gl X "set")(hm2:X.mg "set"=none)(ha:PE X a ta)(h2:starEach [a] X.env=(false,eval a X.env)::starEach [] X.env)(h4:(backTo p3 (starEach [] X.env)).any (·.1)=false)(I:Inv X pins σ H s)(h:ta σ H λv H1=>∃ l xs,v=.ref l/\SqL X.K H1 l (xs.map V.str)/\xs.length<32/\R xs H1)(hq:∀ (xs:List Str) H1 s1 h' tk,Inv X pins σ H1 s1->R xs H1->xs.length<32->SB (strKind X.prog X.w) h' s1.heap.objs.size (Su xs)->(∀ b o,s1.heap.get? b=some o->h'.get? b=some o)->Q (.ref s1.heap.objs.size) {s1 with heap:=h',toks:=tk}):
  wpAny (model X.prog X.w) X.A (eval (.Call (.Name "set" p2) [a] [] p3) X.env) Q X.xe s:=by
 refine wpAny_Call_Name_kw (Lf I hg2 hm2 (show bootBuiltins "set"=some (.type "set") by decide +kernel) ?_)
 refine PyProof.Rows.callWith_type1 ?_ h2 h4
 rw[h2]
 show wpAny _ _ (spliced ((false,eval a X.env)::backTo p3 (starEach [] X.env))) _ _ s
 refine Calls.spliced_cons (thn (ha pins s σ H _ I h) λu s1 ⟨x,H1,I1,r1,q1⟩=>?_)
 refine Calls.spliced_nil ?_
 obtain⟨l,xs,rfl,sq,hlen,q1⟩:=q1
 cases (show u=Value.ref l from r1)
 obtain⟨its,rv,ps,_⟩:=I1.list sq
 obtain⟨el,hat⟩:=CD rv
 have hb:its.toArray.size+1<scanBound:=by rw[size_toArray,<-el];unfold scanBound;omega
 obtain⟨ol,nl,hol,hcl,_,hd⟩:=ps
 refine Cr (knd:=strKind X.prog X.w) (I1.ok.hd hc) hol hcl (by rw[isSubtype_type];kernel_rfl) (by rw[isSubtype_type];kernel_rfl) (by decide) (LI hcl hd) (by rw[size_toArray];exact el) (λi v e=>hat i v (by simpa using e)) hb λh' tk hS k=>?_
 exact hq xs H1 s1 h' tk I1 q1 hlen hS k
theorem YJ{tb:TE}(hop:op= .Sub\/op= .BitAnd)(hc:X.calm=true)(hg1:Gl X "len")(hm1:X.mg "len"=none)(hg2:Gl X "set")(hm2:X.mg "set"=none)(ha:PE X a ta)(hb:PE X b tb)(h1:starEach [.BinOp (.Call (.Name "set" p2) [a] [] p3) op (.Call (.Name "set" p4) [b] [] p5) p6] X.env=(false,eval (.BinOp (.Call (.Name "set" p2) [a] [] p3) op (.Call (.Name "set" p4) [b] [] p5) p6) X.env)::starEach [] X.env)(h2:starEach [a] X.env=(false,eval a X.env)::starEach [] X.env)(h2b:starEach [b] X.env=(false,eval b X.env)::starEach [] X.env)(h3:(backTo pos (starEach [] X.env)).any (·.1)=false)(h4:(backTo p3 (starEach [] X.env)).any (·.1)=false)(h5:(backTo p5 (starEach [] X.env)).any (·.1)=false):
  PE X (.Call (.Name "len" p1) [.BinOp (.Call (.Name "set" p2) [a] [] p3) op (.Call (.Name "set" p4) [b] [] p5) p6] [] pos) (V7 X.K op ta tb):=by
 intro pins s σ H Q I h
 refine wpAny_Call_Name_kw (Lf I hg1 hm1 (show bootBuiltins "len"=some (.builtin "len") by decide +kernel) ?_)
 refine PyProof.Rows.callWith_builtin1 ?_ h1 h3
 rw[h1]
 show wpAny _ _ (spliced ((false,eval (.BinOp (.Call (.Name "set" p2) [a] [] p3) op (.Call (.Name "set" p4) [b] [] p5) p6) X.env)::backTo pos (starEach [] X.env))) _ _ s
 refine Calls.spliced_cons (wpAny_BinOp (RC hc hg2 hm2 ha h2 h4 I h λxs H1 s1 h1' tk1 I1 q1 hl1 hS1 k1=>?_))
 have J1:Inv X pins σ H1 {s1 with heap:=h1',toks:=tk1}:=I1.kept (t':=tk1) k1
 have hp:s1.heap.objs.size<=s1.heap.objs.size:=le_refl _
 have hf1:H1 s1.heap.objs.size=none:=I1.hok.fresh hp
 have hx1:s1.heap.objs.size≠X.env.locals:=ne_of_gt I1.lt
 have hy1:s1.heap.objs.size∉X.fs:=I1.nofs hp
 generalize s1.heap.objs.size=A1 at hS1 hf1 hx1 hy1 ⊢
 have hS1':=hS1
 obtain⟨oA,esA,epA,tA,gA,exA,dA,rA⟩:=hS1'
 have J2:Inv X ((A1,oA)::pins) σ H1 {s1 with heap:=h1',toks:=tk1}:=J1.pins_of λp hpp=>by
  rcases mem_cons.mp hpp with z|z
  .subst z;exact⟨gA,hf1,hx1,hy1,λv=>by rw[dA];exact λz=>by cases z⟩
  .exact J1.pin p (mem_append_right _ z)
 refine RC hc hg2 hm2 hb h2b h5 J2 q1 λys H2 s2 h2' tk2 I2 q2 hl2 hS2 k2=>?_
 have pA:=(I2.pin (A1,oA) (mem_append_right _ mem_cons_self)).1
 have hS1b:SB (strKind X.prog X.w) h2' A1 (Su xs):=⟨oA,esA,epA,tA,k2 _ _ pA,exA,dA,rA⟩
 have hneA:A1≠s2.heap.objs.size:=ne_of_lt (lt_size pA)
 have I2':Inv X pins σ H2 s2:=I2.pins_of λp hp=>I2.pin p (mem_append_right _ (mem_cons_of_mem _ hp))
 refine LY (s:= {s2 with heap:=h2',toks:=tk2}) op hop hS1b hS2 hneA (HF _) (Nat.lt_of_le_of_lt (Tu _) hl1) (Nat.lt_of_le_of_lt (Tu _) hl2) λh3 o es ep t k3 g1 g2 g3 g4 g5 g6=>?_
 refine Calls.spliced_nil ?_
 have hfit:(es.size:Int)<2^63:=by omega
 refine call_len_set (s:= {s2 with heap:=h3,toks:=tk2}) g1 g2 g3 g4 hfit ?_
 have J3:Inv X pins σ H2 {s2 with heap:=h3,toks:=tk2}:=I2'.kept (t':=tk2) λb o e=>k3 b o (k2 b o e)
 exact⟨.int (es.size:Int),H2,J3.tok _,⟨_,rfl⟩,q2 es.size (g6.trans (GF op xs ys))⟩
def JG:D->Option (List Str)
 | .lst ds=>match Oh ds with
  |some xs=>@ite _ (xs.length<32) (propDecidable _) (some xs) none
  |none=>none
 |_=>none
theorem HD{d:D}{v:V}{xs:List Str}(h:JG d=some xs)(hv:HasT X.K W H d v):∃ l,v=.ref l/\SqL X.K H l (xs.map V.str)/\xs.length<32:=by
 unfold JG at h
 split at h
 .split at h
  .rename_i ys hn
   split at h
   .rename_i hl
    cases h
    obtain⟨p,zs,e,sq,r⟩:=hv.lst
    have:=Yk hn r
    subst this
    exact⟨p,e,sq,hl⟩
   .cases h
  .cases h
 .cases h
def QD(op:Operator)(fa fb:Ba->Res D):Ba->Res D:=λδ=>(fa δ).bind λx=>match JG x with
 |some xs=>(fb δ).bind λy=>match JG y with
  |some ys=>.ok (.bl (Ih op xs ys).isEmpty)
  |none=>.stuck
 |none=>.stuck
theorem LD{j:Nat}(hc:X.calm=true)(hm1:X.mg "len"=none)(hm2:X.mg "set"=none)(ha:XP X xw a fa)(hb:XP X xw b fb)(hop:op= .Sub\/op= .BitAnd:=by first|exact Or.inl rfl|exact Or.inr rfl)(hg1:Gl X "len":=by rfl)(hg2:Gl X "set":=by rfl)(h1:starEach [.BinOp (.Call (.Name "set" p2) [a] [] p3) op (.Call (.Name "set" p4) [b] [] p5) p6] X.env=(false,eval (.BinOp (.Call (.Name "set" p2) [a] [] p3) op (.Call (.Name "set" p4) [b] [] p5) p6) X.env)::starEach [] X.env:=by rfl)(h2:starEach [a] X.env=(false,eval a X.env)::starEach [] X.env:=by rfl)(h2b:starEach [b] X.env=(false,eval b X.env)::starEach [] X.env:=by rfl)(h3:(backTo pos (starEach [] X.env)).any (·.1)=false:=by rfl)(h4:(backTo p3 (starEach [] X.env)).any (·.1)=false:=by rfl)(h5:(backTo p5 (starEach [] X.env)).any (·.1)=false:=by rfl):
  XE X xw (.Compare (.Call (.Name "len" p1) [.BinOp (.Call (.Name "set" p2) [a] [] p3) op (.Call (.Name "set" p4) [b] [] p5) p6] [] pos) [.Eq] [.Constant (.int 0) j pc] pcc) (QD op fa fb):=
 ⟨PE.weak (QC Z0 (YJ hop hc hg1 hm1 hg2 hm2 ha.h hb.h h1 h2 h2b h3 h4 h5) XJ rfl) λσ H Q ⟨W₀,H₀,W,δ,st,q⟩=>by
  refine⟨W₀,H₀,W,δ,st,?_⟩
  unfold QD at q
  cases h1:fa δ with
  |stuck=>rw[h1]at q;exact q
  |ex c fs=>rw[h1]at q;exact q
  |ok d=>
   rw[h1,Res.bind_ok]at q
   intro v H1 k1 hv
   cases t1:JG d with
   |none=>rw[t1]at q;exact q.elim
   |some xs=>
    rw[t1]at q
    obtain⟨l,e,sq,hl⟩:=HD t1 hv
    refine⟨l,xs,e,sq,hl,W₀,H₀,W,δ,st.same k1,?_⟩
    cases h2:fb δ with
    |stuck=>rw[h2]at q;exact q
    |ex c fs=>rw[h2]at q;exact λH2 k2=>q H2 (k1.trans k2)
    |ok e=>
     rw[h2]at q
     simp only[Res.bind_ok]at q
     intro u H2 k2 hu
     cases t2:JG e with
     |none=>rw[t2]at q;exact q.elim
     |some ys=>
      rw[t2]at q
      obtain⟨m,e2,sq2,hl2⟩:=HD t2 hu
      refine⟨m,ys,e2,sq2,hl2,λn hn=>⟨rfl,?_⟩⟩
      have:decide (V.int (n:Int)=V.int 0)=(Ih op xs ys).isEmpty:=by
       rw[Bool.eq_iff_iff,decide_eq_true_eq,List.isEmpty_iff,<-hn]
       constructor
       .intro z;injection z with z;omega
       .intro z;rw[z];rfl
      rw[this]
      exact q _ H2 (k1.trans k2) (by rw[Has])⟩
end
section
variable {e:Expr}{f:Ba->Res D}{fs:Ba->Res (List D)}{p pos2:Pos}
theorem CK{te:TE}(hm:X.mg "sorted"=none)(hg:Gl X "sorted")(h:PE X e te)(he:starEach [e] X.env=(false,eval e X.env)::starEach [] X.env)(hpl:(backTo pos (starEach [] X.env)).any (·.1)=false):
  PE X (.Call (.Name "sorted" p) [e] [] pos) (λσ H Q=>te σ H λx H1=>∃ l ss,x=.ref l/\SqL X.K H1 l (ss.map V.str)/\ss.length<64/\∀ n,H1 n=none->Q (.ref n) (Eb H1 n (.lst ((Xk ss).map V.str)))):=by
 intro pins s σ H Q I q
 refine wpAny_Call_Name_kw (Lf I hg hm (show bootBuiltins "sorted"=some (.builtin "sorted") by decide +kernel) ?_)
 refine PyProof.Rows.callWith_builtin1 ?_ he hpl
 rw[he]
 show wpAny _ _ (spliced ((false,eval _ X.env)::backTo pos (starEach [] X.env))) _ _ s
 refine Calls.spliced_cons (thn (h pins s σ H _ I q) λv s1 ⟨x,H1,I1,r1,q1⟩=>?_)
 refine Calls.spliced_nil ?_
 obtain⟨l,ss,rfl,sq,hn,qn⟩:=q1
 cases (show v=Value.ref l from r1)
 obtain⟨its,rv,ps,_⟩:=I1.list sq
 have hl:its.length=ss.length:=by have:=rv.length;simpa using this.symm
 refine sorted_strs ps.isList (Cn rv) (by omega) λout ss' a1 a2 a3=>?_
 have es:=Zn a2 a3
 subst es
 obtain⟨e,he⟩:=sortedAll_at s1.heap its out
 refine⟨.ref _,_,I1.laid (t':=s1.toks) (a:=s1.heap.objs.size+1) (o:=.lst ((Xk ss).map V.str)) (λb u e=>sortedAll_old e) (le_succ _) ?_,rfl,qn _ (I1.hok.fresh (le_succ _))⟩
 exact⟨by rw[length_map,(Ym ss).length_eq,sizeLine_eq];omega,out.toList,e,Qt a1,by simpa using he⟩
def Yn:D->Res (List D)
 | .lst ds=>match Oh ds with
  |some ss=>if ss.length<64 then .ok ((Xk ss).map D.str) else .stuck
  |none=>.stuck
 |_=>.stuck
theorem AO(hm:X.mg "sorted"=none)(h:XP X xw e f)(hg:Gl X "sorted":=by rfl)(he:starEach [e] X.env=(false,eval e X.env)::starEach [] X.env:=by rfl)(hpl:(backTo pos (starEach [] X.env)).any (·.1)=false:=by rfl):
  XF X xw (.Call (.Name "sorted" p) [e] [] pos) (b1 Yn f):=
 ⟨PE.weak (CK hm hg h.h he hpl) λσ H Q ⟨W₀,H₀,W,δ,st,q⟩=>Bt st q λH2 d v k w st2 hv _ q2=>by
  unfold Yn at q2
  split at q2
  .split at q2
   .rename_i ss hss
    split at q2
    .rename_i hn
     obtain⟨p,ys,e,sq,r⟩:=hv.lst
     have:=Yk hss r
     subst this
     exact⟨p,ss,e,sq,hn,λn hn1=>q2 n _ H2 (Same.refl _) hn1 (Zm (Xk ss))⟩
    .exact q2.elim
   .exact q2.elim
  .exact q2.elim⟩
def Iy(lo:Int)(n:Nat):List V:=(range n).map λ(i:Nat)=>V.int (lo+i)
theorem AJ{Q:VK}{lo hi:Int}{t u v:Tok}{tk:Nat}(hc:X.calm=true)(I:Inv X pins σ H s)(h1: -(2^62)<=lo)(h2:lo<2^62)(h3: -(2^62)<=hi)(h4:hi<2^62)(hl:(hi-lo).toNat<=1000)(q:∀ n,H n=none->Q (.ref n) (Eb H n (.lst (Iy lo (hi-lo).toNat)))):
  wpAny (model X.prog X.w) X.A (call (.type "list") [.ref s.heap.objs.size]) (EP X pins σ Q) X.xe {s with heap:=s.heap.push {cls:=.type "range",data:=.fields #[.int lo t,.int hi u,.int 1 v]},toks:=tk}:=by
 have I1:Inv X pins σ H {s with heap:=s.heap.push {cls:=.type "range",data:=.fields #[.int lo t,.int hi u,.int 1 v]},toks:=tk}:=I.kept λb o e=>get?_push_of_some _ e
 refine call_list_range (n:=(hi-lo).toNat) (I.ok.hd hc) (IsRange.new ..) (small_one h1 h2 h3 h4) (by rw[rangeSize_one];split<;>omega) (by omega) λh' tk' acc c k hg ⟨e1,e2⟩=>?_
 refine⟨.ref _,_,I1.laid (t':=tk') (o:=.lst (Iy lo (hi-lo).toNat)) k (le_refl _) ⟨by unfold Iy;rw[length_map,length_range,sizeLine_eq];omega,acc.toList,c,?_,by simpa using hg⟩,rfl,q _ (I1.hok.fresh (le_refl _))⟩
 refine Zo (by unfold Iy;simp[e1]) λi x y hx hy=>?_
 unfold Iy at hx
 rw[getElem?_map]at hx
 obtain⟨j,hj,rfl⟩:=map_eq_some_iff.mp hx
 rw[getElem?_toList]at hy
 obtain⟨t',rfl⟩:=e2 i y hy
 obtain⟨hj1,hj2⟩:=List.getElem?_eq_some_iff.mp hj
 simp at hj2
 subst hj2
 exact⟨t',by simp⟩
theorem Dy{ta:TA}(hc:X.calm=true)(hm:X.mg "list"=none)(hm2:X.mg "range"=none)(hg:Gl X "list")(hg2:Gl X "range")(ha:PA X [a,b] ta)(hs:starEach [a,b] X.env= [(false,eval a X.env),(false,eval b X.env)])(hs2:starEach [b] X.env= [(false,eval b X.env)])(he:starEach [.Call (.Name "range" p2) [a,b] [] pos2] X.env=(false,eval (.Call (.Name "range" p2) [a,b] [] pos2) X.env)::starEach [] X.env)(hpl:(backTo pos (starEach [] X.env)).any (·.1)=false):
  PE X (.Call (.Name "list" p) [.Call (.Name "range" p2) [a,b] [] pos2] [] pos) (λσ H Q=>ta σ H λvs H1=>∃ i j:Int,vs= [.int i,.int j]/\(0<=i/\i<=j/\j<=1000)/\∀ n,H1 n=none->Q (.ref n) (Eb H1 n (.lst (Iy i (j-i).toNat)))):=by
 intro pins s σ H Q I h
 refine wpAny_Call_Name_kw (Lf I hg hm (show bootBuiltins "list"=some (.type "list") by decide +kernel) ?_)
 refine PyProof.Rows.callWith_type1 ?_ he hpl
 rw[he]
 show wpAny _ _ (spliced ((false,eval _ X.env)::backTo pos (starEach [] X.env))) _ _ s
 refine Calls.spliced_cons ?_
 refine Call_ (Lf I hg2 hm2 boot_range (PyProof.Rows.callWith_type1 (thn (ha pos2 pins s σ H _ I h) λus s1 ⟨vs,H1,I1,r1,q1⟩=>?_) (by rw[hs,hs2]) (by rw[hs2];rfl)))
 obtain⟨i,j,e,⟨q1,q2,q3⟩,q⟩:=q1
 subst e
 cases r1 with
 |cons r rr=>
  cases rr with
  |cons r' rr=>
   cases rr
   obtain⟨t,rfl⟩:=r
   obtain⟨t',rfl⟩:=r'
   exact call_range_2 (Calls.spliced_nil (AJ hc I1 (by omega) (by omega) (by omega) (by omega) (by omega) q))
theorem PK{K:Frag}(lo:Int)(n:Nat):HasL K W H (Zl lo n) (Iy lo n):=by
 unfold Zl Iy
 generalize range n=l
 induction l with
 |nil=>rw[map_nil,map_nil,HasL]
 |cons x l ih=>rw[map_cons,map_cons,HasL];exact⟨_,_,rfl,by rw[Has],ih⟩
def CJ(ds:List D):Res (List D):=match ds with
 | [.int i,.int j]=>if 0<=i/\i<=j/\j<=1000 then .ok (Zl i (j-i).toNat) else .stuck
 |_=>.stuck
theorem N0(hc:X.calm=true)(hm:X.mg "list"=none)(hm2:X.mg "range"=none)(ha:XA X xw [a,b] fs)(hg:Gl X "list":=by rfl)(hg2:Gl X "range":=by rfl)(hs:starEach [a,b] X.env= [(false,eval a X.env),(false,eval b X.env)]:=by rfl)(hs2:starEach [b] X.env= [(false,eval b X.env)]:=by rfl)(he:starEach [.Call (.Name "range" p2) [a,b] [] pos2] X.env=(false,eval (.Call (.Name "range" p2) [a,b] [] pos2) X.env)::starEach [] X.env:=by rfl)(hpl:(backTo pos (starEach [] X.env)).any (·.1)=false:=by rfl):
  XF X xw (.Call (.Name "list" p) [.Call (.Name "range" p2) [a,b] [] pos2] [] pos) (b1 CJ fs):=
 ⟨PE.weak (Dy hc hm hm2 hg hg2 ha.h hs hs2 he hpl) λσ H Q ⟨W₀,H₀,W,δ,st,q⟩=>by
  refine⟨W₀,H₀,W,δ,st,?_⟩
  unfold b1 at q
  cases h1:fs δ with
  |stuck=>rw[h1]at q;exact q
  |ex c fs=>rw[h1]at q;exact q
  |ok ds=>
   rw[h1,Res.bind_ok]at q
   intro vs H1 k1 hv
   unfold CJ at q
   split at q
   .split at q
    .rename_i i j hj
     rw[HasL]at hv
     obtain⟨x,r,rfl,e1,hv⟩:=hv
     rw[Has]at e1
     subst e1
     rw[hv.one]
     exact⟨i,j,rfl,hj,λn hn=>q n _ H1 k1 hn (PK _ _)⟩
    .exact q.elim
   .exact q.elim⟩
end
end L3
namespace G
open PySem PySem.Spec PyProof.Rows L2 L3
def Ji:Ba->Res D:=(b1 Cf (Aa (Fa 0) (Aa (Af (b1 Eg (Ea 1))) Ia)))
def Gw:Ba->Out:=(Rb (Af (Sb 2 (Ye 2 (Ib (Hb 0) (Ib (Hb 1) Xe))) (λ_=>.ok true) Ji (b1 Eg (Fa 0)))))
def Xg:List D->Res D:=Bg 1 Gw
def Zf:List (Str×(Ba->Res D)):= [("rules",(Fa 1)),("doors",(Af (b1 Eg (Ea 2)))),("wings",(b1 (Oa 1 Xg) (Aa (Fa 3) Ia))),("grants",(b1 (Oa 1 Xg) (Aa (Fa 4) Ia)))]
def Hh:Ba->Out:=(Jb (Yf (tR (b2 ZO (Ea 1) (b1 Sk (Ea 0)))) (Rb (b2 Pg (Ea 0) (Ea 1))) Out.nx)
  (Jb (Kb 2 (b2 Ad (b2 Uu (Ea 1) (kD (.int 48271))) (kD (.int 11))))
  (Jb (Yf (tR (b2 BI (b1 Sk (Ea 0)) (kD (.int 0)))) (Kb 2 (b2 Ad (Ea 2) (b2 Uu (b2 Mc (b2 Pg (Ea 0) (b2 Mc (b2 Uu (Ea 1) (kD (.int 7))) (b1 Sk (Ea 0)))) (kD (.int 2147483647))) (kD (.int 69621))))) Out.nx)
  (Rb (b2 Mc (b2 Uu (Ea 2) (Ea 2)) (kD (.int 2147483629)))))))
def Ha:List D->Res D:=Bg 3 Hh
def Mg:Ba->Res D:=(Fa 0)
def Pe:Ba->Res Bool:=(tR (b2 LZ (Ea 0) (b2 Pg (Ea 1) (Ea 5))))
def Ue:Ba->Out:=(Jb (We 5 (Sb 1 (Hb 0) Pe Mg (b1 Eg (Fa 3))))
  (Yf (Xd (tR (b2 Jq (Ea 5) (Af (b1 Bf Ia)))) (tR (b2 Cj (b2 Cj (Ea 5) (Ea 3)) (b2 Cj (Ea 5) (b2 Pg (Ea 0) (Ea 4)))))) (Rb (b1 Cf (Aa (Fa 2) (Aa (Fa 4) Ia)))) Out.nx))
def Cd:Ba->Out:=(Gh (Hb 4) Ue (b1 Kt (Aa (b2 Ad (Ea 2) (kD (.int 1))) (Aa (b1 Sk (Ea 0)) Ia))))
def Ep:Ba->Out:=(Jb (Gh (Ye 2 (Ib (Hb 2) (Ib (Hb 3) Xe))) Cd (b1 Zi (Aa (Fa 0) Ia)))
  (Jb (Yf (Ei (tR (Fa 1))) (Rb (b1 Cf (Aa (kD .non) (Aa (kD .non) Ia)))) Out.nx)
  (Rb (kD .non))))
def Zd:List D->Res D:=Bg 6 Ep
def Hn:Ba->Out:=(Jb (Kb 2 (kD (.str "abcdefghijklmnopqrstuvwxyz")))
  (Jb (Kb 3 (b1 (Oa 2 Ha) (Aa (Fa 0) (Aa (kD (.int 0)) Ia))))
  (Rb (b2 Ad (b2 Ad (b2 Ad (b2 JF (kD (.str "x")) (b2 Mc (Ea 3) (kD (.int 4)))) (b2 Pg (Ea 2) (b2 Mc (Ea 1) (kD (.int 26))))) (b2 Pg (Ea 2) (b2 Mc (b2 Te (Ea 1) (kD (.int 26))) (kD (.int 26))))) (b2 JF (kD (.str "q")) (b2 Mc (b2 Te (Ea 3) (kD (.int 4))) (kD (.int 5))))))))
def Ec:List D->Res D:=Bg 4 Hn
def Jz:Ba->Out:=(λ_=>.stuck)
def Si:List D->Res D:=Bg 2 Jz
def Hw:Ba->Out:=(Rb (b2 Pg (Ea 0) (kD (.int 1))))
def Ce:List D->Res D:=Bg 1 Hw
def Kn:Ba->Out:=(Rb (QD .BitAnd (Ea 0) (Ea 1)))
def Be:List D->Res D:=Bg 2 Kn
def El:Ba->Out:=(Rb (QD .Sub (Ea 0) (Ea 1)))
def Ac:List D->Res D:=Bg 2 El
def Dl:Ba->Out:=(Rb (b2 Jq (b1 (Oa 2 Ac) (Aa (Fa 0) (Aa (Fa 1) Ia))) (b1 (Oa 2 Ac) (Aa (Fa 1) (Aa (Fa 0) Ia)))))
def Ed:List D->Res D:=Bg 2 Dl
def Ic:Ba->Out:=(Yf (HA (Xd (Ei (tR (b1 (Oa 2 Be) (Aa (OB Ug (Wd 0) (Ea 3)) (Aa (OB Ug (Wd 0) (Ea 4)) Ia))))) (Ei (tR (b1 (Oa 2 Ed) (Aa (OB Ug (Wd 0) (Ea 3)) (Aa (OB Ug (Wd 0) (Ea 4)) Ia))))))) (Vj "NoTower" [("one",false),("other",false)] (Ag (Aa (Fa 3) (Aa (Fa 4) Ia)))) Out.nx)
def Ub:Ba->Out:=(Gh (Hb 4) Ic (Ag (b1 Eg (Af (b3 OS (Ea 1) (b1 Et (b2 Ad (Ea 2) (kD (.int 1)))) Gk)))))
def Rh:Ba->Out:=(Jb (Ck (Kb 1 (Af (Yq Dq (Fa 0)))))
  (Gh (Ye 2 (Ib (Hb 2) (Ib (Hb 3) Xe))) Ub (Ag (b1 Zi (Aa (Fa 1) Ia)))))
def Vb:List D->Res D:=Lr 5 Rh
def Dd:Ba->Out:=(Jb (Mt 5 4)
  (Yf (tR (UG Ys (Ea 5) (Wd 3))) (Jb (Am 3 (Fa 5) (kD (.bl true)))
  (Jy 4 (PD (Wd 2) (Aa (Fa 5) (Aa (Af (b1 Bf Ia)) Ia))))) Out.nx))
def Bd:Ba->Res Bool:=(tR (b2 BI (b1 Sk (Ea 4)) (kD (.int 0))))
def Ki:Ba->Res D:=(Fa 0)
def Lg:Ba->Res Bool:=(tR (UG UE (Ea 0) (Wd 4)))
def Fp:Ba->Out:=(Jb (Kb 2 (b1 Jj (Af (FT AH (b1 (Ni "House" "wings") (Fa 0)) (b1 (Ni "House" "grants") (Fa 0))))))
  (Jb (Sq 3)
  (Jb (We 4 (b1 Bf (Aa (Fa 1) Ia)))
  (Jb (Uk 100000 Bd Dd)
  (AR 3 (Rb (Af (Sb 1 (Hb 0) Lg Ki (b1 Eg (b1 (Ni "House" "doors") (Fa 0)))))))))))
def Nf:List D->Res D:=Bg 6 Fp
def Li:Ba->Res D:=(Fa 0)
def Ip:Ba->Out:=(Rb (Af (Sb 2 (Ye 2 (Ib (Hb 0) (Ib (Hb 1) Xe))) (λ_=>.ok true) Li (b1 Eg (Fa 0)))))
def Of:List D->Res D:=Bg 1 Ip
def Ng:Ba->Res D:=(b1 Cf (Aa (Fa 0) (Aa (b1 (Oa 2 Nf) (Aa (Fa 1) (Aa (Fa 0) Ia))) Ia)))
def Jp:Ba->Out:=(Rb (b1 Jj (Af (Sb 1 (Hb 0) (λ_=>.ok true) Ng (b1 Eg (b1 (Oa 1 Of) (Aa (b1 (Ni "House" "grants") (Fa 0)) Ia)))))))
def Ae:List D->Res D:=Bg 1 Jp
def RD:Ba->Out:=(Rb (b2 Pg (Ea 0) (kD (.int 3))))
def Qg:List D->Res D:=Bg 1 RD
def Kp:Ba->Out:=(Jb (Ck (Kb 1 (b1 (Oa 1 Ae) (Aa (Fa 0) Ia))))
  (Jb (Wn (b1 (Gc 1 Vb) (Ag (Aa (Fa 1) Ia))))
  (Jb (Yf (HA (tR (b2 ZO (b1 (Oa 1 Qg) (Aa (b1 (Ni "House" "rules") (Fa 0)) Ia)) (b2 Em (b1 (Oa 1 Ce) (Aa (b1 (Ni "House" "rules") (Fa 0)) Ia)) (kD (.int 1)))))) (Vj "NoTower" [("one",false),("other",false)] (Ag (Aa (kD .non) (Aa (kD .non) Ia)))) Out.nx)
  (Ck (Rb (Fa 1))))))
def Ob:List D->Res D:=Lr 2 Kp
def Gp:Ba->Out:=(Rb (b1 (Oa 2 Si) (Aa (b1 (Gc 1 Ob) (Ag (Aa (Fa 0) Ia))) (Ag (Aa (Fa 1) Ia)))))
def Rc:List D->Res D:=Lr 2 Gp
def Vg:Ba->Res D:=(Fa 0)
def Qe:Ba->Res Bool:=(Xd (tR (b2 Jq (Ea 0) (Ea 2))) (tR (b1 (Oa 2 Ac) (Aa (OB Ug (Wd 1) (Ea 2)) (Aa (OB Ug (Wd 1) (Ea 0)) Ia)))))
def Fl:Ba->Out:=(Rb (Af (Sb 1 (Hb 0) Qe Vg (Yq Ss (Fa 0)))))
def Fd:List D->Res D:=Bg 2 Fl
def Xf:Ba->Res D:=(b1 Cf (Aa (Fa 0) (Aa (b1 Sk (b1 (Oa 2 Fd) (Aa (Fa 1) (Aa (Fa 0) Ia)))) Ia)))
def Ln:Ba->Out:=(Rb (b1 Jj (Af (Sb 1 (Hb 0) (λ_=>.ok true) Xf (Yq Ss (Fa 0))))))
def De:List D->Res D:=Bg 1 Ln
def Mn:Ba->Out:=(Rb (b1 (Oa 1 De) (Aa (b1 (Gc 1 Ob) (Ag (Aa (Fa 0) Ia))) Ia)))
def Fb:List D->Res D:=Lr 1 Mn
def Hl:Ba->Out:=(Jb (Kb 1 (b1 (Gc 1 Ob) (Ag (Aa (Fa 0) Ia))))
  (Jb (Ck (λ_=>.stuck))
  (Jb (Ck (λ_=>.stuck))
  (Jb (Ck (λ_=>.stuck))
  (Jb (Ck (λ_=>.stuck))
  (Jb (Ck (λ_=>.stuck))
  (Jb (Ck (λ_=>.stuck))
  (Ck (λ_=>.stuck)))))))))
def Bc:List D->Res D:=Lr 6 Hl
def Hf:Ba->Out:=(Kb 3 (Fa 4))
def Jf:Ba->Out:=(Kb 3 (Fa 4))
def Kf:Ba->Out:=(Kb 3 (Fa 4))
def Gj:Ba->Out:=(Jb (Kb 3 (kD .non))
  (Jb (Yf (λδ=>noex ((tR (b2 Cj (Ea 2) (kD (.int 0)))) δ)) (Ho ["NoTower"] (Bn (Aa (Fa 0) Ia) 1 Fb []) (λ_ δ=>.nx δ) Out.nx (Eo 4 Hf)) (Yf (λδ=>noex ((tR (b2 Cj (Ea 2) (kD (.int 1)))) δ)) (Ho ["NoTower"] (Bn (Aa (Fa 0) (Aa (Fa 1) Ia)) 2 Rc []) (λ_ δ=>.nx δ) Out.nx (Eo 4 Jf)) (Ho ["NoTower"] (Bn (Aa (Fa 0) Ia) 1 Bc []) (λ_ δ=>.nx δ) Out.nx (Eo 4 Kf))))
  (Jb (Yf (Ei (tR (b1 (Nl [("NoTower",true)]) (Ea 3)))) (Rb (kD .non)) Out.nx)
  (Jb (Yf (Uv (Ei (tR (b1 (Nl [("NoTower",true)]) (Ea 3)))) (tR (b1 (Nl [("NoTower",false)]) (Ea 3)))) (Rb (kD .non)) Out.nx)
  (Rb (b1 Cf (Aa (b1 (VH ["NoTower"] "one") (Fa 3)) (Aa (b1 (VH ["NoTower"] "other") (Fa 3)) Ia))))))))
def Oc:List D->Res D:=Bg 5 Gj
def Wf:Ba->Res D:=(Fa 0)
def Sd:Ba->Res Bool:=(Uv (tR (b2 Cj (b2 Mc (b2 Te (Ea 5) (b2 Ad (kD (.int 3)) (b2 Uu (kD (.int 2)) (Ea 0)))) (kD (.int 2))) (kD (.int 0)))) (tR (b2 Cj (Ea 0) (Ea 6))))
def Ud:Ba->Out:=(Jb (Kb 4 (b2 Mc (b1 (Oa 2 Ha) (Aa (Fa 0) (Aa (b2 Ad (kD (.int 4)) (Ea 3)) Ia))) (b2 WF (kD (.int 10)) (kD (.int 60)))))
  (Jb (Kb 5 (b2 Mc (Ea 4) (Ea 1)))
  (Jb (Kb 6 (b2 Ad (b2 Ad (Ea 5) (kD (.int 1))) (b2 Mc (b2 Te (Ea 4) (kD (.int 7))) (b2 Em (Ea 1) (Ea 5)))))
  (Jb (We 7 (b1 CJ (Aa (Fa 5) (Aa (Fa 6) Ia))))
  (Jb (Yf (tR (b2 Cj (b2 Mc (b1 (Oa 2 Ha) (Aa (Fa 0) (Aa (kD (.int 3)) Ia))) (kD (.int 3))) (kD (.int 0)))) (We 7 (Sb 1 (Hb 0) Sd Wf (b1 Df (Aa (Fa 1) Ia)))) (Yf (Xd (tR (b2 Jq (Ea 2) (Af (b1 Bf Ia)))) (tR (b2 BI (b2 Mc (b2 Te (Ea 4) (kD (.int 49))) (kD (.int 3))) (kD (.int 0))))) (We 7 (b3 OS (b2 Pg (Ea 2) (b2 Mc (b2 Te (Ea 4) (kD (.int 147))) (b1 Sk (Ea 2)))) Gk (b1 Et (b2 Ad (kD (.int 1)) (b2 Mc (b2 Te (Ea 4) (kD (.int 9))) (Ea 1)))))) Out.nx))
  (Zg 7 (UA 2 (Fa 7))))))))
def Jn:Ba->Out:=(Jb (We 2 (b1 Bf Ia))
  (Jb (Gh (Hb 3) Ud (b1 Df (Aa (b2 Ad (kD (.int 2)) (b2 Mc (b1 (Oa 2 Ha) (Aa (Fa 0) (Aa (kD (.int 2)) Ia))) (kD (.int 6)))) Ia)))
  (Rb (Ea 2))))
def Xc:List D->Res D:=Bg 8 Jn
def Jl:Ba->Res D:=(b1 (Oa 2 Ec) (Aa (Fa 1) (Aa (Fa 0) Ia)))
def No:Ba->Res D:=(b2 Pg (Ea 8) (Ea 0))
def Kl:Ba->Res D:=(b1 Cf (Aa (b1 (Oa 2 Ec) (Aa (Fa 2) (Aa (b2 Ad (kD (.int 20)) (Ea 0)) Ia))) (Aa (Af (Sb 1 (Hb 0) (λ_=>.ok true) No (b1 Eg (Fa 1)))) Ia)))
def Qj:Ba->Res D:=(b2 Pg (Ea 0) (kD (.int 0)))
def Ol:Ba->Out:=(Yf (tR (b2 Jq (b1 (Oa 3 Oc) (Aa (Fa 7) (Aa (b2 Pg (b2 Pg (Ea 6) (b2 Mc (b1 (Oa 2 Ha) (Aa (Fa 0) (Aa (kD (.int 15)) Ia))) (b1 Sk (Ea 6)))) (kD (.int 0))) (Aa (Fa 9) Ia)))) (Ea 8))) (Rb (kD (.bl false))) Out.nx)
def FS:Ba->Out:=(Jb (Kb 1 (b2 Ad (kD (.int 2)) (b2 Mc (b1 (Oa 2 Ha) (Aa (Fa 0) (Aa (kD (.int 1)) Ia))) (kD (.int 5)))))
  (Jb (Kb 2 (b1 (Oa 2 Xc) (Aa (Fa 0) (Aa (Fa 1) Ia))))
  (Jb (Kb 3 (b2 Ad (kD (.int 2)) (b2 Mc (b1 (Oa 2 Ha) (Aa (Fa 0) (Aa (kD (.int 12)) Ia))) (kD (.int 19)))))
  (Jb (Kb 4 (b2 Em (Ea 3) (kD (.int 1))))
  (Jb (Yf (Xd (tR (b2 Cj (b2 Mc (b1 (Oa 2 Ha) (Aa (Fa 0) (Aa (kD (.int 13)) Ia))) (kD (.int 4))) (kD (.int 0)))) (tR (b2 BI (Ea 3) (kD (.int 2))))) (Kb 4 (b2 Ad (kD (.int 1)) (b2 Mc (b2 Te (b1 (Oa 2 Ha) (Aa (Fa 0) (Aa (kD (.int 13)) Ia))) (kD (.int 4))) (b2 Em (Ea 3) (kD (.int 2)))))) Out.nx)
  (Jb (We 5 (Sb 1 (Hb 0) (λ_=>.ok true) Jl (b1 Df (Aa (Fa 1) Ia))))
  (Jb (We 6 (Sb 2 (Ye 2 (Ib (Hb 0) (Ib (Hb 1) Xe))) (λ_=>.ok true) Kl (b1 Zi (Aa (Fa 2) Ia))))
  (Jb (Zg 6 (Zg 5 (Kb 7 (b1 (Oa 4 (Fq 4 "House" Zf)) (Aa (b1 Cf (Aa (b2 Ad (kD (.int 1)) (b2 Mc (b1 (Oa 2 Ha) (Aa (Fa 0) (Aa (kD (.int 14)) Ia))) (kD (.int 24)))) (Aa (Fa 3) (Aa (Fa 3) (Aa (Fa 4) Ia))))) (Aa (Fa 5) (Aa (Af (b1 Bf Ia)) (Aa (Fa 6) Ia))))))))
  (Jb (Kb 8 (b1 (Oa 2 Zd) (Aa (Fa 2) (Aa (b2 Cj (Ea 4) (b2 Em (Ea 3) (kD (.int 1)))) Ia))))
  (Jb (Yf (tR (b1 Aq (Ea 8))) (Zg 6 (Rb (b2 Cj (Af (Yq Cm (b1 (Oa 1 Fb) (Aa (Fa 7) Ia)))) (Af (b1 Yn (Af (Sb 1 (Hb 0) (λ_=>.ok true) Qj (b1 Eg (Fa 6))))))))) Out.nx)
  (Jb (Yf (tR (b1 Tn (b2 Pg (Ea 8) (kD (.int 0))))) (Kb 8 (b1 Cf (Aa (b2 Pg (b2 Pg (Ea 6) (b2 Pg (Ea 8) (kD (.int 0)))) (kD (.int 0))) (Aa (b2 Pg (b2 Pg (Ea 6) (b2 Pg (Ea 8) (kD (.int 1)))) (kD (.int 0))) Ia)))) Out.nx)
  (Jb (Gh (Hb 9) Ol (b1 Df (Aa (kD (.int 3)) Ia)))
  (Rb (kD (.bl true)))))))))))))))
def DJ:List D->Res D:=Bg 10 FS
local macro_rules| `(tactic| walk_at "ev")=> `(tactic| simp only[Wb,Sa,map_cons,map_nil,List.length_cons,length_nil,cons_append,nil_append,reduceAdd,reduceSub,replicate,
 kD,b1,b2,b3,F3,tR,Xd,Uv,Ei,UR,T3,S3,Ia,Aa,Gk,Af,Sb,Jb,Kb,We,Yf,Gh,Uk,FT,UA,Rb,VC,Wn,ZQ,WC,UC,Sq,Am,Yq,OB,
 Na,Db,Xa,Fg,Za,Res.bind_ok,Res.bind_ex,Res.bind_stuck,Ua,Xu,Sj,Wa,Kh,Xi,Tb,Oe,Xm,Jo,Fv,Cb,Vo,
 Gf,Vu,Wp,Ri,Rk,Wg,Iu,Jc,Hi,Og,Wu,Pl,Lj,Ql,To,Uo,Wt,Ou,Hg,Qv,Yi,Hm,Gm,Tj,Ja,Mb,ZC,AD,Zb,Oo,Il,Ii,
 set_cons_zero,set_cons_succ,Bf,Cf,if_true,if_false,reduceIte,Bool.not_true,Bool.not_false,false_eq_true,zero_le,reduceLeDiff,zero_add,Int.reduceLT,true_and,and_true,and_self])
local macro_rules| `(tactic| walk_at "ev*")=> `(tactic| simp only[Wb,Sa,map_cons,map_nil,List.length_cons,length_nil,cons_append,nil_append,reduceAdd,reduceSub,replicate,
 kD,b1,b2,b3,F3,tR,Xd,Uv,Ei,UR,T3,S3,Ia,Aa,Gk,Af,Sb,Jb,Kb,We,Yf,Gh,Uk,FT,UA,Rb,VC,Wn,ZQ,WC,UC,Sq,Am,Yq,OB,
 Na,Db,Xa,Fg,Za,Res.bind_ok,Res.bind_ex,Res.bind_stuck,Ua,Xu,Sj,Wa,Kh,Xi,Tb,Oe,Xm,Jo,Fv,Cb,Vo,
 Gf,Vu,Wp,Ri,Rk,Wg,Iu,Jc,Hi,Og,Wu,Pl,Lj,Ql,To,Uo,Wt,Ou,Hg,Qv,Yi,Hm,Gm,Tj,Ja,Mb,ZC,AD,Zb,Oo,Il,Ii,
 set_cons_zero,set_cons_succ,Bf,Cf,if_true,if_false,reduceIte,Bool.not_true,Bool.not_false,false_eq_true,zero_le,reduceLeDiff,zero_add,Int.reduceLT,true_and,and_true,and_self, *])
local macro_rules| `(tactic| walk_at "evs")=> `(tactic| simp[Wb,Sa,map_cons,map_nil,List.length_cons,length_nil,cons_append,nil_append,reduceAdd,reduceSub,replicate,
 kD,b1,b2,b3,F3,tR,Xd,Uv,Ei,UR,T3,S3,Ia,Aa,Gk,Af,Sb,Jb,Kb,We,Yf,Gh,Uk,FT,UA,Rb,VC,Wn,ZQ,WC,UC,Sq,Am,Yq,OB,
 Na,Db,Xa,Fg,Za,Res.bind_ok,Res.bind_ex,Res.bind_stuck,Ua,Xu,Sj,Wa,Kh,Xi,Tb,Oe,Xm,Jo,Fv,Cb,Vo,
 Gf,Vu,Wp,Ri,Rk,Wg,Iu,Jc,Hi,Og,Wu,Pl,Lj,Ql,To,Uo,Wt,Ou,Hg,Qv,Yi,Hm,Gm,Tj,Ja,Mb,ZC,AD,Zb,Oo,Il,Ii,
 set_cons_zero,set_cons_succ,Bf,Cf,if_true,if_false,reduceIte,Bool.not_true,Bool.not_false,false_eq_true,zero_le,reduceLeDiff,zero_add,Int.reduceLT,true_and,and_true,and_self, *])
def pD(p:List Int):D:=.tup (p.map D.int)
variable{n:Nat}
theorem AM(h:n<=1000):n<=sizeLine:=le_trans h Hx
theorem Gz(x y:Str)(h:x.length+y.length<=1000):Ad (.str x) (.str y)=.ok (.str (x++y)):=if_pos (AM h)
theorem Oj(x y:Str):(x++y).length=x.length+y.length:=size_append ..
theorem Yg(i j:Int)(h:0<j):Mc (.int i) (.int j)=.ok (.int (i%j)):=by rw[Pl,if_pos h]
theorem Rw(i j:Int)(h:0<j)(h2:j<1073741824):Te (.int i) (.int j)=.ok (.int (i / j)):=by rw[Lj,if_pos ⟨h,h2⟩]
theorem IF(i j:Int)(h: -18446744073709551616<j/\j<18446744073709551616):Uu (.int i) (.int j)=.ok (.int (i*j)):=by rw[Ql];exact if_pos (.inr h)
theorem Du(ns:List Int)(k:Int)(h0:0<=k)(h1:k<=1000):∃ v,Oa 2 Ha [.lst (ns.map D.int),.int k]=.ok (.int v):=by
 by_cases h:k<(ns.length:Int)
 .obtain⟨d,e,hd⟩:=Hz (xs:=ns.map D.int) (i:=k) h0 (by rw[length_map];exact h)
  obtain⟨v,_,rfl⟩:=mem_map.mp hd
  have e':=Ps _ _ _ e
  have dt:decide (k<((ns.map D.int).length:Int))=true:=decide_eq_true (by rw[length_map];exact h)
  refine⟨v,Qb _ _ _ _ ?_ rfl⟩
  clear h
  generalize ns.map D.int=ds at*
  unfold Ha Hh
  simp only[Wb,Sa,map_cons,map_nil,List.length_cons,length_nil,cons_append,nil_append,reduceAdd,reduceSub,replicate,tR,b1,b2,Jb,Yf,Rb,Xa,Za,Res.bind_ok,Hg,Ri,dt,Cb,Tb,if_true,reduceIte,e',Ua,Kh,Zb]
 .have dt:decide (k<((ns.map D.int).length:Int))=false:=decide_eq_false (by rw[length_map];exact h)
  have x1:=IF k 48271 (by decide)
  have x2:=IF k 7 (by decide)
  by_cases hn:0<(ns.length:Int)
  .have dn:decide (0<((ns.map D.int).length:Int))=true:=decide_eq_true (by rw[length_map];exact hn)
   have m1:=Yg (k*7) ((ns.map D.int).length:Int) (by rw[length_map];exact hn)
   obtain⟨d,e,hd⟩:=Hz (xs:=ns.map D.int) (i:=k*7%((ns.map D.int).length:Int)) (emod_nonneg _ (by rw[length_map];omega)) (emod_lt_of_pos _ (by rw[length_map];exact hn))
   obtain⟨v,_,rfl⟩:=mem_map.mp hd
   have e':=Ps _ _ _ e
   have m2:=Yg v 2147483647 (by decide)
   have b0:=emod_nonneg v (show(2147483647:Int)≠0 by decide)
   have b1':=emod_lt_of_pos v (show(0:Int)<2147483647 by decide)
   generalize v%2147483647=r at*
   have x3:=IF r 69621 (by decide)
   have x4:=IF (k*48271+11+r*69621) (k*48271+11+r*69621) (by omega)
   have m3:=Yg ((k*48271+11+r*69621)*(k*48271+11+r*69621)) 2147483629 (by decide)
   refine⟨(k*48271+11+r*69621)*(k*48271+11+r*69621)%2147483629,Qb _ _ _ _ ?_ rfl⟩
   clear h hn b0 b1' hd e
   generalize ns.map D.int=ds at*
   unfold Ha Hh
   simp only[Wb,Sa,map_cons,map_nil,List.length_cons,length_nil,cons_append,nil_append,reduceAdd,reduceSub,replicate,tR,kD,b1,b2,Jb,Yf,Kb,Rb,Xa,Za,Res.bind_ok,Hg,Ri,Wg,dt,dn,Cb,Tb,if_true,if_false,false_eq_true,reduceIte,Jc,x1,x2,m1,e',m2,x3,x4,m3,Ua,Wa,Kh,Zb,set_cons_zero,set_cons_succ]
  .have dn:decide (0<((ns.map D.int).length:Int))=false:=decide_eq_false (by rw[length_map];exact hn)
   have x4:=IF (k*48271+11) (k*48271+11) (by omega)
   have m3:=Yg ((k*48271+11)*(k*48271+11)) 2147483629 (by decide)
   refine⟨(k*48271+11)*(k*48271+11)%2147483629,Qb _ _ _ _ ?_ rfl⟩
   clear h hn
   generalize ns.map D.int=ds at*
   unfold Ha Hh
   simp only[Wb,Sa,map_cons,map_nil,List.length_cons,length_nil,cons_append,nil_append,reduceAdd,reduceSub,replicate,tR,kD,b1,b2,Jb,Yf,Kb,Rb,Xa,Za,Res.bind_ok,Hg,Ri,Wg,dt,dn,Cb,Tb,if_true,if_false,false_eq_true,reduceIte,Jc,x1,x4,m3,Ua,Wa,Zb,set_cons_zero,set_cons_succ]
def WZ:Str:="abcdefghijklmnopqrstuvwxyz"
theorem QG:∀ k:Nat,k<26->Pg (.str WZ) (.int (k:Int))=.ok (.str ⟨#[97+k]⟩):=by
 intro k hk
 have:∀ k:Nat,k<26->Zv WZ.cps.toList (k:Int)=some (97+k):=by decide +kernel
 show(@ite (Res D) (WZ.length<=sizeLine) (propDecidable _) (match Zv WZ.cps.toList (k:Int) with|some c=>Res.ok (D.str ⟨#[c]⟩)|none=>.stuck) .stuck)=_
 rw[if_pos (AM (by decide)),this k hk]
def nm(X Q:Str)(k:Nat):Str:=X++⟨#[97+k%26]⟩++⟨#[97+k / 26%26]⟩++Q
variable{X Q:Str}{j k:Nat}
theorem GW(hj:j<600)(hk:k<600)(h:nm X Q j=nm X Q k):j=k:=by
 have h2:=congrArg (λs:Str=>s.cps.toList) h
 simp only[nm,Str.cps_append,Array.toList_append,append_assoc,List.append_cancel_left_eq]at h2
 simp only[cons_append,nil_append,List.cons.injEq]at h2
 omega
theorem IJ(x:Str)(n:Int)(h:n<=10)(hx:x.length=1):(PySem.Txt.mul x n).length<=10:=by
 unfold PySem.Txt.mul
 split
 .decide
 .split
  .omega
  .show((replicate n.toNat x.cps).foldl (· ++ ·) #[]).size<=10
   have f:∀ (k:Nat) (b:Array Nat),((replicate k x.cps).foldl (· ++ ·) b).size=b.size+k*x.cps.size:=by
    intro k
    induction k with
    |zero=>intro b;simp
    |succ k ih=>intro b;rw[replicate_succ,foldl_cons,ih,size_append,Nat.succ_mul];omega
   rw[f,show x.cps.size=1 from hx]
   simp
   omega
def RJ(x:Str):Prop:=∀ c∈x.cps.toList,c<1114112
theorem KC(x:Str)(n:Int)(hx:RJ x):RJ (PySem.Txt.mul x n):=by
 have f:∀ (k:Nat) (b:Array Nat),(∀ c∈b.toList,c<1114112)->∀ c∈((replicate k x.cps).foldl (· ++ ·) b).toList,c<1114112:=by
  intro k
  induction k with
  |zero=>intro b hb;exact hb
  |succ k ih=>
   intro b hb
   rw[replicate_succ,foldl_cons]
   refine ih _ λc hc=>?_
   rw[Array.toList_append]at hc
   exact(mem_append.mp hc).elim (hb c) (hx c)
 unfold PySem.Txt.mul
 split
 .intro c hc;exact absurd hc (by show ¬ c∈([]:List Nat);simp)
 .split
  .exact hx
  .exact f n.toNat #[] λc hc=>absurd hc (by simp)
theorem HW(hx:RJ X)(hq:RJ Q)(k:Nat):RJ (nm X Q k):=λc hc=>by
 simp only[nm,Str.cps_append,Array.toList_append,mem_append]at hc
 rcases hc with((hc|hc)|hc)|hc
 .exact hx c hc
 .have:c=97+k%26:=by simpa using hc
  omega
 .have:c=97+k / 26%26:=by simpa using hc
  omega
 .exact hq c hc
theorem HP(ns:List Int):∃ X Q:Str,(X.length<=10/\Q.length<=10/\RJ X/\RJ Q)/\∀ k:Nat,k<600->Oa 2 Ec [.lst (ns.map D.int),.int (k:Int)]=.ok (.str (nm X Q k)):=by
 obtain⟨p,e0⟩:=Du ns 0 (by decide) (by decide)
 have m1:=Yg p 4 (by decide)
 have a1:=emod_nonneg p (show(4:Int)≠0 by decide)
 have a2:=emod_lt_of_pos p (show(0:Int)<4 by decide)
 have d1:=Rw p 4 (by decide) (by decide)
 have m2:=Yg (p / 4) 5 (by decide)
 have a3:=emod_nonneg (p / 4) (show(5:Int)≠0 by decide)
 have a4:=emod_lt_of_pos (p / 4) (show(0:Int)<5 by decide)
 generalize p%4=q1 at*
 generalize p / 4%5=q2 at*
 have s1:JF (.str "x") (.int q1)=.ok (.str (PySem.Txt.mul "x" q1)):=if_pos ⟨a1,by omega,by decide⟩
 have s2:JF (.str "q") (.int q2)=.ok (.str (PySem.Txt.mul "q" q2)):=if_pos ⟨a3,by omega,by decide⟩
 have l1:=IJ "x" q1 (by omega) rfl
 have l2:=IJ "q" q2 (by omega) rfl
 have o1:=KC "x" q1 (by unfold RJ;decide)
 have o2:=KC "q" q2 (by unfold RJ;decide)
 generalize PySem.Txt.mul "x" q1=X at*
 generalize PySem.Txt.mul "q" q2=Q at*
 refine⟨X,Q,⟨l1,l2,o1,o2⟩,λk hk=>?_⟩
 have m3:=Yg (k:Int) 26 (by decide)
 have d3:=Rw (k:Int) 26 (by decide) (by decide)
 have m4:=Yg ((k:Int) / 26) 26 (by decide)
 have t1:=QG (k%26) (by omega)
 have t2:=QG (k / 26%26) (by omega)
 rw[show((k%26:Nat):Int)=(k:Int)%26 by omega]at t1
 rw[show((k / 26%26:Nat):Int)=(k:Int) / 26%26 by omega]at t2
 have g1:=Gz X ⟨#[97+k%26]⟩ (by show X.length+1<=1000;omega)
 have g2:=Gz (X++⟨#[97+k%26]⟩) ⟨#[97+k / 26%26]⟩ (by rw[Oj];show X.length+1+1<=1000;omega)
 have g3:=Gz (X++⟨#[97+k%26]⟩++⟨#[97+k / 26%26]⟩) Q (by rw[Oj,Oj];show X.length+1+1+Q.length<=1000;omega)
 refine Qb _ _ _ _ ?_ rfl
 unfold nm
 clear hk l1 l2 a1 a2 a3 a4
 generalize (k:Int)%26=r1 at*
 generalize (k:Int) / 26%26=r2 at*
 unfold WZ at*
 unfold Ec Hn
 simp only[Wb,Sa,map_cons,map_nil,List.length_cons,length_nil,cons_append,nil_append,reduceAdd,reduceSub,replicate,kD,b1,b2,Aa,Ia,Ja,Jb,Kb,Rb,Na,Db,Xa,Za,Res.bind_ok,e0,m1,d1,m2,s1,s2,m3,d3,m4,t1,t2,g1,g2,g3,Ua,Wa,Zb,set_cons_zero,set_cons_succ]
def cD(C:List (List Int)):D:=.lst (C.map pD)
def N4(i:Nat)(c:Int):Nat->List (List Int)->List Int
 |_,[]=> []
 |k,q::C=>if(q.getD i 0==c)=true then(k:Int)::N4 i c (k+1) C else N4 i c (k+1) C
def al(C:List (List Int))(one:List Int)(i:Nat):List Int:=N4 i (one.getD i 0) 0 C
theorem JT(xs ys:List D)(h:xs.length+ys.length<=1000):AH (.lst xs) (.lst ys)=.ok (xs++ys):=if_pos (le_trans h Hx)
def MA(p:Str×List Str):D:=.tup [.str p.1,.lst (p.2.map D.str)]
theorem RB{fe:Ba->Res D}(f:Str×List Str->D)(δ:Ba):∀ (ps:List (Str×List Str)) (x y:Option S),(∀ p∈ps,fe (some (.d (.str p.1))::some (.d (.lst (p.2.map D.str)))::δ)=.ok (f p))->
  Re (Ye 2 (Ib (Hb 0) (Ib (Hb 1) Xe))) (λ_=>.ok true) fe (ps.map MA) (x::y::δ)=.ok (ps.map f)
 | [],_,_,_=>rfl
 |p::ps,x,y,h=>by
  rw[map_cons,Lk (δ':=some (.d (.str p.1))::some (.d (.lst (p.2.map D.str)))::δ) _ _ _ _ rfl]
  simp only[Mb,Res.bind_ok,if_true,h p mem_cons_self,RB f δ ps _ _ (λq hq=>h q (mem_cons_of_mem _ hq)),map_cons]
theorem Zr(ps:List (Str×List Str))(hl:ps.length<=1000):Oa 1 Xg [.lst (ps.map MA)]=.ok (.lst (ps.map MA)):=by
 have c:=Sc (n:=2) (c:=λ_=>.ok true) (fe:=Ji) (δ:= [some (.d (.lst (ps.map MA)))]) (RB (fe:=Ji) MA [some (.d (.lst (ps.map MA)))] ps none none (λp _=>by
  unfold Ji MA
  simp only[b1,Af,Cf,Aa,Ia,Ja,Na,Db,Xa,Za,Res.bind_ok,Yi,List.length_cons,length_nil,reduceAdd,reduceLeDiff,if_true,reduceIte])) (by rw[length_map];omega)
 refine Qb _ _ _ _ ?_ rfl
 generalize ps.map MA=P at*
 unfold Xg Gw
 simp only[Wb,Sa,map_cons,map_nil,List.length_cons,length_nil,cons_append,nil_append,reduceAdd,reduceSub,replicate,b1,Af,Sb,Rb,Na,Res.bind_ok,Ua,Yi,c,Zb]
abbrev IZ(R A B C:D):D:=.obj "House" ["rules","doors","wings","grants"] [R,A,B,C]
theorem BP(R:D)(ds:List D)(ps qs:List (Str×List Str))(hp:ps.length<=1000)(hq:qs.length<=1000):Oa 4 (Fq 4 "House" Zf) [R,.lst ds,.lst (ps.map MA),.lst (qs.map MA)]=.ok (IZ R (.lst ds) (.lst (ps.map MA)) (.lst (qs.map MA))):=by
 have e1:=Zr ps hp
 have e2:=Zr qs hq
 refine Qb _ _ _ _ ?_ rfl
 generalize ps.map MA=P at*
 generalize qs.map MA=Q at*
 unfold Fq Zf
 simp only[Ek,Sa,map_cons,map_nil,List.length_cons,length_nil,cons_append,nil_append,reduceAdd,reduceSub,replicate,b1,Af,Aa,Ia,Ja,Na,Db,Xa,Za,Res.bind_ok,Yi,e1,e2]
theorem Q4(R A B C:D):Ni "House" "rules" (IZ R A B C)=.ok R:=rfl
theorem R4(R A B C:D):Ni "House" "doors" (IZ R A B C)=.ok A:=rfl
theorem S4(R A B C:D):Ni "House" "wings" (IZ R A B C)=.ok B:=rfl
theorem O0(R A B C:D):Ni "House" "grants" (IZ R A B C)=.ok C:=rfl
theorem Ah:∀ xs:List Str,Oh (xs.map D.str)=some xs
 | []=>rfl
 |x::xs=>by show(Oh (xs.map D.str)).map (x:: ·)=_;rw[Ah xs];rfl
theorem Rx:∀ (l acc:List (Bb×D)),((acc++l).map (·.1)).Nodup->l.foldl (λa p=>Dh a p.1 p.2) acc=acc++l
 | [],acc,_=>by rw[List.foldl_nil,append_nil]
 |p::l,acc,h=>by
  have h1:Io acc p.1=false:=by
   cases hh:Io acc p.1 with
   |false=>rfl
   |true=>
    unfold Io at hh
    obtain⟨q,hq,e⟩:=List.any_eq_true.mp hh
    rw[map_append,map_cons,List.nodup_append]at h
    exact absurd (of_decide_eq_true e) (h.2.2 q.1 (mem_map_of_mem hq) p.1 mem_cons_self)
  have h2:Dh acc p.1 p.2=acc++ [p]:=by
   unfold Dh
   rw[h1];rfl
  rw[foldl_cons,h2,Rx l (acc++ [p]) (by rw[append_assoc];exact h),append_assoc]
  rfl
theorem GJ(l:List (Bb×D))(h:(l.map (·.1)).Nodup):Ig l=l:=(Rx l [] h).trans (nil_append l)
def tK(ks:List Nat)(f:Nat->Str)(g:Nat->D):List (Bb×D):=ks.map λk=>(.inr (f k),g k)
def Sr(ks:List Nat)(f:Nat->Str):Prop:=∀ a∈ks,∀ b∈ks,f a=f b->a=b
variable{ks:List Nat}{f:Nat->Str}{g:Nat->D}
theorem EL(hi:Sr ks f)(hn:ks.Nodup):((tK ks f g).map (·.1)).Nodup:=by
 unfold tK
 rw[map_map]
 refine Pairwise.map _ (R:=λa b=>a∈ks/\b∈ks/\a≠b) (λa b h z=>h.2.2 (hi a h.1 b h.2.1 (Sum.inr.inj z))) ?_
 exact Pairwise.imp_of_mem (λha hb h=>⟨ha,hb,h⟩) hn
theorem DB{f:Nat->Str}{g:Nat->D}:∀ {ks:List Nat},Sr ks f->∀ {k:Nat},k∈ks->Kc (tK ks f g) (.inr (f k))=some (g k)
 | [],_,_,h=>by simp at h
 |a::ks,hi,k,h=>by
  show Kc ((Sum.inr (f a),g a)::tK ks f g) (.inr (f k))=_
  by_cases e:f a=f k
  .have:a=k:=hi a mem_cons_self k h e
   subst this
   exact Di rfl
  .rw[Bh (λz=>e (Sum.inr.inj z))]
   rcases mem_cons.mp h with rfl|h
   .exact absurd rfl e
   .exact DB (λa ha b hb=>hi a (mem_cons_of_mem _ ha) b (mem_cons_of_mem _ hb)) h
theorem DD{f:Nat->Str}{g:Nat->D}{x:Str}:∀ {ks:List Nat},(∀ k∈ks,f k≠x)->Kc (tK ks f g) (.inr x)=none
 | [],_=>rfl
 |a::ks,h=>by
  show Kc ((Sum.inr (f a),g a)::tK ks f g) (.inr x)=_
  rw[Bh (λz=>h a mem_cons_self (Sum.inr.inj z))]
  exact DD λk hk=>h k (mem_cons_of_mem _ hk)
def dK(l:List (Bb×D)):D:=.dct (l.map (·.1)) (l.map (·.2))
theorem NT(l:List (Bb×D)):(l.map (·.1)).zip (l.map (·.2))=l:=by
 rw[List.zip_map']
 exact List.map_id _
theorem Mq(f:Nat->Str)(g:Nat->D):∀ ks:List Nat,Bi (ks.map λk=>D.tup [.str (f k),g k])=some (tK ks f g)
 | []=>rfl
 |k::ks=>by
  rw[map_cons]
  show(match Kx (.str (f k)),Bi (ks.map λk=>D.tup [.str (f k),g k]) with
   |some kk,some l=>some ((kk,g k)::l)
   |_,_=>none)=_
  rw[Mq f g ks];rfl
theorem Fu(hi:Sr ks f)(hn:ks.Nodup):Jj (.lst (ks.map λk=>D.tup [.str (f k),g k]))=.ok (dK (tK ks f g)):=by
 unfold Jj
 dsimp only
 rw[Mq]
 dsimp only
 rw[GJ _ (EL hi hn)];rfl
theorem Mu(f:Nat->Str)(g:Nat->D)(ks:List Nat):Ss (dK (tK ks f g))=.ok (ks.map λk=>D.str (f k)):=by
 show Res.ok (((tK ks f g).map (·.1)).map Qn)=_
 unfold tK
 rw[map_map,map_map];rfl
theorem Uy(l:List (Bb×D))(r:Ba):Wd 0 (some (.d (dK l))::r)=.ok l:=by
 show Res.ok ((l.map (·.1)).zip (l.map (·.2)))=_
 rw[NT]
theorem JR(n:Nat)(a:Option S)(r:Ba):Wd (n+1) (a::r)=Wd n r:=by simp[Wd]
theorem Ju(hi:Sr ks f)(h:k∈ks):Ug (tK ks f g) (.str (f k))=.ok (g k):=by
 show(match Kc (tK ks f g) (.inr (f k)) with|some d=>Res.ok d|none=>.stuck)=_
 rw[DB hi h]
def sL(ks:List Nat)(f:Nat->Str):D:=.lst (ks.map λk=>D.str (f k))
theorem Qp{gc:Ba->Res Bool}{fe:Ba->Res D}(pr:Nat->Bool)(u v:Nat->D)(F:Nat->D)(δ:Ba):∀ (ks:List Nat) (x y:Option S),(∀ k∈ks,gc (some (.d (u k))::some (.d (v k))::δ)=.ok (pr k)/\(pr k=true->fe (some (.d (u k))::some (.d (v k))::δ)=.ok (F k)))->
  Re (Ye 2 (Ib (Hb 0) (Ib (Hb 1) Xe))) gc fe (ks.map λk=>D.tup [u k,v k]) (x::y::δ)=.ok ((ks.filter pr).map F)
 | [],_,_,_=>rfl
 |k::ks,x,y,h=>by
  obtain⟨h1,h2⟩:=h k mem_cons_self
  have ih:=Qp pr u v F δ ks (some (.d (u k))) (some (.d (v k))) (λq hq=>h q (mem_cons_of_mem _ hq))
  rw[map_cons,Lk (δ':=some (.d (u k))::some (.d (v k))::δ) _ _ _ _ rfl,h1]
  cases hp:pr k with
  |true=>
   rw[filter_cons_of_pos hp]
   simp only[Mb,Res.bind_ok,if_true,h2 hp,ih,map_cons]
  |false=>
   rw[filter_cons_of_neg (by rw[hp];simp)]
   simp only[Mb,Res.bind_ok,false_eq_true,if_false,ih]
theorem Td{gc:Ba->Res Bool}{fe:Ba->Res D}(pr:Nat->Bool)(u F:Nat->D)(δ:Ba):∀ (ks:List Nat) (x:Option S),(∀ k∈ks,gc (some (.d (u k))::δ)=.ok (pr k)/\(pr k=true->fe (some (.d (u k))::δ)=.ok (F k)))->
  Re (Hb 0) gc fe (ks.map u) (x::δ)=.ok ((ks.filter pr).map F)
 | [],_,_=>rfl
 |k::ks,x,h=>by
  obtain⟨h1,h2⟩:=h k mem_cons_self
  have ih:=Td pr u F δ ks (some (.d (u k))) (λq hq=>h q (mem_cons_of_mem _ hq))
  rw[map_cons,Lk (δ':=some (.d (u k))::δ) _ _ _ _ rfl,h1]
  cases hp:pr k with
  |true=>
   rw[filter_cons_of_pos hp]
   simp only[Mb,Res.bind_ok,if_true,h2 hp,ih,map_cons]
  |false=>
   rw[filter_cons_of_neg (by rw[hp];simp)]
   simp only[Mb,Res.bind_ok,false_eq_true,if_false,ih]
theorem Yd:ks.filter (λ_=>true)=ks:=by simp
theorem Vp(g:Nat->D)(n:Nat):Zi [.lst ((range n).map g)]=.ok ((range n).map λ(j:Nat)=>D.tup [.int (j:Int),g j]):=by
 show Res.ok (Kj 0 ((range n).map g))=_
 congr 1
 refine List.ext_getElem? λi=>?_
 cases h:(Kj 0 ((range n).map g))[i]? with
 |none=>
  rw[List.getElem?_eq_none_iff,Qm,length_map,length_range]at h
  rw[eq_comm,List.getElem?_eq_none_iff,length_map,length_range];exact h
 |some d=>
  obtain⟨x,hx,rfl⟩:=Pm h
  rw[getElem?_map]at hx ⊢
  obtain⟨j,hj,rfl⟩:=map_eq_some_iff.mp hx
  rw[hj]
  have hi:=(List.getElem?_eq_some_iff.mp hj).1
  rw[length_range]at hi
  rw[List.getElem?_range hi]at hj
  have:=Option.some.inj hj
  subst this
  simp
variable{α:Type}{i:Nat}
theorem Ax{l:List α}(d:α)(h:i<l.length):l.getD i d∈l:=by
 rw[List.getD_eq_getElem?_getD,getElem?_eq_getElem h]
 exact List.getElem_mem _
theorem Hu(i:Nat)(δ:Ba)(ds:List D)(h:δ[i]? =some (some (.o ds))):OE i δ=δ.set i (some (.d (.lst ds))):=by
 unfold OE
 rw[h]
def Ti(l:List (Bb×D))(x:Str):List Str:=match Kc l (.inr x) with
 |some (.lst ds)=>(Oh ds).getD []
 |_=> []
def HM(l:List (Bb×D)):Prop:=∀ p∈l,∃ ws:List Str,p.2=.lst (ws.map D.str)
theorem DL{l:List (Bb×α)}{k:Bb}{y:α}(h:Kc l k=some y):(k,y)∈l:=by
 unfold Kc at h
 obtain⟨p,h1,h2⟩:=map_eq_some_iff.mp h
 have h3:=List.find?_some h1
 have h4:=List.mem_of_find?_eq_some h1
 rw[<-of_decide_eq_true h3,<-h2]
 exact h4
theorem NO(l:List (Bb×D))(h:HM l)(x:Str):EC l (.str x) (.lst [])=.ok (.lst ((Ti l x).map D.str)):=by
 unfold EC Ti
 show Res.ok ((Kc l (.inr x)).getD (.lst []))=_
 cases hg:Kc l (.inr x) with
 |none=>rfl
 |some y=>
  obtain⟨ws,e⟩:=h _ (DL hg)
  have e':y=.lst (ws.map D.str):=e
  subst e'
  show Res.ok (D.lst (ws.map D.str))=.ok (.lst (((Oh (ws.map D.str)).getD []).map D.str))
  rw[Ah];rfl
def rK(R:List Str):List (Bb×D):=R.map λx=>(.inr x,.bl true)
theorem Kv(x:Str):∀ R:List Str,(Kc (rK R) (.inr x)).isSome=decide (x∈R)
 | []=>by simp[rK,Kc]
 |y::R=>by
  show(Kc ((Sum.inr y,D.bl true)::rK R) (.inr x)).isSome=_
  by_cases h:y=x
  .subst h
   rw[Di rfl];simp
  .rw[Bh (show ¬ (Sum.inr y:Bb)=Sum.inr x from λz=>h (Sum.inr.inj z)),Kv x R]
   have:¬ x=y:=λz=>h z.symm
   simp[this]
theorem WX(x:Str)(R:List Str)(h:x∉R):Dh (rK R) (.inr x) (.bl true)=rK (R++ [x]):=by
 unfold Dh
 rw[Fm,Kv,decide_eq_false h]
 simp[rK]
theorem OA(R:List Str):(R.map λx=>(Sum.inr x:Bb)).zip (R.map λ_=>D.bl true)=rK R:=by
 unfold rK
 rw[List.zip_map']
theorem VX(R:List Str):(rK R).map (·.1)=R.map λx=>(Sum.inr x:Bb):=by unfold rK;rw[map_map];rfl
theorem XX(R:List Str):(rK R).map (·.2)=R.map λ_=>D.bl true:=by unfold rK;rw[map_map];rfl
abbrev Lh(A B M:D)(R W:List Str)(y:Option S):Ba:= [some (.d A),some (.d B),some (.d M),some (.q (R.map λx=>(Sum.inr x:Bb)) (R.map λ_=>D.bl true)),some (.o (W.map D.str)),y]
theorem GS(A B M:D)(R W:List Str)(y:Option S):Bd (Lh A B M R W y)=.ok (decide (W≠ [])):=by
 have e:decide (0<((W.map D.str).length:Int))=decide (W≠ []):=by
  rw[length_map]
  cases W with
  |nil=>simp
  |cons x r=>
   rw[decide_eq_true (by simp:(x::r:List Str)≠ [])]
   exact decide_eq_true (by simp only[List.length_cons];omega)
 unfold Bd Lh
 simp only[tR,b2,b1,kD,Za,Xa,Fg,Res.bind_ok,Hg,Wg,Cb,e]
theorem LN(A B M:D)(R W:List Str)(x:Str)(y:Option S):Mt 5 4 (Lh A B M R (W++ [x]) y)=.nx (Lh A B M R W (some (.d (.str x)))):=by
 have e1:((W++ [x]).map D.str)[((W++ [x]).map D.str).length-1]? =some (.str x):=by
  rw[map_append,List.map_singleton,length_append,length_singleton,Nat.add_sub_cancel,List.getElem?_concat_length]
 have e2:((W++ [x]).map D.str).dropLast=W.map D.str:=by rw[map_append,List.map_singleton,List.dropLast_concat]
 show(match ((W++ [x]).map D.str)[((W++ [x]).map D.str).length-1]? with
  |some d=>Out.nx (((Lh A B M R (W++ [x]) y).set 4 (some (.o ((W++ [x]).map D.str).dropLast))).set 5 (some (.d d)))
  |none=>.stuck)=_
 rw[e1,e2];rfl
theorem MN(A B M:D)(R W:List Str)(x:Str)(hR:R.length<=900)(h:x∉R):Am 3 (Fa 5) (kD (.bl true)) (Lh A B M R W (some (.d (.str x))))=.nx (Lh A B M (R++ [x]) W (some (.d (.str x)))):=by
 show(if((R.map λx=>(Sum.inr x:Bb)).zip (R.map λ_=>D.bl true)).length<=1000 then Out.nx ((Lh A B M R W (some (.d (.str x)))).set 3 (some (.q ((Dh ((R.map λx=>(Sum.inr x:Bb)).zip (R.map λ_=>D.bl true)) (.inr x) (.bl true)).map (·.1)) ((Dh ((R.map λx=>(Sum.inr x:Bb)).zip (R.map λ_=>D.bl true)) (.inr x) (.bl true)).map (·.2))))) else .stuck)=_
 rw[OA,WX x R h,VX,XX,if_pos (by unfold rK;rw[length_map];omega)]
 rfl
theorem F0(A B:D)(l:List (Bb×D))(hl:HM l)(R W:List Str)(x:Str)(y:Option S)(hR:R.length<=900)(hW:W.length<=40000)(hm:(Ti l x).length<=40000):
  Dd (Lh A B (.dct (l.map (·.1)) (l.map (·.2))) R (W++ [x]) y)=.nx (if x∈R then Lh A B (.dct (l.map (·.1)) (l.map (·.2))) R W (some (.d (.str x))) else Lh A B (.dct (l.map (·.1)) (l.map (·.2))) (R++ [x]) (W++Ti l x) (some (.d (.str x)))):=by
 have p1:=LN A B (.dct (l.map (·.1)) (l.map (·.2))) R W x y
 have zz:(l.map (·.1)).zip (l.map (·.2))=l:=by
  rw[List.zip_map']
  exact List.map_id _
 have g:=NO l hl x
 have n1:Ys (.str x) ((R.map λx=>(Sum.inr x:Bb)).zip (R.map λ_=>D.bl true))=.ok (.bl (!decide (x∈R))):=by
  rw[OA]
  show Res.ok (D.bl (!(Kc (rK R) (.inr x)).isSome))=_
  rw[Kv]
 by_cases h:x∈R
 .rw[decide_eq_true h]at n1
  rw[if_pos h]
  unfold Dd
  show Wk (Mt 5 4 _) _=_
  rw[p1]
  simp only[Wa,Yf,tR,UG,Za,Xa,Res.bind_ok,Lh,show ∀ (a b c:Option S) (ks:List Bb) (ds:List D) (r:Ba),Wd 3 (a::b::c::some (.q ks ds)::r)=.ok (ks.zip ds) from λ_ _ _ _ _ _=>rfl,n1,Cb,Tb,Bool.not_true,false_eq_true,if_false,reduceIte]
 .rw[decide_eq_false h]at n1
  rw[if_neg h]
  have q1:=MN A B (.dct (l.map (·.1)) (l.map (·.2))) R W x hR h
  have q2:Jy 4 (PD (Wd 2) (Aa (Fa 5) (Aa (Af (b1 Bf Ia)) Ia))) (Lh A B (.dct (l.map (·.1)) (l.map (·.2))) (R++ [x]) W (some (.d (.str x))))=.nx (Lh A B (.dct (l.map (·.1)) (l.map (·.2))) (R++ [x]) (W++Ti l x) (some (.d (.str x)))):=by
   have g2:PD (Wd 2) (Aa (Fa 5) (Aa (Af (b1 Bf Ia)) Ia)) (Lh A B (.dct (l.map (·.1)) (l.map (·.2))) (R++ [x]) W (some (.d (.str x))))=.ok (.lst ((Ti l x).map D.str)):=by
    rw[<-g,<-zz]
    simp only[PD,Aa,Ia,Af,b1,Bf,Ja,Lh,Db,Na,Res.bind_ok,length_nil,zero_le,if_true,reduceIte,zz,show ∀ (a b:Option S) (ks:List Bb) (ds:List D) (r:Ba),Wd 2 (a::b::some (.d (.dct ks ds))::r)=.ok (ks.zip ds) from λ_ _ _ _ _=>rfl]
   unfold Jy WH
   rw[g2]
   show(@ite Out ((W.map D.str).length+((Ti l x).map D.str).length<=100000) (propDecidable _) _ _)=_
   rw[if_pos (by rw[length_map,length_map];omega),<-map_append]
   rfl
  unfold Dd
  show Wk (Mt 5 4 _) _=_
  rw[p1]
  simp only[Wa,Yf,tR,UG,Za,Xa,Res.bind_ok,show ∀ (a b c:Option S) (ks:List Bb) (ds:List D) (r:Ba),Wd 3 (a::b::c::some (.q ks ds)::r)=.ok (ks.zip ds) from λ_ _ _ _ _ _=>rfl,n1,Cb,Tb,Bool.not_false,if_true,reduceIte]
  show Wk (Am 3 _ _ _) _=_
  rw[q1]
  exact q2
variable{c:Ba->Res Bool}{b:Ba->Out}{δ:Ba}
theorem WR(n:Nat)(h:c δ= .ok false):Qd c b (n+1) δ= .nx δ:=by rw[Qd,h]
theorem VR{δ2:Ba}(n:Nat)(h:c δ= .ok true)(h2:b δ= .nx δ2):Qd c b (n+1) δ=Qd c b n δ2:=by rw[Qd,h];simp only[h2]
theorem YB{p q:Str->Bool}{x:Str}:∀ {U:List Str},x∈U->p x=true->q x=false->(∀ y,q y=true->p y=true)->(U.filter q).length<(U.filter p).length
 | [],h,_,_,_=>by simp at h
 |u::U,h,hp,hq,hs=>by
  have le:∀ V:List Str,(V.filter q).length<=(V.filter p).length:=λV=>by
   induction V with
   |nil=>simp
   |cons v V ih=>
    cases h1:q v with
    |true=>rw[filter_cons_of_pos h1,filter_cons_of_pos (hs v h1),List.length_cons,List.length_cons];omega
    |false=>
     rw[filter_cons_of_neg (by rw[h1];simp)]
     cases h2:p v with
     |true=>rw[filter_cons_of_pos h2,List.length_cons];omega
     |false=>rw[filter_cons_of_neg (by rw[h2];simp)];exact ih
  rcases mem_cons.mp h with rfl|h
  .rw[filter_cons_of_pos hp,filter_cons_of_neg (by rw[hq];simp),List.length_cons]
   have:=le U
   omega
  .have ih:=YB h hp hq hs
   cases h1:q u with
   |true=>rw[filter_cons_of_pos h1,filter_cons_of_pos (hs u h1),List.length_cons,List.length_cons];omega
   |false=>
    rw[filter_cons_of_neg (by rw[h1];simp)]
    cases h2:p u with
    |true=>rw[filter_cons_of_pos h2,List.length_cons];omega
    |false=>rw[filter_cons_of_neg (by rw[h2];simp)];exact ih
def DM(U R:List Str):Nat:=(U.filter λy=> !decide (y∈R)).length
theorem IH(A B:D)(l:List (Bb×D))(hl:HM l)(U:List Str)(M:Nat)(hM:∀ x∈U,(Ti l x).length<=M/\∀ z∈Ti l x,z∈U)(hMb:M<=100)(hU:U.length<=300):
  ∀ (n:Nat) (W R:List Str) (y:Option S),W.length+M*DM U R<n->(∀ x∈W,x∈U)->R.length+DM U R<=600->W.length<=40000-M*DM U R->
  ∃ (R':List Str) (y':Option S),Qd Bd Dd n (Lh A B (.dct (l.map (·.1)) (l.map (·.2))) R W y)=.nx (Lh A B (.dct (l.map (·.1)) (l.map (·.2))) R' [] y')/\
   (∀ x,x∈R\/x∈W->x∈R')/\((∀ x∈R,∀ z∈Ti l x,z∈R\/z∈W)->∀ x∈R',∀ z∈Ti l x,z∈R')/\∀ P:Str->Prop,(∀ x,P x->∀ z∈Ti l x,P z)->(∀ x,x∈R\/x∈W->P x)->∀ x∈R',P x:=by
 intro n
 induction n with
 |zero=>intro W R y h;omega
 |succ n ih=>
  intro W R y h hW hR hWl
  by_cases hw:W= []
  .subst hw
   refine⟨R,y,WR n (by rw[GS];rfl),λx hx=>hx.elim id λz=>by simp at z,λhc x hx z hz=>(hc x hx z hz).elim id λz=>by simp at z,λP _ hP x hx=>hP x (.inl hx)⟩
  .obtain⟨V,x,rfl⟩:∃ V x,W=V++ [x]:=⟨W.dropLast,W.getLast hw,(List.dropLast_concat_getLast hw).symm⟩
   have hx:x∈U:=hW x (by simp)
   have hV:∀ z∈V,z∈U:=λz hz=>hW z (by simp[hz])
   rw[length_append,length_singleton]at h hWl
   have cd:Bd (Lh A B (.dct (l.map (·.1)) (l.map (·.2))) R (V++ [x]) y)=.ok true:=by rw[GS,decide_eq_true hw]
   have st:=F0 A B l hl R V x y (by omega) (by omega) (by have:=(hM x hx).1;omega)
   rw[VR n cd st]
   by_cases hxR:x∈R
   .rw[if_pos hxR]
    obtain⟨R',y',e,a1,a2,a3⟩:=ih V R (some (.d (.str x))) (by omega) hV hR (by omega)
    refine⟨R',y',e,λz hz=>?_,λhc=>a2 λu hu z hz=>?_,λP hP h0=>a3 P hP λz hz=>?_⟩
    .rcases hz with hz|hz
     .exact a1 z (.inl hz)
     .rcases mem_append.mp hz with hz|hz
      .exact a1 z (.inr hz)
      .rw[mem_singleton.mp hz];exact a1 x (.inl hxR)
    .rcases hc u hu z hz with hz|hz
     .exact .inl hz
     .rcases mem_append.mp hz with hz|hz
      .exact .inr hz
      .rw[mem_singleton.mp hz];exact .inl hxR
    .rcases hz with hz|hz
     .exact h0 z (.inl hz)
     .exact h0 z (.inr (by simp[hz]))
   .rw[if_neg hxR]
    have lt:DM U (R++ [x])<DM U R:=YB hx (by simp[hxR]) (by simp) λy hy=>by
     simp only[mem_append,mem_singleton,Bool.not_eq_true',decide_eq_false_iff_not,not_or]at hy ⊢
     exact hy.1
    obtain⟨m1,m2⟩:=hM x hx
    have mul:M*DM U (R++ [x])+M<=M*DM U R:=by
     have:DM U (R++ [x])+1<=DM U R:=lt
     have:=Nat.mul_le_mul_left M this
     rw[Nat.mul_add,Nat.mul_one]at this
     exact this
    obtain⟨R',y',e,a1,a2,a3⟩:=ih (V++Ti l x) (R++ [x]) (some (.d (.str x))) (by rw[length_append];omega) (λz hz=>(mem_append.mp hz).elim (hV z) (m2 z)) (by rw[length_append,length_singleton];omega) (by rw[length_append];omega)
    refine⟨R',y',e,λz hz=>?_,λhc=>a2 λu hu z hz=>?_,λP hP h0=>a3 P hP λz hz=>?_⟩
    .rcases hz with hz|hz
     .exact a1 z (.inl (by simp[hz]))
     .rcases mem_append.mp hz with hz|hz
      .exact a1 z (.inr (by simp[hz]))
      .exact a1 z (.inl (by rw[mem_singleton.mp hz];simp))
    .rcases mem_append.mp hu with hu|hu
     .rcases hc u hu z hz with hz|hz
      .exact .inl (by simp[hz])
      .rcases mem_append.mp hz with hz|hz
       .exact .inr (by simp[hz])
       .exact .inl (by simp[mem_singleton.mp hz])
     .rw[mem_singleton.mp hu]at hz
      exact .inr (by simp[hz])
    .rcases hz with hz|hz
     .rcases mem_append.mp hz with hz|hz
      .exact h0 z (.inl hz)
      .rw[mem_singleton.mp hz];exact h0 x (.inr (by simp))
     .rcases mem_append.mp hz with hz|hz
      .exact h0 z (.inr (by simp[hz]))
      .exact hP x (h0 x (.inr (by simp))) z hz
def Kg(ns:List Int)(k:Nat):Int:=if h:k<=1000 then(Du ns k (by omega) (by omega)).choose else 0
theorem Hj(ns:List Int)(k:Nat)(h:k<=1000):Oa 2 Ha [.lst (ns.map D.int),.int (k:Int)]=.ok (.int (Kg ns k)):=by
 unfold Kg
 rw[dif_pos h]
 exact(Du ns k (by omega) (by omega)).choose_spec
def iN(j:Nat):D:=.int (j:Int)
def iL(s:List Nat):D:=.lst (s.map iN)
structure Gd(m:Nat)(s:List Nat):Prop where
 ne:s≠ []
 up:s.Pairwise (· < ·)
 lt:∀ j∈s,j<m
theorem Rq(a n:Nat):Zl (a:Int) n=(range' a n).map iN:=by
 unfold Zl
 rw[List.range'_eq_map_range,map_map]
 refine List.map_congr_left λi _=>?_
 show D.int ((a:Int)+i)=D.int ((a+i:Nat):Int)
 congr 1
theorem Yl(n:Nat):Zl 0 n=(range n).map iN:=by
 have:=Rq 0 n
 rw[List.range_eq_range'];exact this
theorem Rv(s:List Nat)(n:Nat):Xb (n+1) (iL s)=true:=by
 show(s.map iN).all (Xb n)=true
 rw[all_eq_true]
 intro d hd
 obtain⟨i,_,rfl⟩:=mem_map.mp hd
 cases n<;>rfl
theorem K1:WF (.int 10) (.int 60)=.ok (.int (10^60)):=if_pos ⟨by decide,by decide,by decide⟩
abbrev Xj(sc:D)(m:Nat)(Z:List (List Nat))(x3 x4 x5 x6 x7:Option S):Ba:= [some (.d sc),some (.d (iN m)),some (.o (Z.map iL)),x3,x4,x5,x6,x7]
theorem Xv{xs:List Str}(h:xs.length<32):JG (.lst (xs.map D.str))=some xs:=by
 unfold JG
 dsimp only
 rw[Ah]
 exact if_pos h
theorem FR(ns:List Int)(m:Nat)(hm:2<=m/\m<=6)(Z:List (List Nat))(hS:∀ s∈Z,Gd m s)(x3:Option S)(ch:Int)(h0:0<=ch)(a b:Nat)(ha:(a:Int)=ch%m)(hb:(b:Int)=a+1+ch / 7%(m-a)):
  ∃ s,Gd m s/\Yf (tR (b2 Cj (b2 Mc (b1 (Oa 2 Ha) (Aa (Fa 0) (Aa (kD (.int 3)) Ia))) (kD (.int 3))) (kD (.int 0)))) (We 7 (Sb 1 (Hb 0) Sd Wf (b1 Df (Aa (Fa 1) Ia)))) (Yf (Xd (tR (b2 Jq (Ea 2) (Af (b1 Bf Ia)))) (tR (b2 BI (b2 Mc (b2 Te (Ea 4) (kD (.int 49))) (kD (.int 3))) (kD (.int 0))))) (We 7 (b3 OS (b2 Pg (Ea 2) (b2 Mc (b2 Te (Ea 4) (kD (.int 147))) (b1 Sk (Ea 2)))) Gk (b1 Et (b2 Ad (kD (.int 1)) (b2 Mc (b2 Te (Ea 4) (kD (.int 9))) (Ea 1)))))) Out.nx)
   (Xj (.lst (ns.map D.int)) m Z x3 (some (.d (.int ch))) (some (.d (iN a))) (some (.d (iN b))) (some (.o ((range' a (b-a)).map iN))))
   = .nx (Xj (.lst (ns.map D.int)) m Z x3 (some (.d (.int ch))) (some (.d (iN a))) (some (.d (iN b))) (some (.o (s.map iN)))):=by
 have c3:Oa 2 Ha [.lst (ns.map D.int),.int 3]=.ok (.int (Kg ns 3)):=Hj ns 3 (by decide)
 have m3:=Yg (Kg ns 3) 3 (by decide)
 have am:(a:Int)<m:=by rw[ha];exact emod_lt_of_pos _ (by omega)
 have q7:=emod_nonneg (ch / 7) (show((m:Int)-a)≠0 by omega)
 have q8:=emod_lt_of_pos (ch / 7) (show(0:Int)<(m:Int)-a by omega)
 by_cases hc:Kg ns 3%3=0
 .refine⟨(range m).filter λ(j:Nat)=>decide (ch / (3+2*(j:Int))%2=0)||decide (j=a),⟨?_,?_,?_⟩,?_⟩
  .intro z
   have:a∈(range m).filter λ(j:Nat)=>decide (ch / (3+2*(j:Int))%2=0)||decide (j=a):=mem_filter.mpr ⟨mem_range.mpr (by omega),by simp⟩
   rw[z]at this;simp at this
  .exact Pairwise.filter _ List.pairwise_lt_range
  .intro j hj;exact mem_range.mp (mem_filter.mp hj).1
  .have r1:Df [iN m]=.ok ((range m).map iN):=by rw[<-Yl];exact Yo m (by omega)
   have cm:∀ x7,Se 1 (Hb 0) Sd Wf (Xj (.lst (ns.map D.int)) m Z x3 (some (.d (.int ch))) (some (.d (iN a))) (some (.d (iN b))) x7) ((range m).map iN)=.ok (((range m).filter λ(j:Nat)=>decide (ch / (3+2*(j:Int))%2=0)||decide (j=a)).map iN):=λx7=>by
    refine Sc ?_ (by rw[length_map,length_range];omega)
    refine Td (gc:=Sd) (fe:=Wf) (λ(j:Nat)=>decide (ch / (3+2*(j:Int))%2=0)||decide (j=a)) iN iN (Xj (.lst (ns.map D.int)) m Z x3 (some (.d (.int ch))) (some (.d (iN a))) (some (.d (iN b))) x7) (range m) none λj hj=>⟨?_,λ_=>rfl⟩
    have hj':=mem_range.mp hj
    have e1:=IF 2 (j:Int) (by omega)
    have e2:=Rw ch (3+2*(j:Int)) (by omega) (by omega)
    have e3:=Yg (ch / (3+2*(j:Int))) 2 (by decide)
    have e4:((j:Int)==(a:Int))=decide (j=a):=by rw[Bool.eq_iff_iff,beq_iff_eq,decide_eq_true_eq];omega
    have e5:(ch / (3+2*(j:Int))%2==0)=decide (ch / (3+2*(j:Int))%2=0):=by rw[Bool.eq_iff_iff];simp
    unfold Sd iN
    simp only[Uv,tR,b2,kD,Za,Xa,Res.bind_ok,Jc,e1,e2,e3,Gf,Cb,Xm,e4,e5]
    cases decide (ch / (3+2*(j:Int))%2=0)<;>rfl
   have h3:(Kg ns 3%3==0)=true:=by rw[hc];rfl
   unfold Xj iN at*
   simp only[Yf,tR,b1,b2,kD,Aa,Ia,Na,Db,Ja,Res.bind_ok,c3,m3,Gf,Cb,Tb,h3,if_true,We,Sb,r1,cm,Ua]
   rfl
 .have h3:(Kg ns 3%3==0)=false:=by rw[Bool.eq_false_iff];simpa using hc
  have ne0:Jq (.lst (Z.map iL)) (.lst [])=.ok (.bl (!(Z.map iL).isEmpty)):=LC _ λd hd=>by
   obtain⟨s,_,rfl⟩:=mem_map.mp hd
   exact Rv s 38
  have d49:=Rw ch 49 (by decide) (by decide)
  have m49:=Yg (ch / 49) 3 (by decide)
  by_cases hd:Z≠ []/\0<ch / 49%3
  .have hS':Z.length≠0:=λz=>hd.1 (List.eq_nil_of_length_eq_zero z)
   have hem:(Z.map iL).isEmpty=false:=by cases Z with
    |nil=>exact absurd rfl hd.1
    |cons=>rfl
   have d147:=Rw ch 147 (by decide) (by decide)
   have m147:=Yg (ch / 147) ((Z.map iL).length:Int) (by rw[length_map];omega)
   obtain⟨d,e,hdm⟩:=Hz (xs:=Z.map iL) (i:=ch / 147%((Z.map iL).length:Int)) (emod_nonneg _ (by rw[length_map];omega)) (emod_lt_of_pos _ (by rw[length_map];omega))
   obtain⟨s0,hs0,rfl⟩:=mem_map.mp hdm
   have e':=Ps _ _ _ e
   have g:=hS s0 hs0
   have d9:=Rw ch 9 (by decide) (by decide)
   have m9:=Yg (ch / 9) (m:Int) (by omega)
   have q9:=emod_nonneg (ch / 9) (show(m:Int)≠0 by omega)
   obtain⟨n,hn⟩:∃ n:Nat,(n:Int)=1+ch / 9%m:=⟨(1+ch / 9%m).toNat,by omega⟩
   refine⟨s0.take n,⟨?_,g.up.sublist (List.take_sublist _ _),λj hj=>g.lt j (List.mem_of_mem_take hj)⟩,?_⟩
   .have:n≠0:=by omega
    intro z
    rcases List.take_eq_nil_iff.mp z with z|z
    .exact this z
    .exact g.ne z
   .have ct:OS (iL s0) none (some (1+ch / 9%m))=.ok ((s0.take n).map iN):=by
     rw[<-hn]
     show Res.ok (cutD (s0.map iN) none (some (n:Int)))=_
     rw[VM,List.map_take]
    have g49:decide (0<ch / 49%3)=true:=decide_eq_true hd.2
    unfold Xj at*
    simp only[iN] at*
    simp only[Yf,tR,Xd,b1,b2,b3,kD,Aa,Ia,Af,Bf,Gk,Na,Db,Xa,Fg,Za,Ja,Res.bind_ok,c3,m3,Gf,Wg,Cb,Tb,Oe,h3,if_true,if_false,false_eq_true,length_nil,zero_le,reduceIte,ne0,hem,Bool.not_false,d49,m49,g49,We,Hg,d147,m147,e',d9,m9,Jc,Tj,ct,Ua]
    rfl
  .refine⟨range' a (b-a),⟨?_,List.pairwise_lt_range',λj hj=>?_⟩,?_⟩
   .intro z
    have:=congrArg length z
    rw[List.length_range']at this
    simp at this
    omega
   .have:=List.mem_range'_1.mp hj
    omega
   .have fin:(Xd (tR (b2 Jq (Ea 2) (Af (b1 Bf Ia)))) (tR (b2 BI (b2 Mc (b2 Te (Ea 4) (kD (.int 49))) (kD (.int 3))) (kD (.int 0))))) (Xj (.lst (ns.map D.int)) m Z x3 (some (.d (.int ch))) (some (.d (iN a))) (some (.d (iN b))) (some (.o ((range' a (b-a)).map iN))))=.ok false:=by
     unfold Xj
     simp only[tR,Xd,b1,b2,kD,Ia,Af,Bf,Xa,Fg,Za,Res.bind_ok,Wg,Cb,Oe,length_nil,zero_le,if_true,reduceIte,ne0,d49,m49]
     cases Z with
     |nil=>rfl
     |cons s Z=>
      have:decide (0<ch / 49%3)=false:=decide_eq_false λz=>hd ⟨by simp,z⟩
      rw[this];rfl
    have fin3:(tR (b2 Cj (b2 Mc (b1 (Oa 2 Ha) (Aa (Fa 0) (Aa (kD (.int 3)) Ia))) (kD (.int 3))) (kD (.int 0)))) (Xj (.lst (ns.map D.int)) m Z x3 (some (.d (.int ch))) (some (.d (iN a))) (some (.d (iN b))) (some (.o ((range' a (b-a)).map iN))))=.ok false:=by
     unfold Xj
     simp only[tR,b1,b2,kD,Aa,Ia,Na,Db,Ja,Res.bind_ok,c3,m3,Gf,Cb,h3]
    unfold Yf
    rw[fin3,Tb,if_neg Bool.false_ne_true,fin,Tb,if_neg Bool.false_ne_true]
theorem MY(ns:List Int)(m:Nat)(hm:2<=m/\m<=6)(Z:List (List Nat))(hS:∀ s∈Z,Gd m s)(hl:Z.length<=20)(j:Nat)(hj:j<=20)(x4 x5 x6 x7:Option S):
  ∃ s,Gd m s/\∃ y4 y5 y6 y7,Ud (Xj (.lst (ns.map D.int)) m Z (some (.d (iN j))) x4 x5 x6 x7)=.nx (Xj (.lst (ns.map D.int)) m (Z++ [s]) (some (.d (iN j))) y4 y5 y6 y7):=by
 have c1:Oa 2 Ha [.lst (ns.map D.int),.int (4+(j:Int))]=.ok (.int (Kg ns (4+j))):=by
  rw[show(4+(j:Int))=((4+j:Nat):Int) by omega];exact Hj ns (4+j) (by omega)
 have m60:=Yg (Kg ns (4+j)) (10^60) (by decide)
 have n60:=emod_nonneg (Kg ns (4+j)) (show(10^60:Int)≠0 by decide)
 generalize Kg ns (4+j)%10^60=ch at m60 n60
 have mm:=Yg ch (m:Int) (by omega)
 have a0:=emod_nonneg ch (show(m:Int)≠0 by omega)
 have a1:=emod_lt_of_pos ch (show(0:Int)<m by omega)
 obtain⟨a,ha⟩:∃ a:Nat,(a:Int)=ch%m:=⟨(ch%m).toNat,by omega⟩
 rw[<-ha]at mm a0 a1
 have d7:=Rw ch 7 (by decide) (by decide)
 have m7:=Yg (ch / 7) ((m:Int)-a) (by omega)
 have q7:=emod_nonneg (ch / 7) (show((m:Int)-a)≠0 by omega)
 have q8:=emod_lt_of_pos (ch / 7) (show(0:Int)<(m:Int)-a by omega)
 obtain⟨b,hb⟩:∃ b:Nat,(b:Int)=a+1+ch / 7%(m-a):=⟨((a:Int)+1+ch / 7%(m-a)).toNat,by omega⟩
 have lr:CJ [.int (a:Int),.int (b:Int)]=.ok ((range' a (b-a)).map iN):=by
  show(if 0<=(a:Int)/\(a:Int)<=b/\(b:Int)<=1000 then _ else _)=_
  rw[if_pos (by omega),show((b:Int)-a).toNat=b-a by omega,Rq]
 obtain⟨s,g,e⟩:=FR ns m hm Z hS (some (.d (iN j))) ch n60 a b ha hb
 refine⟨s,g,some (.d (.int ch)),some (.d (iN a)),some (.d (iN b)),some (.d (iL s)),?_⟩
 unfold Ud
 unfold Jb
 have s1:Kb 4 (b2 Mc (b1 (Oa 2 Ha) (Aa (Fa 0) (Aa (b2 Ad (kD (.int 4)) (Ea 3)) Ia))) (b2 WF (kD (.int 10)) (kD (.int 60)))) (Xj (.lst (ns.map D.int)) m Z (some (.d (iN j))) x4 x5 x6 x7)=.nx (Xj (.lst (ns.map D.int)) m Z (some (.d (iN j))) (some (.d (.int ch))) x5 x6 x7):=by
  unfold Xj iN
  simp only[Kb,b1,b2,kD,Aa,Ia,Na,Xa,Za,Ja,Res.bind_ok,Jc,c1,K1,m60,Ua,set_cons_zero,set_cons_succ]
 have s2:Kb 5 (b2 Mc (Ea 4) (Ea 1)) (Xj (.lst (ns.map D.int)) m Z (some (.d (iN j))) (some (.d (.int ch))) x5 x6 x7)=.nx (Xj (.lst (ns.map D.int)) m Z (some (.d (iN j))) (some (.d (.int ch))) (some (.d (iN a))) x6 x7):=by
  unfold Xj iN
  simp only[Kb,b2,Xa,Za,Res.bind_ok,mm,Ua,set_cons_zero,set_cons_succ]
 have s3:Kb 6 (b2 Ad (b2 Ad (Ea 5) (kD (.int 1))) (b2 Mc (b2 Te (Ea 4) (kD (.int 7))) (b2 Em (Ea 1) (Ea 5)))) (Xj (.lst (ns.map D.int)) m Z (some (.d (iN j))) (some (.d (.int ch))) (some (.d (iN a))) x6 x7)=.nx (Xj (.lst (ns.map D.int)) m Z (some (.d (iN j))) (some (.d (.int ch))) (some (.d (iN a))) (some (.d (iN b))) x7):=by
  unfold Xj iN
  simp only[Kb,b2,kD,Xa,Za,Res.bind_ok,d7,Og,m7,Jc,<-hb,Ua,set_cons_zero,set_cons_succ]
 have s4:We 7 (b1 CJ (Aa (Fa 5) (Aa (Fa 6) Ia))) (Xj (.lst (ns.map D.int)) m Z (some (.d (iN j))) (some (.d (.int ch))) (some (.d (iN a))) (some (.d (iN b))) x7)=.nx (Xj (.lst (ns.map D.int)) m Z (some (.d (iN j))) (some (.d (.int ch))) (some (.d (iN a))) (some (.d (iN b))) (some (.o ((range' a (b-a)).map iN)))):=by
  unfold Xj
  rw[show iN a=.int (a:Int) from rfl,show iN b=.int (b:Int) from rfl]
  simp only[We,b1,Aa,Ia,Na,Db,Ja,Res.bind_ok,lr,Ua,set_cons_zero,set_cons_succ]
 have s6:Zg 7 (UA 2 (Fa 7)) (Xj (.lst (ns.map D.int)) m Z (some (.d (iN j))) (some (.d (.int ch))) (some (.d (iN a))) (some (.d (iN b))) (some (.o (s.map iN))))=.nx (Xj (.lst (ns.map D.int)) m (Z++ [s]) (some (.d (iN j))) (some (.d (.int ch))) (some (.d (iN a))) (some (.d (iN b))) (some (.d (iL s)))):=by
  unfold Zg
  rw[Hu 7 _ (s.map iN) rfl]
  show OD 2 _ (.ok (iL s))=_
  rw[MM 2 _ (Z.map iL) (iL s) rfl (by rw[length_map];omega)]
  show Out.nx _=_
  unfold Xj
  rw[map_append]
  rfl
 rw[s1,Wa,s2,Wa,s3,Wa,s4,Wa,e,Wa,s6]
theorem GR(ns:List Int)(m:Nat)(hm:2<=m/\m<=6):∃ Z:List (List Nat),(2<=Z.length/\Z.length<=7)/\(∀ s∈Z,Gd m s)/\Oa 2 Xc [.lst (ns.map D.int),iN m]=.ok (.lst (Z.map iL)):=by
 have c2:Oa 2 Ha [.lst (ns.map D.int),.int 2]=.ok (.int (Kg ns 2)):=Hj ns 2 (by decide)
 have m6:=Yg (Kg ns 2) 6 (by decide)
 have q1:=emod_nonneg (Kg ns 2) (show(6:Int)≠0 by decide)
 have q2:=emod_lt_of_pos (Kg ns 2) (show(0:Int)<6 by decide)
 obtain⟨n,hn⟩:∃ n:Nat,(n:Int)=2+Kg ns 2%6:=⟨(2+Kg ns 2%6).toNat,by omega⟩
 have r1:Df [.int (n:Int)]=.ok ((range n).map iN):=by rw[<-Yl];exact Yo n (by omega)
 obtain⟨δ2,e,Z,x3,x4,x5,x6,x7,hl,hg,rfl⟩:=DC (t:=Hb 3) (body:=Ud) (λi δ=>∃ Z x3 x4 x5 x6 x7,Z.length=i/\(∀ s∈Z,Gd m s)/\δ=Xj (.lst (ns.map D.int)) m Z x3 x4 x5 x6 x7) ((range n).map iN) (Xj (.lst (ns.map D.int)) m [] none none none none none) (λi d δ hd ⟨Z,x3,x4,x5,x6,x7,hl,hg,e⟩=>by
  subst e
  rw[getElem?_map]at hd
  obtain⟨j,hj,rfl⟩:=map_eq_some_iff.mp hd
  have hj':j<n:=mem_range.mp (mem_of_getElem? hj)
  have hi:i<n:=by have:=(List.getElem?_eq_some_iff.mp hj).1;rwa [length_range]at this
  obtain⟨s,g,y4,y5,y6,y7,e⟩:=MY ns m hm Z hg (by omega) j (by omega) x4 x5 x6 x7
  exact⟨_,rfl,_,.inl e,Z++ [s],_,_,_,_,_,by rw[length_append,hl];rfl,λq hq=>by
   rcases mem_append.mp hq with z|z
   .exact hg q z
   .rw[mem_singleton.mp z];exact g,rfl⟩) ⟨[],none,none,none,none,none,rfl,λs hs=>by simp at hs,rfl⟩
 rw[length_map,length_range]at hl
 refine⟨Z,⟨by omega,by omega⟩,hg,Qb _ _ _ _ ?_ rfl⟩
 unfold Xc Jn
 rw[Wb]
 have s1:We 2 (b1 Bf Ia) (Sa 8 [.lst (ns.map D.int),iN m])=.nx (Xj (.lst (ns.map D.int)) m [] none none none none none):=by
  unfold Xj
  simp only[Sa,map_cons,map_nil,List.length_cons,length_nil,cons_append,nil_append,reduceAdd,reduceSub,replicate,We,b1,Ia,Bf,Res.bind_ok,zero_le,if_true,reduceIte,Ua,set_cons_zero,set_cons_succ]
 have s2:Gh (Hb 3) Ud (b1 Df (Aa (b2 Ad (kD (.int 2)) (b2 Mc (b1 (Oa 2 Ha) (Aa (Fa 0) (Aa (kD (.int 2)) Ia))) (kD (.int 6)))) Ia)) (Xj (.lst (ns.map D.int)) m [] none none none none none)=.nx (Xj (.lst (ns.map D.int)) m Z x3 x4 x5 x6 x7):=by
  unfold Xj at*
  simp only[Gh,b1,b2,kD,Aa,Ia,Na,Ja,Res.bind_ok,c2,m6,Jc,<-hn,r1,Ua]
  exact e
 unfold Jb
 rw[s1,Wa,s2,Wa]
 rfl
theorem Xh{t:D->Ba->Res Ba}{body:Ba->Out}(I:Nat->Ba->Prop)(u:Nat->D)(P:Nat->Bool)(out:Nat->Out)(hs:∀ k,(∃ d,out k=.rt d)\/∃ c fs,out k=.ex c fs):
  ∀ (L:List Nat) (i0:Nat) (δ:Ba),(∀ i k δ,L[i]? =some k->I (i0+i) δ->∃ δ',t (u k) δ= .ok δ'/\((P k=false/\∃ δ2,body δ'=.nx δ2/\I (i0+i+1) δ2)\/(P k=true/\body δ'=out k)))->I i0 δ->
  (∃ k,L.find? P=some k/\Eh t body (L.map u) δ=out k)\/(L.find? P=none/\∃ δ2,Eh t body (L.map u) δ= .nx δ2/\I (i0+L.length) δ2)
 | [],i0,δ,_,h=>.inr ⟨rfl,δ,rfl,h⟩
 |k::L,i0,δ,hb,h=>by
  obtain⟨δ',e1,hh⟩:=hb 0 k δ rfl h
  rw[map_cons,Hs (u k) (L.map u) δ δ' e1]
  rcases hh with⟨p0,δ2,e2,h2⟩|⟨p0,e2⟩
  .rw[e2,List.find?_cons_of_neg (by rw[p0];simp)]
   have:=Xh I u P out hs L (i0+1) δ2 (λi k' δ hk hI=>by
    have:=hb (i+1) k' δ (by simpa using hk) (by rw[show i0+(i+1)=i0+1+i by omega];exact hI)
    rw[show i0+(i+1)+1=i0+1+i+1 by omega]at this
    exact this) h2
   rw[List.length_cons,show i0+(L.length+1)=i0+1+L.length by omega]
   exact this
  .rw[e2,List.find?_cons_of_pos p0]
   refine .inl ⟨k,rfl,?_⟩
   rcases hs k with⟨d,e⟩|⟨c,fs,e⟩<;> · rw[e]
def Zq(a b:List Nat):List Nat:=a.filter λx=>decide (x∈b)
def Mr(a b:List Nat):Bool:=a.all λx=>decide (x∈b)
def G3(a b:List Nat):Bool:= !(Zq a b).isEmpty&&(Mr a b==Mr b a)
theorem OL:∀ (a b:List Nat),a.Pairwise (· < ·)->b.Pairwise (· < ·)->(∀ x,x∈a↔x∈b)->a=b
 | [],[],_,_,_=>rfl
 | [],y::b,_,_,h=>absurd ((h y).mpr mem_cons_self) not_mem_nil
 |x::a,[],_,_,h=>absurd ((h x).mp mem_cons_self) not_mem_nil
 |x::a,y::b,ha,hb,h=>by
  rw[pairwise_cons]at ha hb
  have e:x=y:=by
   rcases mem_cons.mp ((h x).mp mem_cons_self) with z|z
   .exact z
   .rcases mem_cons.mp ((h y).mpr mem_cons_self) with w|w
    .exact w.symm
    .have h1:=hb.1 x z
     have h2:=ha.1 y w
     omega
  subst e
  rw[OL a b ha.2 hb.2 λz=>?_]
  constructor
  .intro hz
   rcases mem_cons.mp ((h z).mp (mem_cons_of_mem _ hz)) with w|w
   .have:=ha.1 z hz;omega
   .exact w
  .intro hz
   rcases mem_cons.mp ((h z).mpr (mem_cons_of_mem _ hz)) with w|w
   .have:=hb.1 z hz;omega
   .exact w
theorem ZZ(a b:List Nat):decide (Zq a b=a)=Mr a b:=by
 rw[Bool.eq_iff_iff,decide_eq_true_eq]
 unfold Zq Mr
 rw[List.filter_eq_self,all_eq_true]
variable{b a:List Nat}
theorem A0(ha:a.Pairwise (· < ·))(hb:b.Pairwise (· < ·)):decide (Zq a b=b)=Mr b a:=by
 rw[Bool.eq_iff_iff,decide_eq_true_eq]
 unfold Mr
 rw[all_eq_true]
 constructor
 .intro h x hx
  rw[<-h]at hx
  exact decide_eq_true (mem_filter.mp hx).1
 .intro h
  refine OL _ _ (ha.filter _) hb λx=>?_
  unfold Zq
  rw[mem_filter,decide_eq_true_eq]
  exact⟨λq=>q.2,λq=>⟨of_decide_eq_true (h x q),q⟩⟩
theorem QH:∀ (a b:List Nat),Km (a.map iN) (b.map iN)=decide (a=b)
 | [],[]=>by simp[Km]
 | [],y::b=>by simp[Km]
 |x::a,[]=>by simp[Km]
 |x::a,y::b=>by
  rw[map_cons,map_cons,Km,QH a b]
  have:Me (iN x) (iN y)=decide (x=y):=by
   unfold iN
   rw[Me,Bool.eq_iff_iff,beq_iff_eq,decide_eq_true_eq];omega
  rw[this,Bool.eq_iff_iff]
  simp
theorem RH(a b:List Nat):Cj (iL a) (iL b)=.ok (.bl (decide (a=b))):=by
 unfold Cj
 rw[Rv a 39,Rv b 39]
 show Res.ok (D.bl (Me (iL a) (iL b)))=_
 rw[show Me (iL a) (iL b)=Km (a.map iN) (b.map iN) from by unfold iL;rw[Me],QH]
theorem LF(a:List Nat):Jq (iL a) (.lst [])=.ok (.bl (!a.isEmpty)):=by
 have:=LC (a.map iN) λd hd=>by obtain⟨i,_,rfl⟩:=mem_map.mp hd;rfl
 rw[show(a.map iN).isEmpty=a.isEmpty by cases a<;>rfl]at this
 exact this
theorem IV(x:Nat)(b:List Nat):LZ (iN x) (iL b)=.ok (.bl (decide (x∈b))):=by
 have f:(b.map iN).all Vh=true:=by
  rw[all_eq_true];intro d hd;obtain⟨i,_,rfl⟩:=mem_map.mp hd;rfl
 show(if(Vh (iN x)&&(b.map iN).all Vh)=true then _ else _)=_
 rw[f]
 show Res.ok (D.bl (inB (iN x) (b.map iN)))=_
 congr 2
 unfold inB
 rw[Bool.eq_iff_iff,List.any_eq_true,decide_eq_true_eq]
 constructor
 .rintro⟨d,hd,e⟩
  obtain⟨i,hi,rfl⟩:=mem_map.mp hd
  unfold iN at e
  rw[Me,beq_iff_eq]at e
  have:i=x:=by omega
  exact this▸hi
 .intro hx
  exact⟨iN x,mem_map_of_mem hx,by unfold iN;rw[Me];simp⟩
theorem Ru{β:Type}(f:α->β)(d:α)(Z:List α):Z.map f=(range Z.length).map λk=>f (Z.getD k d):=by
 refine List.ext_getElem (by simp) λi h1 h2=>?_
 rw[length_map]at h1
 simp[List.getD_eq_getElem?_getD,getElem?_eq_getElem h1]
theorem AY(a b:Int)(h:0<=a/\a<=1000)(h2:0<=b/\b<=1000):Kt [.int a,.int b]=.ok (Zl a (b-a).toNat):=by
 show @ite _ _ (propDecidable _) _ _=_
 rw[if_pos (by omega)]
def BM(n k:Nat):List Nat:=range' (k+1) (n-(k+1))
def Gr(n:Nat)(P:Nat->Nat->Bool)(k:Nat):Option Nat:=(BM n k).find? (P k)
def Tz(n:Nat)(P:Nat->Nat->Bool):Option Nat:=(range n).find? λk=>(Gr n P k).isSome
theorem Lo(h:j∈BM n k):k<j/\j<n:=by
 have:=List.mem_range'_1.mp h
 omega
abbrev Tc(Z:List (List Nat))(k:Nat):List Nat:=Z.getD k []
def Aw(Z:List (List Nat))(k j:Nat):Bool:=G3 (Tc Z k) (Tc Z j)
abbrev Ar(Z:List (List Nat))(full:Bool)(x2 x3 x4 x5:Option S):Ba:= [some (.d (.lst (Z.map iL))),some (.d (.bl full)),x2,x3,x4,x5]
variable{Z:List (List Nat)}
theorem Zj(h:k<Z.length):Tc Z k∈Z:=Ax [] h
theorem X4(Z:List (List Nat))(h:j<Z.length):Pg (.lst (Z.map iL)) (iN j)=.ok (iL (Tc Z j)):=by
 refine Ps _ _ _ (Ko (by omega) ?_)
 rw[Int.toNat_natCast,getElem?_map,getElem?_eq_getElem h]
 simp[List.getD_eq_getElem?_getD,getElem?_eq_getElem h]
theorem HB:∀ (s:List Nat) (lo m:Nat),s.Pairwise (· < ·)->(∀ j∈s,lo<=j/\j<m)->s.length<=m-lo
 | [],_,_,_,_=>zero_le _
 |x::s,lo,m,h,hb=>by
  rw[pairwise_cons]at h
  have:=HB s (x+1) m h.2 λj hj=>⟨h.1 j hj,(hb j (mem_cons_of_mem _ hj)).2⟩
  have:=hb x mem_cons_self
  rw[List.length_cons];omega
variable{m:Nat}
theorem Gd.len{s:List Nat}(g:Gd m s):s.length<=m:=HB s 0 m g.up λj hj=>⟨zero_le _,g.lt j hj⟩
theorem TU(Z:List (List Nat))(full:Bool)(m:Nat)(hZ:∀ s∈Z,Gd m s)(hm:m<=6)(hk:k<Z.length)(hj:j<Z.length)(x5:Option S):
  ∃ y5,Ue (Ar Z full (some (.d (iN k))) (some (.d (iL (Tc Z k)))) (some (.d (iN j))) x5)=if Aw Z k j=true then .rt (.tup [iN k,iN j]) else .nx (Ar Z full (some (.d (iN k))) (some (.d (iL (Tc Z k)))) (some (.d (iN j))) y5):=by
 have gk:=hZ _ (Zj hk)
 have gj:=hZ _ (Zj hj)
 have hl:=gk.len
 have ij:=X4 Z hj
 have cm:Se 1 (Hb 0) Pe Mg (Ar Z full (some (.d (iN k))) (some (.d (iL (Tc Z k)))) (some (.d (iN j))) x5) ((Tc Z k).map iN)=.ok ((Zq (Tc Z k) (Tc Z j)).map iN):=by
  refine Sc ?_ (by rw[length_map];omega)
  refine Td (gc:=Pe) (fe:=Mg) (λx=>decide (x∈Tc Z j)) iN iN (Ar Z full (some (.d (iN k))) (some (.d (iL (Tc Z k)))) (some (.d (iN j))) x5) (Tc Z k) none λx hx=>⟨?_,λ_=>rfl⟩
  have e:=IV x (Tc Z j)
  unfold Pe Ar
  simp only[tR,b2,Za,Xa,Res.bind_ok,ij,e,Cb]
 have sq:Eg (iL (Tc Z k))=.ok ((Tc Z k).map iN):=rfl
 have n0:=LF (Zq (Tc Z k) (Tc Z j))
 have e1:=RH (Zq (Tc Z k) (Tc Z j)) (Tc Z k)
 have e2:=RH (Zq (Tc Z k) (Tc Z j)) (Tc Z j)
 rw[ZZ]at e1
 rw[A0 gk.up gj.up]at e2
 refine⟨some (.o ((Zq (Tc Z k) (Tc Z j)).map iN)),?_⟩
 have s1:We 5 (Sb 1 (Hb 0) Pe Mg (b1 Eg (Fa 3))) (Ar Z full (some (.d (iN k))) (some (.d (iL (Tc Z k)))) (some (.d (iN j))) x5)=.nx (Ar Z full (some (.d (iN k))) (some (.d (iL (Tc Z k)))) (some (.d (iN j))) (some (.o ((Zq (Tc Z k) (Tc Z j)).map iN)))):=by
  unfold Ar at*
  simp only[We,Sb,b1,Na,Db,Res.bind_ok,sq,cm,Ua,set_cons_zero,set_cons_succ]
 have t:(Xd (tR (b2 Jq (Ea 5) (Af (b1 Bf Ia)))) (tR (b2 Cj (b2 Cj (Ea 5) (Ea 3)) (b2 Cj (Ea 5) (b2 Pg (Ea 0) (Ea 4)))))) (Ar Z full (some (.d (iN k))) (some (.d (iL (Tc Z k)))) (some (.d (iN j))) (some (.o ((Zq (Tc Z k) (Tc Z j)).map iN))))=.ok (Aw Z k j):=by
  unfold Ar
  rw[show(S.o ((Zq (Tc Z k) (Tc Z j)).map iN))=S.o ((Zq (Tc Z k) (Tc Z j)).map iN) from rfl]
  have h0:∀ l:Ba,Ea 0 (some (.o ((Zq (Tc Z k) (Tc Z j)).map iN))::l)=.ok (iL (Zq (Tc Z k) (Tc Z j))):=λl=>rfl
  simp only[Xd,tR,b1,b2,Ia,Af,Bf,Za,Xa,h0,Res.bind_ok,length_nil,zero_le,if_true,reduceIte,n0,e1,e2,ij,Wp,Cb,Oe]
  unfold Aw G3
  cases (Zq (Tc Z k) (Tc Z j)).isEmpty<;>rfl
 unfold Ue Jb
 rw[s1,Wa]
 unfold Yf
 rw[t,Tb]
 split
 .unfold Ar
  simp only[Rb,b1,Cf,Aa,Ia,Na,Db,Ja,Res.bind_ok,Ua,List.length_cons,length_nil,reduceAdd,reduceLeDiff,if_true,reduceIte]
 .rfl
theorem SU(Z:List (List Nat))(full:Bool)(m:Nat)(hZ:∀ s∈Z,Gd m s)(hm:m<=6)(hn:Z.length<=7):Oa 2 Zd [.lst (Z.map iL),.bl full]=.ok (match Tz Z.length (Aw Z) with
  |some k=>.tup [iN k,iN ((Gr Z.length (Aw Z) k).getD 0)]
  |none=>if full=true then .non else .tup [.non,.non]):=by
 have en:Zi [.lst (Z.map iL)]=.ok ((range Z.length).map λ(k:Nat)=>D.tup [iN k,iL (Tc Z k)]):=by
  rw[Ru iL [] Z];exact Vp _ _
 have main:=Xh (t:=Ye 2 (Ib (Hb 2) (Ib (Hb 3) Xe))) (body:=Cd) (λ_ δ=>∃ x2 x3 x4 x5:Option S,δ=Ar Z full x2 x3 x4 x5) (λk=>D.tup [iN k,iL (Tc Z k)]) (λk=>(Gr Z.length (Aw Z) k).isSome) (λk=>.rt (.tup [iN k,iN ((Gr Z.length (Aw Z) k).getD 0)])) (λk=>.inl ⟨_,rfl⟩)
  (range Z.length) 0 (Ar Z full none none none none) (λi k δ hk ⟨x2,x3,x4,x5,e⟩=>by
   subst e
   have hk':k<Z.length:=mem_range.mp (mem_of_getElem? hk)
   refine⟨Ar Z full (some (.d (iN k))) (some (.d (iL (Tc Z k)))) x4 x5,rfl,?_⟩
   have inner:=Xh (t:=Hb 4) (body:=Ue) (λ_ δ=>∃ x4 x5:Option S,δ=Ar Z full (some (.d (iN k))) (some (.d (iL (Tc Z k)))) x4 x5) iN (Aw Z k) (λj=>.rt (.tup [iN k,iN j])) (λj=>.inl ⟨_,rfl⟩)
    (BM Z.length k) 0 (Ar Z full (some (.d (iN k))) (some (.d (iL (Tc Z k)))) x4 x5) (λi j δ hj ⟨x4,x5,e⟩=>by
     subst e
     have hj':=Lo (mem_of_getElem? hj)
     refine⟨Ar Z full (some (.d (iN k))) (some (.d (iL (Tc Z k)))) (some (.d (iN j))) x5,rfl,?_⟩
     obtain⟨y5,e⟩:=TU Z full m hZ hm hk' hj'.2 x5
     cases hz:Aw Z k j with
     |true=>rw[hz,if_pos rfl]at e;exact .inr ⟨rfl,e⟩
     |false=>rw[hz,if_neg Bool.false_ne_true]at e;exact .inl ⟨rfl,_,e,_,_,rfl⟩) ⟨_,_,rfl⟩
   have r2:Kt [.int ((k:Int)+1),.int ((Z.map iL).length:Int)]=.ok ((BM Z.length k).map iN):=by
    rw[AY _ _ (by omega) (by rw[length_map];omega),length_map]
    unfold BM
    rw[<-Rq,show((Z.length:Int)-((k:Int)+1)).toNat=Z.length-(k+1) by omega]
    rfl
   have sf:Cd (Ar Z full (some (.d (iN k))) (some (.d (iL (Tc Z k)))) x4 x5)=Eh (Hb 4) Ue ((BM Z.length k).map iN) (Ar Z full (some (.d (iN k))) (some (.d (iL (Tc Z k)))) x4 x5):=by
    unfold Cd Ar
    have h2:∀ (l:Ba),Ea 0 (some (.d (iN k))::l)=.ok (.int (k:Int)):=λl=>rfl
    simp only[Gh,b1,b2,kD,Aa,Ia,Za,Xa,h2,Res.bind_ok,Hg,Jc,Ja,r2,Ua]
   rcases inner with⟨j,h1,h2⟩|⟨h1,δ2,h2,x4',x5',h3⟩
   .refine .inr ⟨by unfold Gr;rw[h1];rfl,?_⟩
    rw[sf,h2]
    unfold Gr
    rw[h1];rfl
   .refine .inl ⟨by unfold Gr;rw[h1];rfl,δ2,?_,_,_,_,_,h3⟩
    rw[sf,h2]) ⟨_,_,_,_,rfl⟩
 refine Qb _ _ _ _ ?_ rfl
 unfold Zd Ep Jb
 rw[Wb]
 have s1:Gh (Ye 2 (Ib (Hb 2) (Ib (Hb 3) Xe))) Cd (b1 Zi (Aa (Fa 0) Ia)) (Sa 6 [.lst (Z.map iL),.bl full])=Eh (Ye 2 (Ib (Hb 2) (Ib (Hb 3) Xe))) Cd ((range Z.length).map λ(k:Nat)=>D.tup [iN k,iL (Tc Z k)]) (Ar Z full none none none none):=by
  simp only[Sa,map_cons,map_nil,List.length_cons,length_nil,cons_append,nil_append,reduceAdd,reduceSub,replicate,Gh,b1,Aa,Ia,Na,Ja,Res.bind_ok,en,Ua]
 rw[s1]
 unfold Tz
 rcases main with⟨k,h1,h2⟩|⟨h1,δ2,h2,x2,x3,x4,x5,h3⟩
 .rw[h2,h1];rfl
 .rw[h2,h1,h3,Wa]
  unfold Ar
  cases full<;>simp only[Yf,Ei,tR,Rb,b1,kD,Cf,Aa,Ia,Na,Db,Ja,Res.bind_ok,Cb,Bool.not_true,Bool.not_false,Tb,Ua,Kh,Wa,Zb,List.length_cons,length_nil,reduceAdd,reduceLeDiff,if_true,if_false,false_eq_true,reduceIte]
structure Tw where
 N:Nat->Str
 m:Nat
 wi:List Nat
 ks:List Nat
 mem:Nat->List Nat
 own:Nat->List Nat
 ru:D
def Tw.ids(H:Tw):List Nat:=H.wi++H.ks
def Tw.ent(H:Tw)(i:Nat):D:=.tup [.str (H.N i),sL (H.mem i) H.N]
def Tw.wgD(H:Tw):D:=.lst (H.wi.map H.ent)
def Tw.grD(H:Tw):D:=.lst (H.ks.map H.ent)
def Tw.dr(H:Tw):D:=sL (range H.m) H.N
def Tw.hsD(H:Tw):D:=IZ H.ru H.dr H.wgD H.grD
def Tw.meT(H:Tw):List (Bb×D):=tK H.ids H.N λi=>sL (H.mem i) H.N
def Tw.spT(H:Tw):List (Bb×D):=tK H.ks H.N λk=>sL (H.own k) H.N
structure Tw.Ok(H:Tw):Prop where
 inj:∀ a b,a<100->b<100->H.N a=H.N b->a=b
 ids:∀ i∈H.ids,H.m<=i/\i<100
 nd:H.ids.Nodup
 mlt:∀ i∈H.ids,(H.mem i).length<=30/\∀ a∈H.mem i,a<100
 hm:H.m<=31
 len:H.ids.length<=100
 snd:∀ k∈H.ks,∃ P:Nat->Prop,P k/\(∀ i∈H.ids,P i->∀ a∈H.mem i,P a)/\∀ j,j<H.m->P j->j∈H.own k
 cmp:∀ k∈H.ks,∀ j∈H.own k,∀ R:Nat->Prop,R k->(∀ i∈H.ids,R i->∀ a∈H.mem i,R a)->R j
 up:∀ k∈H.ks,(H.own k).Pairwise (· < ·)/\∀ j∈H.own k,j<H.m
section
variable (H:Tw)(o:H.Ok)
include o
theorem Vv:Sr H.ids H.N:=λa ha b hb e=>o.inj a b (o.ids a ha).2 (o.ids b hb).2 e
theorem WY(h:k∈H.ks):k∈H.ids:=mem_append_right _ h
theorem Zk:Sr H.ks H.N:=λa ha b hb e=>Vv H o a (WY H o ha) b (WY H o hb) e
theorem KL:H.ks.Nodup:=(List.nodup_append.mp o.nd).2.1
theorem Tt:H.ks.length<=100:=by have:=o.len;unfold Tw.ids at this;rw[length_append]at this;omega
theorem GD(h:k∈H.ks):(H.own k).length<=H.m:=HB _ 0 _ (o.up k h).1 λj hj=>⟨zero_le _,(o.up k h).2 j hj⟩
theorem VY:AH H.wgD H.grD=.ok (H.ids.map H.ent):=by
 unfold Tw.wgD Tw.grD Tw.ids
 rw[JT _ _ (by have:=o.len;unfold Tw.ids at this;rw[length_append]at this;rw[length_map,length_map];omega),map_append]
theorem Wv(hi:i∈H.ids):Ti H.meT (H.N i)=(H.mem i).map H.N:=by
 unfold Ti Tw.meT
 rw[DB (g:=λi=>sL (H.mem i) H.N) (Vv H o) hi]
 unfold sL
 dsimp only
 have:Oh ((H.mem i).map λk=>D.str (H.N k))=some ((H.mem i).map H.N):=by
  rw[<-Ah,map_map];rfl
 rw[this]
 rfl
theorem FD(hi:i<100)(h:i∉H.ids):Ti H.meT (H.N i)= []:=by
 unfold Ti Tw.meT
 rw[DD λk hk e=>h (o.inj k i (o.ids k hk).2 hi e▸hk)]
theorem YY:HM H.meT:=λp hp=>by
 unfold Tw.meT tK at hp
 obtain⟨k,_,rfl⟩:=mem_map.mp hp
 exact⟨(H.mem k).map H.N,by show sL _ _=_;unfold sL;rw[map_map];rfl⟩
theorem IL(hk:k∈H.ks):Oa 2 Nf [H.hsD,.str (H.N k)]=.ok (sL (H.own k) H.N):=by
 have f2:Ni "House" "doors" H.hsD=.ok H.dr:=R4 H.ru H.dr H.wgD H.grD
 have f3:Ni "House" "wings" H.hsD=.ok H.wgD:=S4 H.ru H.dr H.wgD H.grD
 have f4:Ni "House" "grants" H.hsD=.ok H.grD:=O0 H.ru H.dr H.wgD H.grD
 have c1:=VY H o
 have dc:Jj (.lst (H.ids.map H.ent))=.ok (dK H.meT):=Fu (g:=λi=>sL (H.mem i) H.N) (Vv H o) o.nd
 have hki:=WY H o hk
 have hk100:=(o.ids k hki).2
 have hm:=o.hm
 obtain⟨up1,up2⟩:=o.up k hk
 have inU:∀ i,i<100->H.N i∈(range 100).map H.N:=λi hi=>mem_map_of_mem (mem_range.mpr hi)
 have memU:∀ x∈(range 100).map H.N,(Ti H.meT x).length<=30/\∀ z∈Ti H.meT x,z∈(range 100).map H.N:=λx hx=>by
  obtain⟨i,hi,rfl⟩:=mem_map.mp hx
  by_cases h:i∈H.ids
  .rw[Wv H o h,length_map]
   refine⟨(o.mlt i h).1,λz hz=>?_⟩
   obtain⟨a,ha,rfl⟩:=mem_map.mp hz
   exact inU a ((o.mlt i h).2 a ha)
  .rw[FD H o (mem_range.mp hi) h]
   exact⟨by simp,λz hz=>by simp at hz⟩
 have lU:((range 100).map H.N).length=100:=by rw[length_map,length_range]
 have lf:DM ((range 100).map H.N) []<=100:=by rw[<-lU];exact List.length_filter_le _ _
 obtain⟨R,y,wh,a1,a2,a3⟩:=IH H.hsD (.str (H.N k)) H.meT (YY H o) ((range 100).map H.N) 30 memU (by decide) (by omega) 100000 [H.N k] [] none (by rw[length_singleton];omega) (λx hx=>by
   rw[mem_singleton.mp hx];exact inU k hk100) (by simp only[length_nil];omega) (by rw[length_singleton];omega)
 have cl:=a2 (λx hx=>by simp at hx)
 have inR':∀ j,j<H.m->(H.N j∈R↔j∈H.own k):=λj hj=>by
  constructor
  .intro hx
   obtain⟨P,p1,p2,p3⟩:=o.snd k hk
   obtain⟨i,e,hi,h⟩:=a3 (λx=>∃ i,x=H.N i/\i<100/\P i) (λx hx z hz=>by
    obtain⟨i,rfl,hi,h⟩:=hx
    by_cases hd:i∈H.ids
    .rw[Wv H o hd]at hz
     obtain⟨a,ha,rfl⟩:=mem_map.mp hz
     exact⟨a,rfl,(o.mlt i hd).2 a ha,p2 i hd h a ha⟩
    .rw[FD H o hi hd]at hz;simp at hz) (λx hx=>by
    rcases hx with hx|hx
    .simp at hx
    .exact⟨k,mem_singleton.mp hx,hk100,p1⟩) _ hx
   have:=o.inj j i (by omega) hi e
   subst this
   exact p3 j hj h
  .intro hx
   exact o.cmp k hk j hx (λi=>H.N i∈R) (a1 _ (.inr (mem_singleton.mpr rfl))) λi hi h a ha=>cl _ h _ (by rw[Wv H o hi];exact mem_map_of_mem ha)
 have fo:(range H.m).filter (λj=>decide (j∈H.own k))=H.own k:=OL _ _ (Pairwise.filter _ List.pairwise_lt_range) up1 λj=>by
  rw[mem_filter,mem_range,decide_eq_true_eq]
  exact⟨λq=>q.2,λq=>⟨up2 j q,q⟩⟩
 have cm:∀ δ,Se 1 (Hb 0) Lg Ki (some (.d H.hsD)::some (.d (.str (H.N k)))::some (.d (dK H.meT))::some (.d (.dct (R.map λx=>(Sum.inr x:Bb)) (R.map λ_=>D.bl true)))::δ) ((range H.m).map λj=>D.str (H.N j))=.ok ((H.own k).map λj=>D.str (H.N j)):=λδ=>by
  refine Sc ?_ (by rw[length_map,length_range];omega)
  have:=Td (gc:=Lg) (fe:=Ki) (λj=>decide (j∈H.own k)) (λj=>D.str (H.N j)) (λj=>D.str (H.N j)) (some (.d H.hsD)::some (.d (.str (H.N k)))::some (.d (dK H.meT))::some (.d (.dct (R.map λx=>(Sum.inr x:Bb)) (R.map λ_=>D.bl true)))::δ) (range H.m) none (λj hj=>by
   have hj':=mem_range.mp hj
   refine⟨?_,λ_=>rfl⟩
   have q1:Wd 4 (some (.d (.str (H.N j)))::some (.d H.hsD)::some (.d (.str (H.N k)))::some (.d (dK H.meT))::some (.d (.dct (R.map λx=>(Sum.inr x:Bb)) (R.map λ_=>D.bl true)))::δ)=.ok (rK R):=by
    rw[<-OA];rfl
   have q2:UE (.str (H.N j)) (rK R)=.ok (.bl (decide (j∈H.own k))):=by
    show Res.ok (D.bl (Kc (rK R) (.inr (H.N j))).isSome)=_
    rw[Kv]
    congr 2
    rw[Bool.eq_iff_iff,decide_eq_true_eq,decide_eq_true_eq,inR' j hj']
   unfold Lg
   simp only[tR,UG,Xa,Res.bind_ok,q1,q2,Cb])
  rw[fo]at this
  exact this
 refine Qb _ _ _ _ ?_ rfl
 have sq:Eg H.dr=.ok ((range H.m).map λj=>D.str (H.N j)):=rfl
 have fz:MO 3 (Lh H.hsD (.str (H.N k)) (.dct (H.meT.map (·.1)) (H.meT.map (·.2))) R [] y)= [some (.d H.hsD),some (.d (.str (H.N k))),some (.d (dK H.meT)),some (.d (.dct (R.map λx=>(Sum.inr x:Bb)) (R.map λ_=>D.bl true))),some (.o []),y]:=rfl
 unfold Nf Fp
 simp only[Wb,Sa,map_cons,map_nil,List.length_cons,length_nil,cons_append,nil_append,reduceAdd,reduceSub,replicate,b1,FT,Af,Bf,Aa,Ia,Ja,Jb,Kb,We,Sq,Uk,Na,Db,Res.bind_ok,f2,f3,f4,c1,dc,Ua,Wa,set_cons_zero,set_cons_succ,reduceLeDiff,if_true,reduceIte]
 change ME (Wk (Qd Bd Dd 100000 (Lh H.hsD (.str (H.N k)) (.dct (H.meT.map (·.1)) (H.meT.map (·.2))) [] [H.N k] none)) _)=_
 rw[wh,Wa]
 unfold AR
 rw[fz]
 simp only[Rb,Af,Sb,b1,Na,Res.bind_ok,f2,sq,cm,Ua,Zb]
 rfl
theorem LL:Oa 1 Of [H.grD]=.ok (sL H.ks H.N):=by
 have hl:=Tt H o
 have cm:Se 2 (Ye 2 (Ib (Hb 0) (Ib (Hb 1) Xe))) (λ_=>.ok true) Li [some (.d H.grD)] (H.ks.map H.ent)=.ok (H.ks.map λk=>D.str (H.N k)):=by
  refine Sc ?_ (by rw[length_map];omega)
  have:=Qp (gc:=λ_=>.ok true) (fe:=Li) (λ_=>true) (λk=>D.str (H.N k)) (λk=>sL (H.mem k) H.N) (λk=>D.str (H.N k)) [some (.d H.grD)] H.ks none none (λk _=>⟨rfl,λ_=>rfl⟩)
  rw[Yd]at this
  exact this
 have sq:Eg H.grD=.ok (H.ks.map H.ent):=rfl
 refine Qb _ _ _ _ ?_ rfl
 unfold Of Ip
 simp only[Wb,Sa,map_cons,map_nil,List.length_cons,length_nil,cons_append,nil_append,reduceAdd,reduceSub,replicate,b1,Af,Sb,Rb,Na,Res.bind_ok,sq,cm,Ua,Zb]
 rfl
theorem ML:Oa 1 Ae [H.hsD]=.ok (dK H.spT):=by
 have f4:Ni "House" "grants" H.hsD=.ok H.grD:=O0 H.ru H.dr H.wgD H.grD
 have nms:=LL H o
 have hl:=Tt H o
 have cm:Se 1 (Hb 0) (λ_=>.ok true) Ng [some (.d H.hsD)] (H.ks.map λk=>D.str (H.N k))=.ok (H.ks.map λk=>D.tup [.str (H.N k),sL (H.own k) H.N]):=by
  refine Sc ?_ (by rw[length_map];omega)
  have:=Td (gc:=λ_=>.ok true) (fe:=Ng) (λ_=>true) (λk=>D.str (H.N k)) (λk=>D.tup [.str (H.N k),sL (H.own k) H.N]) [some (.d H.hsD)] H.ks none (λk hk=>⟨rfl,λ_=>by
   have e:=IL H o hk
   unfold Ng
   simp only[b1,Cf,Aa,Ia,Ja,Na,Db,Res.bind_ok,e,List.length_cons,length_nil,reduceAdd,reduceLeDiff,if_true,reduceIte]⟩)
  rw[Yd]at this
  exact this
 have dc:=Fu (g:=λk=>sL (H.own k) H.N) (Zk H o) (KL H o)
 have sq:Eg (sL H.ks H.N)=.ok (H.ks.map λk=>D.str (H.N k)):=rfl
 refine Qb _ _ _ _ ?_ rfl
 unfold Ae Jp
 simp only[Wb,Sa,map_cons,map_nil,List.length_cons,length_nil,cons_append,nil_append,reduceAdd,reduceSub,replicate,b1,Af,Sb,Aa,Ia,Ja,Rb,Na,Res.bind_ok,f4,nms,sq,cm,dc,Ua,Zb]
 rfl
theorem V2(ha:∀ j∈a,j<H.m)(hb:∀ j∈b,j<H.m)(la:a.length<=31)(lb:b.length<=31):Oa 2 Be [sL a H.N,sL b H.N]=.ok (.bl (Zq a b).isEmpty):=by
 have ta:JG (sL a H.N)=some (a.map H.N):=by
  have:=Xv (xs:=a.map H.N) (by rw[length_map];omega)
  rw[map_map]at this;exact this
 have tb:JG (sL b H.N)=some (b.map H.N):=by
  have:=Xv (xs:=b.map H.N) (by rw[length_map];omega)
  rw[map_map]at this;exact this
 have hm:=o.hm
 have e:(Ih .BitAnd (a.map H.N) (b.map H.N)).isEmpty=(Zq a b).isEmpty:=by
  rw[Bool.eq_iff_iff,List.isEmpty_iff,List.isEmpty_iff]
  unfold Ih Zq
  rw[List.filter_eq_nil_iff,List.filter_eq_nil_iff]
  constructor
  .intro h x hx z
   exact h (H.N x) (mem_map_of_mem hx) (decide_eq_true (mem_map_of_mem (of_decide_eq_true z)))
  .intro h x hx z
   obtain⟨i,hi,rfl⟩:=mem_map.mp hx
   obtain⟨j,hj,e⟩:=mem_map.mp (of_decide_eq_true z)
   have:=o.inj j i (by have:=hb j hj;omega) (by have:=ha i hi;omega) e
   exact h i hi (decide_eq_true (this▸hj))
 refine Qb _ _ _ _ ?_ rfl
 unfold Be Kn
 simp only[Wb,Sa,map_cons,map_nil,List.length_cons,length_nil,cons_append,nil_append,reduceAdd,reduceSub,replicate,Rb,QD,Xa,Za,Res.bind_ok,ta,tb,e,Ua,Zb]
theorem JL(ha:∀ j∈a,j<H.m)(hb:∀ j∈b,j<H.m)(la:a.length<=31)(lb:b.length<=31):Oa 2 Ac [sL a H.N,sL b H.N]=.ok (.bl (Mr a b)):=by
 have ta:JG (sL a H.N)=some (a.map H.N):=by
  have:=Xv (xs:=a.map H.N) (by rw[length_map];omega)
  rw[map_map]at this;exact this
 have tb:JG (sL b H.N)=some (b.map H.N):=by
  have:=Xv (xs:=b.map H.N) (by rw[length_map];omega)
  rw[map_map]at this;exact this
 have hm:=o.hm
 have e:(Ih .Sub (a.map H.N) (b.map H.N)).isEmpty=Mr a b:=by
  rw[Bool.eq_iff_iff,List.isEmpty_iff]
  unfold Ih Mr
  rw[List.filter_eq_nil_iff,all_eq_true]
  constructor
  .intro h x hx
   have:=h (H.N x) (mem_map_of_mem hx)
   rw[decide_eq_true_eq,not_not]at this
   obtain⟨j,hj,e⟩:=mem_map.mp this
   have:=o.inj j x (by have:=hb j hj;omega) (by have:=ha x hx;omega) e
   exact decide_eq_true (this▸hj)
  .intro h x hx
   obtain⟨i,hi,rfl⟩:=mem_map.mp hx
   rw[decide_eq_true_eq,not_not]
   exact mem_map_of_mem (of_decide_eq_true (h i hi))
 refine Qb _ _ _ _ ?_ rfl
 unfold Ac El
 simp only[Wb,Sa,map_cons,map_nil,List.length_cons,length_nil,cons_append,nil_append,reduceAdd,reduceSub,replicate,Rb,QD,Xa,Za,Res.bind_ok,ta,tb,e,Ua,Zb]
theorem X2(ha:∀ j∈a,j<H.m)(hb:∀ j∈b,j<H.m)(la:a.length<=31)(lb:b.length<=31):Oa 2 Ed [sL a H.N,sL b H.N]=.ok (.bl (!(Mr a b==Mr b a))):=by
 have e1:=JL H o ha hb la lb
 have e2:=JL H o hb ha lb la
 have e3:Jq (.bl (Mr a b)) (.bl (Mr b a))=.ok (.bl (!(Mr a b==Mr b a))):=by simp[Jq,Xb,Me]
 refine Qb _ _ _ _ ?_ rfl
 unfold Ed Dl
 simp only[Wb,Sa,map_cons,map_nil,List.length_cons,length_nil,cons_append,nil_append,reduceAdd,reduceSub,replicate,Rb,b1,b2,Aa,Ia,Ja,Na,Db,Res.bind_ok,e1,e2,e3,Ua,Zb]
end
theorem Lq(δ:Ba):MC (.nx δ)=.nx δ:=rfl
theorem LJ(d:D):MC (.rt d)=.rt d:=rfl
def XH:Out->Res D
 | .rt d=>.ok d
 | .nx _=>.ok .non
 | .ex c fs=>.ex c fs
 |_=>.stuck
theorem Uj(n:Nat)(g:Ba->Out)(ds:List D):Lr n g ds=XH (g (Sa n ds)):=by unfold Lr XH;cases g (Sa n ds)<;>rfl
theorem ZB(d:D):XH (.rt d)=.ok d:=rfl
theorem CO(δ:Ba):XH (.nx δ)=.ok .non:=rfl
theorem BO(c:Str)(fs:List D):XH (.ex c fs)=.ex c fs:=rfl
theorem seqO_ex(c:Str)(fs:List D)(g:Ba->Out):Wk (.ex c fs) g=.ex c fs:=rfl
local macro_rules| `(tactic| walk_at "evx*")=> `(tactic| simp only[Ck,HA,Ag,Lq,LJ,Uj,ZB,CO,BO,seqO_ex,CY,Ua,Wb,Sa,map_cons,map_nil,List.length_cons,length_nil,cons_append,nil_append,reduceAdd,reduceSub,replicate,
 kD,b1,b2,b3,F3,tR,Xd,Uv,Ei,UR,T3,S3,Ia,Aa,Gk,Af,Sb,Jb,Kb,We,Yf,Gh,Uk,FT,UA,Rb,VC,Wn,ZQ,WC,UC,Sq,Am,Yq,OB,
 Na,Db,Xa,Fg,Za,Res.bind_ok,Res.bind_ex,Res.bind_stuck,Ua,Xu,Sj,Wa,Kh,Xi,Tb,Oe,Xm,Jo,Fv,Cb,Vo,
 Gf,Vu,Wp,Ri,Rk,Wg,Iu,Jc,Hi,Og,Wu,Pl,Lj,Ql,To,Uo,Wt,Ou,Hg,Qv,Yi,Hm,Gm,Tj,Ja,Mb,ZC,AD,Zb,Oo,Il,Ii,
 set_cons_zero,set_cons_succ,Bf,Cf,if_true,if_false,reduceIte,Bool.not_true,Bool.not_false,false_eq_true,zero_le,reduceLeDiff,zero_add,Int.reduceLT,true_and,and_true,and_self, *])
theorem FH(xs:List D)(n:Nat):L3.cutD xs (some (n:Int)) none=xs.drop n:=by
 unfold L3.cutD
 rw[HT.sIx_nat]
 show(xs.drop (min n xs.length)).take (xs.length-min n xs.length)=_
 rw[List.take_of_length_le (by rw[List.length_drop];omega)]
 by_cases h:n<=xs.length
 .rw[Nat.min_eq_left h]
 .rw[Nat.min_eq_right (by omega),List.drop_of_length_le (by omega),List.drop_of_length_le (by omega)]
theorem Sh(n:Nat)(m:List D->Res D)(ds:List D)(h:ds.length=n):Gc n m ds=m ds:=if_pos h
def C5:List (Str×Bool):= [("one",false),("other",false)]
def Wo(a b:D):List D:=Es C5 [a,b]
theorem NK{a b:D}(ha:Tq false a=true)(hb:Tq false b=true):YX "NoTower" C5 [a,b]=.ex "NoTower" (Wo a b):=by
 unfold YX
 have:BB C5 [a,b]=true:=by
  show(Tq false a&&(Tq false b&&true))=true
  rw[ha,hb];rfl
 rw[if_pos this]
 rfl
def Tw.kk(H:Tw)(i:Nat):Nat:=H.ks.getD i 0
def Tw.cr(H:Tw)(i j:Nat):Bool:=G3 (H.own (H.kk i)) (H.own (H.kk j))
section
variable (H:Tw)(o:H.Ok)(hs:∀ k,Tq false (.str (H.N k))=true)
include o
theorem SI(h:i<H.ks.length):H.kk i∈H.ks:=Ax 0 h
theorem ZV(f:Nat->D):H.ks.map f=(range H.ks.length).map λi=>f (H.kk i):=Ru f 0 H.ks
theorem TR:Dq (dK H.spT)=.ok ((range H.ks.length).map λi=>D.str (H.N (H.kk i))):=by
 have hl:=Tt H o
 unfold Dq dK
 dsimp only
 rw[if_pos (by rw[length_map];unfold Tw.spT tK;rw[length_map];exact AM (by omega))]
 have:=Mu H.N (λk=>sL (H.own k) H.N) H.ks
 have e:(H.spT.map (·.1)).map Qn=H.ks.map λk=>D.str (H.N k):=by
  have h2:Res.ok ((H.spT.map (·.1)).map Qn)=Res.ok (H.ks.map λk=>D.str (H.N k)):=this
  injection h2
 rw[e,ZV H o]
abbrev Gy(H:Tw)(x2 x3 x4:Option S):Ba:= [some (.d (dK H.spT)),some (.d (.lst ((range H.ks.length).map λi=>D.str (H.N (H.kk i))))),x2,x3,x4]
include hs
theorem Z1(hi:i<H.ks.length)(hj:j<H.ks.length)(x2:Option S):Ic (Gy H x2 (some (.d (.str (H.N (H.kk i))))) (some (.d (.str (H.N (H.kk j))))))=if H.cr i j=true then .ex "NoTower" (Wo (.str (H.N (H.kk i))) (.str (H.N (H.kk j)))) else .nx (Gy H x2 (some (.d (.str (H.N (H.kk i))))) (some (.d (.str (H.N (H.kk j)))))):=by
 have hi':=SI H o hi
 have hj':=SI H o hj
 have hm:=o.hm
 have gi:Ug H.spT (.str (H.N (H.kk i)))=.ok (sL (H.own (H.kk i)) H.N):=Ju (Zk H o) hi'
 have gj:Ug H.spT (.str (H.N (H.kk j)))=.ok (sL (H.own (H.kk j)) H.N):=Ju (Zk H o) hj'
 have li:=GD H o hi'
 have lj:=GD H o hj'
 have e1:=V2 H o (o.up _ hi').2 (o.up _ hj').2 (by omega) (by omega)
 have e2:=X2 H o (o.up _ hi').2 (o.up _ hj').2 (by omega) (by omega)
 have r:=NK (hs (H.kk i)) (hs (H.kk j))
 have cr:H.cr i j=(!(Zq (H.own (H.kk i)) (H.own (H.kk j))).isEmpty&&(Mr (H.own (H.kk i)) (H.own (H.kk j))==Mr (H.own (H.kk j)) (H.own (H.kk i)))):=rfl
 unfold Ic Gy
 rw[cr]
 simp only[Yf,HA,Ag,Xd,Ei,tR,b1,OB,Aa,Ia,Ja,Uy,Xa,Za,Na,Db,Res.bind_ok,gi,gj,e1,e2,Cb,Oe]
 cases (Zq (H.own (H.kk i)) (H.own (H.kk j))).isEmpty with
 |true=>simp only[Bool.not_true,false_eq_true,if_false,reduceIte,Mb,Tb,Bool.false_and]
 |false=>
  cases (Mr (H.own (H.kk i)) (H.own (H.kk j))==Mr (H.own (H.kk j)) (H.own (H.kk i))) with
  |true=>
   simp only[Bool.not_true,Bool.not_false,if_true,reduceIte,Mb,Tb,Bool.and_self,Vj,Ag,Aa,Ia,Na,Db,Ja,Ua]
   exact r
  |false=>simp only[Bool.not_false,Bool.not_true,if_true,if_false,false_eq_true,reduceIte,Mb,Tb,Bool.and_false]
theorem Y1:Gc 1 Vb [dK H.spT]=match Tz H.ks.length H.cr with
  |some i=>.ex "NoTower" (Wo (.str (H.N (H.kk i))) (.str (H.N (H.kk ((Gr H.ks.length H.cr i).getD 0)))))
  |none=>.ok .non:=by
 have hl:=Tt H o
 have kl:=TR H o
 have en:=Vp (λi=>D.str (H.N (H.kk i))) H.ks.length
 have main:=Xh (t:=Ye 2 (Ib (Hb 2) (Ib (Hb 3) Xe))) (body:=Ub) (λ_ δ=>∃ x2 x3 x4:Option S,δ=Gy H x2 x3 x4) (λi=>D.tup [.int (i:Int),.str (H.N (H.kk i))]) (λi=>(Gr H.ks.length H.cr i).isSome) (λi=>.ex "NoTower" (Wo (.str (H.N (H.kk i))) (.str (H.N (H.kk ((Gr H.ks.length H.cr i).getD 0)))))) (λi=>.inr ⟨_,_,rfl⟩)
  (range H.ks.length) 0 (Gy H none none none) (λ_ i δ hk ⟨x2,x3,x4,e⟩=>by
   subst e
   have hi:i<H.ks.length:=mem_range.mp (mem_of_getElem? hk)
   refine⟨Gy H (some (.d (.int (i:Int)))) (some (.d (.str (H.N (H.kk i))))) x4,rfl,?_⟩
   have inner:=Xh (t:=Hb 4) (body:=Ic) (λ_ δ=>∃ x4:Option S,δ=Gy H (some (.d (.int (i:Int)))) (some (.d (.str (H.N (H.kk i))))) x4) (λj=>D.str (H.N (H.kk j))) (H.cr i) (λj=>.ex "NoTower" (Wo (.str (H.N (H.kk i))) (.str (H.N (H.kk j))))) (λj=>.inr ⟨_,_,rfl⟩)
    (BM H.ks.length i) 0 (Gy H (some (.d (.int (i:Int)))) (some (.d (.str (H.N (H.kk i))))) x4) (λ_ j δ hj ⟨x4,e⟩=>by
     subst e
     have hj':=Lo (mem_of_getElem? hj)
     refine⟨Gy H (some (.d (.int (i:Int)))) (some (.d (.str (H.N (H.kk i))))) (some (.d (.str (H.N (H.kk j))))),rfl,?_⟩
     have e:=Z1 H o hs hi hj'.2 (some (.d (.int (i:Int))))
     cases hz:H.cr i j with
     |true=>rw[hz,if_pos rfl]at e;exact .inr ⟨rfl,e⟩
     |false=>rw[hz,if_neg Bool.false_ne_true]at e;exact .inl ⟨rfl,_,e,_,rfl⟩) ⟨_,rfl⟩
   have ct:OS (.lst ((range H.ks.length).map λi=>D.str (H.N (H.kk i)))) (some ((i:Int)+1)) none=.ok ((BM H.ks.length i).map λj=>D.str (H.N (H.kk j))):=by
    show Res.ok (L3.cutD _ _ _)=_
    rw[show((i:Int)+1)=((i+1:Nat):Int) by omega,FH]
    unfold BM
    rw[<-List.map_drop,List.range_eq_range',List.drop_range']
    simp
   have sf:Ub (Gy H (some (.d (.int (i:Int)))) (some (.d (.str (H.N (H.kk i))))) x4)=Eh (Hb 4) Ic ((BM H.ks.length i).map λj=>D.str (H.N (H.kk j))) (Gy H (some (.d (.int (i:Int)))) (some (.d (.str (H.N (H.kk i))))) x4):=by
    unfold Ub Gy
    simp only[Gh,Ag,b1,b2,b3,kD,Af,Gk,Za,Xa,Res.bind_ok,Jc,Tj,ct,Yi,Mb,Ua]
   rcases inner with⟨j,h1,h2⟩|⟨h1,δ2,h2,x4',h3⟩
   .refine .inr ⟨by unfold Gr;rw[h1];rfl,?_⟩
    rw[sf,h2]
    unfold Gr
    rw[h1];rfl
   .refine .inl ⟨by unfold Gr;rw[h1];rfl,δ2,?_,_,_,_,h3⟩
    rw[sf,h2]) ⟨_,_,_,rfl⟩
 have s1:Ck (Kb 1 (Af (Yq Dq (Fa 0)))) (Sa 5 [dK H.spT])=.nx (Gy H none none none):=by
  unfold Gy
  simp only[Sa,map_cons,map_nil,List.length_cons,length_nil,cons_append,nil_append,reduceAdd,reduceSub,replicate,Ck,Kb,Af,Yq,Na,Res.bind_ok,kl,Ua,Lq,set_cons_zero,set_cons_succ]
 have s2:Gh (Ye 2 (Ib (Hb 2) (Ib (Hb 3) Xe))) Ub (Ag (b1 Zi (Aa (Fa 1) Ia))) (Gy H none none none)=Eh (Ye 2 (Ib (Hb 2) (Ib (Hb 3) Xe))) Ub ((range H.ks.length).map λ(i:Nat)=>D.tup [.int (i:Int),.str (H.N (H.kk i))]) (Gy H none none none):=by
  unfold Gy
  simp only[Gh,Ag,b1,Aa,Ia,Na,Db,Ja,Res.bind_ok,en,Mb,Ua]
 refine(Sh _ _ _ rfl).trans ?_
 unfold Vb Rh Jb
 rw[Uj,s1,Wa,s2]
 unfold Tz
 rcases main with⟨k,h1,h2⟩|⟨h1,δ2,h2,x2,x3,x4,h3⟩
 .rw[h2,h1];rfl
 .rw[h2,h1];rfl
end
theorem Qk{α:Type}{p q:α->Bool}:∀ {l:List α},(∀ x∈l,p x=q x)->l.find? p=l.find? q
 | [],_=>rfl
 |x::l,h=>by
  rw[find?_cons,find?_cons,h x mem_cons_self,Qk λy hy=>h y (mem_cons_of_mem _ hy)]
def Tw.res(H:Tw)(full:Bool):Res D:=match Tz H.ks.length H.cr with
 |some i=>.ex "NoTower" (Wo (.str (H.N (H.kk i))) (.str (H.N (H.kk ((Gr H.ks.length H.cr i).getD 0)))))
 |none=>if full=true then .ok (dK H.spT) else .ex "NoTower" (Wo .non .non)
def Tw.abv(H:Tw)(k:Nat):List Nat:=H.ks.filter λj=> !decide (j=k)&&Mr (H.own k) (H.own j)
section
variable (H:Tw)(o:H.Ok)
include o
theorem HL(hk:k∈H.ks):Oa 2 Fd [dK H.spT,.str (H.N k)]=.ok (sL (H.abv k) H.N):=by
 have hl:=Tt H o
 have hm:=o.hm
 have ky:=Mu H.N (λk=>sL (H.own k) H.N) H.ks
 have gk:Ug H.spT (.str (H.N k))=.ok (sL (H.own k) H.N):=Ju (Zk H o) hk
 have lk:=GD H o hk
 have cm:Se 1 (Hb 0) Qe Vg [some (.d (dK H.spT)),some (.d (.str (H.N k)))] (H.ks.map λj=>D.str (H.N j))=.ok ((H.abv k).map λj=>D.str (H.N j)):=by
  refine Sc ?_ (by rw[length_map];omega)
  refine Td (gc:=Qe) (fe:=Vg) (λj=> !decide (j=k)&&Mr (H.own k) (H.own j)) (λj=>D.str (H.N j)) (λj=>D.str (H.N j)) [some (.d (dK H.spT)),some (.d (.str (H.N k)))] H.ks none λj hj=>⟨?_,λ_=>rfl⟩
  have gj:Ug H.spT (.str (H.N j))=.ok (sL (H.own j) H.N):=Ju (Zk H o) hj
  have lj:=GD H o hj
  have e:=JL H o (o.up _ hk).2 (o.up _ hj).2 (by omega) (by omega)
  have ne:Jq (.str (H.N j)) (.str (H.N k))=.ok (.bl (!decide (j=k))):=by
   have:(H.N j==H.N k)=decide (j=k):=by
    rw[Bool.eq_iff_iff,beq_iff_eq,decide_eq_true_eq]
    exact⟨λz=>Zk H o j hj k hk z,λz=>by rw[z]⟩
   simp[Jq,Xb,Me,this]
  unfold Qe
  simp only[Xd,tR,b1,b2,OB,Aa,Ia,Ja,JR,Uy,Xa,Za,Res.bind_ok,ne,gk,gj,e,Cb,Oe]
  cases decide (j=k)<;>rfl
 refine Qb _ _ _ _ ?_ rfl
 unfold Fd Fl
 have kq:Ss (dK H.spT)=.ok (H.ks.map λj=>D.str (H.N j)):=ky
 simp only[Wb,Sa,map_cons,map_nil,List.length_cons,length_nil,cons_append,nil_append,reduceAdd,reduceSub,replicate,Yq,Af,Sb,Rb,Na,Res.bind_ok,kq,cm,Ua,Zb]
 rfl
def Tw.leT(H:Tw):List (Bb×D):=tK H.ks H.N λk=>iN (H.abv k).length
theorem EG:Oa 1 De [dK H.spT]=.ok (dK H.leT):=by
 have hl:=Tt H o
 have kq:Ss (dK H.spT)=.ok (H.ks.map λj=>D.str (H.N j)):=Mu H.N (λk=>sL (H.own k) H.N) H.ks
 have cm:Se 1 (Hb 0) (λ_=>.ok true) Xf [some (.d (dK H.spT))] (H.ks.map λk=>D.str (H.N k))=.ok (H.ks.map λk=>D.tup [.str (H.N k),iN (H.abv k).length]):=by
  refine Sc ?_ (by rw[length_map];omega)
  have:=Td (gc:=λ_=>.ok true) (fe:=Xf) (λ_=>true) (λk=>D.str (H.N k)) (λk=>D.tup [.str (H.N k),iN (H.abv k).length]) [some (.d (dK H.spT))] H.ks none (λk hk=>⟨rfl,λ_=>by
   have e:=HL H o hk
   have ln:Sk (sL (H.abv k) H.N)=.ok (iN (H.abv k).length):=by unfold sL;rw[Hg,length_map];rfl
   unfold Xf
   simp only[b1,Cf,Aa,Ia,Ja,Na,Db,Res.bind_ok,e,ln,List.length_cons,length_nil,reduceAdd,reduceLeDiff,if_true,reduceIte]⟩)
  rw[Yd]at this
  exact this
 have dc:=Fu (g:=λk=>iN (H.abv k).length) (Zk H o) (KL H o)
 refine Qb _ _ _ _ ?_ rfl
 unfold De Ln
 simp only[Wb,Sa,map_cons,map_nil,List.length_cons,length_nil,cons_append,nil_append,reduceAdd,reduceSub,replicate,b1,Yq,Af,Sb,Rb,Na,Res.bind_ok,kq,cm,dc,Ua,Zb]
 rfl
variable (hs:∀ k,Tq false (.str (H.N k))=true){p d h s:Int}(hr:H.ru=.tup [.int p,.int d,.int h,.int s])
include hs hr
theorem Yy:Gc 1 Ob [H.hsD]=H.res (!decide (s<d-1)):=by
 have f1:Ni "House" "rules" H.hsD=.ok H.ru:=Q4 H.ru H.dr H.wgD H.grD
 have sp:=ML H o
 have rc:=Y1 H o hs
 have st:Oa 1 Qg [H.ru]=.ok (.int s):=by rw[hr];rfl
 have dp:Oa 1 Ce [H.ru]=.ok (.int d):=by rw[hr];rfl
 have rn:=NK (a:=.non) (b:=.non) rfl rfl
 refine(Sh _ _ _ rfl).trans ?_
 have s1:Ck (Kb 1 (b1 (Oa 1 Ae) (Aa (Fa 0) Ia))) (Sa 2 [H.hsD])=.nx [some (.d H.hsD),some (.d (dK H.spT))]:=by
  simp only[Sa,map_cons,map_nil,List.length_cons,length_nil,cons_append,nil_append,reduceAdd,reduceSub,replicate,Ck,Kb,b1,Aa,Ia,Ja,Na,Res.bind_ok,sp,Ua,Lq,set_cons_zero,set_cons_succ]
 have s2:Wn (b1 (Gc 1 Vb) (Ag (Aa (Fa 1) Ia))) [some (.d H.hsD),some (.d (dK H.spT))]=match Tz H.ks.length H.cr with
   |some i=>.ex "NoTower" (Wo (.str (H.N (H.kk i))) (.str (H.N (H.kk ((Gr H.ks.length H.cr i).getD 0)))))
   |none=>.nx [some (.d H.hsD),some (.d (dK H.spT))]:=by
  simp only[Wn,b1,Ag,Aa,Ia,Ja,Na,Db,Res.bind_ok,Mb,rc]
  cases Tz H.ks.length H.cr<;>rfl
 have s3:Yf (HA (tR (b2 ZO (b1 (Oa 1 Qg) (Aa (b1 (Ni "House" "rules") (Fa 0)) Ia)) (b2 Em (b1 (Oa 1 Ce) (Aa (b1 (Ni "House" "rules") (Fa 0)) Ia)) (kD (.int 1)))))) (Vj "NoTower" [("one",false),("other",false)] (Ag (Aa (kD .non) (Aa (kD .non) Ia)))) Out.nx [some (.d H.hsD),some (.d (dK H.spT))]=if s<d-1 then .ex "NoTower" (Wo .non .non) else .nx [some (.d H.hsD),some (.d (dK H.spT))]:=by
  simp only[Yf,HA,Ag,tR,b1,b2,kD,Aa,Ia,Ja,Na,Res.bind_ok,f1,st,dp,Og,Ri,Cb,Mb,Tb,Vj,Ua]
  by_cases hc:s<d-1
  .rw[decide_eq_true hc,if_pos rfl,if_pos hc];exact rn
  .rw[decide_eq_false hc,if_neg Bool.false_ne_true,if_neg hc]
 unfold Ob Kp Jb Tw.res
 rw[Uj,s1,Wa,s2]
 cases Tz H.ks.length H.cr with
 |some i=>rfl
 |none=>
  dsimp only
  rw[Wa,s3]
  by_cases hc:s<d-1
  .rw[if_pos hc,decide_eq_true hc];rfl
  .rw[if_neg hc,decide_eq_false hc];rfl
theorem XY:Gc 1 Fb [H.hsD]=(H.res (!decide (s<d-1))).bind λ_=>.ok (dK H.leT):=by
 have e:=Yy H o hs hr
 have l:=EG H o
 refine(Sh _ _ _ rfl).trans ?_
 unfold Fb Mn
 rw[Uj]
 simp only[Sa,map_cons,map_nil,List.length_cons,length_nil,cons_append,nil_append,reduceAdd,reduceSub,replicate,Rb,b1,Ag,Aa,Ia,Ja,Na,Res.bind_ok,Mb,e]
 unfold Tw.res
 cases Tz H.ks.length H.cr with
 |some i=>rfl
 |none=>
  dsimp only
  cases (!decide (s<d-1)) with
  |true=>simp only[if_true,reduceIte,Ja,Res.bind_ok,l,Ua,ZB]
  |false=>rfl
end
theorem ZX(h nm' a b:D)(w:Nat)(hw:w<3)(e0:Gc 1 Fb [h]=.ex "NoTower" (Wo a b))(e1:Gc 2 Rc [h,nm']=.ex "NoTower" (Wo a b))(e2:Gc 1 Bc [h]=.ex "NoTower" (Wo a b)):
  Oa 3 Oc [h,nm',iN w]=.ok (.tup [a,b]):=by
 have j1:Nl [("NoTower",true)] (.exc "NoTower" (Wo a b))=.ok (.bl true):=rfl
 have j2:Nl [("NoTower",false)] (.exc "NoTower" (Wo a b))=.ok (.bl false):=rfl
 have f1:VH ["NoTower"] "one" (.exc "NoTower" (Wo a b))=.ok a:=rfl
 have f2:VH ["NoTower"] "other" (.exc "NoTower" (Wo a b))=.ok b:=rfl
 have key:∀ (f:Ba->Res D) (g:Ba->Out),f [some (.d h),some (.d nm'),some (.d (iN w)),some (.d .non),none]=.ex "NoTower" (Wo a b)->(∀ δ,g δ=Kb 3 (Fa 4) δ)->Ho ["NoTower"] f (λ_ δ=>.nx δ) Out.nx (Eo 4 g) [some (.d h),some (.d nm'),some (.d (iN w)),some (.d .non),none]=.nx [some (.d h),some (.d nm'),some (.d (iN w)),some (.d (.exc "NoTower" (Wo a b))),none]:=by
  intro f g hf hg
  unfold Ho
  rw[hf]
  show(if("NoTower":Str)∈(["NoTower"]:List Str) then Eo 4 g "NoTower" (Wo a b) _ else _)=_
  rw[if_pos (by simp)]
  unfold Eo
  rw[hg]
  rfl
 refine Qb _ _ _ _ ?_ rfl
 unfold Oc Gj Jb
 rw[Wb]
 have s1:Kb 3 (kD .non) (Sa 5 [h,nm',iN w])=.nx [some (.d h),some (.d nm'),some (.d (iN w)),some (.d .non),none]:=by
  simp only[Sa,map_cons,map_nil,List.length_cons,length_nil,cons_append,nil_append,reduceAdd,reduceSub,replicate,Kb,kD,Ua,set_cons_zero,set_cons_succ]
 have s2:Yf (λδ=>noex ((tR (b2 Cj (Ea 2) (kD (.int 0)))) δ)) (Ho ["NoTower"] (Bn (Aa (Fa 0) Ia) 1 Fb []) (λ_ δ=>.nx δ) Out.nx (Eo 4 Hf)) (Yf (λδ=>noex ((tR (b2 Cj (Ea 2) (kD (.int 1)))) δ)) (Ho ["NoTower"] (Bn (Aa (Fa 0) (Aa (Fa 1) Ia)) 2 Rc []) (λ_ δ=>.nx δ) Out.nx (Eo 4 Jf)) (Ho ["NoTower"] (Bn (Aa (Fa 0) Ia) 1 Bc []) (λ_ δ=>.nx δ) Out.nx (Eo 4 Kf))) [some (.d h),some (.d nm'),some (.d (iN w)),some (.d .non),none]
   = .nx [some (.d h),some (.d nm'),some (.d (iN w)),some (.d (.exc "NoTower" (Wo a b))),none]:=by
  have k0:=key (Bn (Aa (Fa 0) Ia) 1 Fb []) Hf (by simp only[Bn,Aa,Ia,Na,Ja,Mb,Res.bind_ok,append_nil,e0]) (λ_=>rfl)
  have k1:=key (Bn (Aa (Fa 0) (Aa (Fa 1) Ia)) 2 Rc []) Jf (by simp only[Bn,Aa,Ia,Na,Db,Ja,Mb,Res.bind_ok,append_nil,e1]) (λ_=>rfl)
  have k2:=key (Bn (Aa (Fa 0) Ia) 1 Bc []) Kf (by simp only[Bn,Aa,Ia,Na,Ja,Mb,Res.bind_ok,append_nil,e2]) (λ_=>rfl)
  unfold Yf
  have t0:(λδ=>noex ((tR (b2 Cj (Ea 2) (kD (.int 0)))) δ)) [some (.d h),some (.d nm'),some (.d (iN w)),some (.d .non),none]=.ok (decide (w=0)):=by
   have:((w:Int)==0)=decide (w=0):=by rw[Bool.eq_iff_iff,beq_iff_eq,decide_eq_true_eq];omega
   unfold iN
   simp only[tR,b2,kD,Xa,Za,Res.bind_ok,Gf,Cb,Mb,this]
  have t1:(λδ=>noex ((tR (b2 Cj (Ea 2) (kD (.int 1)))) δ)) [some (.d h),some (.d nm'),some (.d (iN w)),some (.d .non),none]=.ok (decide (w=1)):=by
   have:((w:Int)==1)=decide (w=1):=by rw[Bool.eq_iff_iff,beq_iff_eq,decide_eq_true_eq];omega
   unfold iN
   simp only[tR,b2,kD,Xa,Za,Res.bind_ok,Gf,Cb,Mb,this]
  rw[t0,Tb]
  by_cases h0:w=0
  .rw[decide_eq_true h0,if_pos rfl,k0]
  .rw[decide_eq_false h0,if_neg Bool.false_ne_true,t1,Tb]
   by_cases h1:w=1
   .rw[decide_eq_true h1,if_pos rfl,k1]
   .rw[decide_eq_false h1,if_neg Bool.false_ne_true,k2]
 rw[s1,Wa,s2,Wa]
 simp only[Yf,Uv,Ei,tR,b1,Cf,Aa,Ia,Ja,Xa,Za,Na,Db,Res.bind_ok,j1,j2,f1,f2,Cb,Bool.not_true,Xm,Tb,if_false,false_eq_true,reduceIte,Wa,Rb,Ua,Zb,List.length_cons,length_nil,reduceAdd,reduceLeDiff,if_true]
theorem WU(h nm':D)(fs:List D)(e:Gc 1 Ob [h]=.ex "NoTower" fs):Gc 2 Rc [h,nm']=.ex "NoTower" fs:=by
 refine(Sh _ _ _ rfl).trans ?_
 unfold Rc Gp
 rw[Uj]
 simp only[Sa,map_cons,map_nil,List.length_cons,length_nil,cons_append,nil_append,reduceAdd,reduceSub,replicate,Rb,b1,Ag,Aa,Ia,Ja,Na,Res.bind_ok,Mb,e]
 rfl
theorem NX(h:D)(fs:List D)(e:Gc 1 Ob [h]=.ex "NoTower" fs):Gc 1 Bc [h]=.ex "NoTower" fs:=by
 refine(Sh _ _ _ rfl).trans ?_
 unfold Bc Hl
 rw[Uj]
 unfold Jb
 have:Kb 1 (b1 (Gc 1 Ob) (Ag (Aa (Fa 0) Ia))) (Sa 6 [h])=.ex "NoTower" fs:=by
  simp only[Sa,map_cons,map_nil,List.length_cons,length_nil,cons_append,nil_append,reduceAdd,reduceSub,replicate,Kb,b1,Ag,Aa,Ia,Ja,Na,Res.bind_ok,Mb,e]
  rfl
 rw[this]
 rfl
def IG(X Q:Str)(m:Nat)(Z:List (List Nat))(ru:D):Tw:=⟨nm X Q,m,[],(range Z.length).map (20+ ·),λi=>Tc Z (i-20),λi=>Tc Z (i-20),ru⟩
variable{ru:D}
theorem HV(hm:m<=6)(hn:Z.length<=7)(hZ:∀ s∈Z,Gd m s):(IG X Q m Z ru).Ok:=by
 have ki:∀ i∈(IG X Q m Z ru).ids,∃ k,k<Z.length/\i=20+k:=λi hi=>by
  rcases mem_append.mp hi with z|z
  .exact absurd z not_mem_nil
  .obtain⟨k,hk,rfl⟩:=mem_map.mp z
   exact⟨k,mem_range.mp hk,rfl⟩
 have km:∀ k∈(IG X Q m Z ru).ks,∃ j,j<Z.length/\k=20+j:=λk hk=>ki k (mem_append_right _ hk)
 have at':∀ k,k<Z.length->(IG X Q m Z ru).mem (20+k)=Tc Z k/\(IG X Q m Z ru).own (20+k)=Tc Z k:=λk _=>by
  show Tc Z (20+k-20)=_/\Tc Z (20+k-20)=_
  rw[show 20+k-20=k by omega];exact⟨rfl,rfl⟩
 refine⟨λa b ha hb e=>GW (by omega) (by omega) e,λi hi=>?_,?_,λi hi=>?_,by show m<=31;omega,?_,λk hk=>?_,λk hk j hj R h1 h2=>?_,λk hk=>?_⟩
 .obtain⟨k,hk,rfl⟩:=ki i hi
  show m<=20+k/\_
  omega
 .show([]++(range Z.length).map (20+ ·)).Nodup
  rw[nil_append]
  exact Pairwise.map _ (λa b h=>by omega) List.nodup_range
 .obtain⟨k,hk,rfl⟩:=ki i hi
  rw[(at' k hk).1]
  have g:=hZ _ (Zj hk)
  exact⟨by have:=g.len;omega,λa ha=>by have:=g.lt a ha;omega⟩
 .show([]++(range Z.length).map (20+ ·)).length<=100
  rw[nil_append,length_map,length_range];omega
 .obtain⟨q,hq,rfl⟩:=km k hk
  have g:=hZ _ (Zj hq)
  refine⟨λi=>i=20+q\/(i<m/\i∈Tc Z q),.inl rfl,λi hi h a ha=>?_,λj hj h=>?_⟩
  .rcases h with rfl|h
   .rw[(at' q hq).1]at ha
    exact .inr ⟨g.lt a ha,ha⟩
   .obtain⟨r,_,rfl⟩:=ki i hi
    omega
  .rw[(at' q hq).2]
   have hj':j<m:=hj
   rcases h with rfl|h
   .omega
   .exact h.2
 .obtain⟨q,hq,rfl⟩:=km k hk
  rw[(at' q hq).2]at hj
  exact h2 (20+q) (mem_append_right _ hk) h1 j (by rw[(at' q hq).1];exact hj)
 .obtain⟨q,hq,rfl⟩:=km k hk
  rw[(at' q hq).2]
  have g:=hZ _ (Zj hq)
  exact⟨g.up,g.lt⟩
theorem Vz(h:i<Z.length):(IG X Q m Z ru).kk i=20+i:=by
 show((range Z.length).map (20+ ·)).getD i 0=_
 rw[List.getD_eq_getElem?_getD,getElem?_map,List.getElem?_range h];rfl
theorem QO:(IG X Q m Z ru).ks.length=Z.length:=by
 show((range Z.length).map (20+ ·)).length=_
 rw[length_map,length_range]
theorem FV(hi:i<Z.length)(hj:j<Z.length):(IG X Q m Z ru).cr i j=Aw Z i j:=by
 unfold Tw.cr
 rw[Vz hi,Vz hj]
 show G3 (Tc Z (20+i-20)) (Tc Z (20+j-20))=_
 rw[show 20+i-20=i by omega,show 20+j-20=j by omega];rfl
theorem CI(hi:i<Z.length):Gr Z.length (IG X Q m Z ru).cr i=Gr Z.length (Aw Z) i:=
 Qk λj hj=>FV hi (Lo hj).2
theorem GV:Tz Z.length (IG X Q m Z ru).cr=Tz Z.length (Aw Z):=
 Qk λi hi=>by rw[CI (mem_range.mp hi)]
theorem TH(xs:List Str):Cj (.lst (xs.map D.str)) (.lst (xs.map D.str))=.ok (.bl true):=by
 have h:Xb 40 (.lst (xs.map D.str))=true:=by
  show(xs.map D.str).all (Xb 39)=true
  rw[all_eq_true]
  intro d hd
  obtain⟨i,_,rfl⟩:=mem_map.mp hd
  rfl
 have e:∀ ys:List Str,Km (ys.map D.str) (ys.map D.str)=true:=by
  intro ys
  induction ys with
  |nil=>simp[Km]
  |cons y ys ih=>rw[map_cons,Km,ih];simp[Me]
 unfold Cj
 rw[h]
 show Res.ok (D.bl (Me (.lst (xs.map D.str)) (.lst (xs.map D.str))))=_
 rw[show Me (.lst (xs.map D.str)) (.lst (xs.map D.str))=Km (xs.map D.str) (xs.map D.str) from by rw[Me],e]
theorem IW(h1:X.length<=10)(h2:Q.length<=10)(h3:RJ X)(h4:RJ Q)(j:Nat):Tq false (.str (nm X Q j))=true:=by
 show(decide ((nm X Q j).length<=60)&&(nm X Q j).cps.all (λc=>decide (c<1114112)))=true
 have l:(nm X Q j).length<=60:=by
  unfold nm
  rw[Oj,Oj,Oj]
  show X.length+1+1+Q.length<=60
  omega
 rw[decide_eq_true l,Bool.true_and,<-Array.all_toList,all_eq_true]
 exact λc hc=>decide_eq_true (HW h3 h4 j c hc)
theorem Wy(f:Nat->Str)(g:Nat->D):∀ ks:List Nat,Ot ((tK ks f g).map (·.1))=some (ks.map f)
 | []=>rfl
 |k::ks=>by
  show(Ot ((tK ks f g).map (·.1))).map (f k:: ·)=_
  rw[Wy f g ks];rfl
theorem FW(a b:D)(hs:Xb 39 a=true/\Xb 39 b=true)(ha:Me a a=true)(hb:Me b b=true):Jq (.tup [a,b]) (.tup [a,b])=.ok (.bl false):=by
 have h:Xb 40 (.tup [a,b])=true:=by
  show [a,b].all (Xb 39)=true
  simp[hs.1,hs.2]
 unfold Jq
 rw[h]
 show Res.ok (D.bl (!Me (.tup [a,b]) (.tup [a,b])))=_
 rw[show Me (.tup [a,b]) (.tup [a,b])=Km [a,b] [a,b] from by rw[Me],Km,Km,Km,ha,hb];rfl
abbrev Mf(sc:D)(x1 x2 x3 x4 x5 x6 x7 x8 x9:Option S):Ba:= [some (.d sc),x1,x2,x3,x4,x5,x6,x7,x8,x9]
theorem law_true(ns:List Int)(hl:ns.length<=63):DJ [.lst (ns.map D.int)]=.ok (.bl true):=by
 obtain⟨X,Q,⟨xl,ql,xo,qo⟩,nme⟩:=HP ns
 have q1:=Hj ns 1 (by decide)
 have m1:=Yg (Kg ns 1) 5 (by decide)
 have a1:=emod_nonneg (Kg ns 1) (show(5:Int)≠0 by decide)
 have a2:=emod_lt_of_pos (Kg ns 1) (show(0:Int)<5 by decide)
 obtain⟨m,hm⟩:∃ m:Nat,(m:Int)=2+Kg ns 1%5:=⟨(2+Kg ns 1%5).toNat,by omega⟩
 have hm6:2<=m/\m<=6:=by omega
 obtain⟨Z,hn,hZ,se⟩:=GR ns m hm6
 have q12:=Hj ns 12 (by decide)
 have m12:=Yg (Kg ns 12) 19 (by decide)
 have b1':=emod_nonneg (Kg ns 12) (show(19:Int)≠0 by decide)
 have b2':=emod_lt_of_pos (Kg ns 12) (show(0:Int)<19 by decide)
 generalize hd:2+Kg ns 12%19=d at*
 have q13:=Hj ns 13 (by decide)
 have m13:=Yg (Kg ns 13) 4 (by decide)
 have d13:=Rw (Kg ns 13) 4 (by decide) (by decide)
 obtain⟨st,hst,s5⟩:∃ st:Int,(st<=d-1)/\∀ x1 x2,Yf (Xd (tR (b2 Cj (b2 Mc (b1 (Oa 2 Ha) (Aa (Fa 0) (Aa (kD (.int 13)) Ia))) (kD (.int 4))) (kD (.int 0)))) (tR (b2 BI (Ea 3) (kD (.int 2))))) (Kb 4 (b2 Ad (kD (.int 1)) (b2 Mc (b2 Te (b1 (Oa 2 Ha) (Aa (Fa 0) (Aa (kD (.int 13)) Ia))) (kD (.int 4))) (b2 Em (Ea 3) (kD (.int 2)))))) Out.nx (Mf (.lst (ns.map D.int)) x1 x2 (some (.d (.int d))) (some (.d (.int (d-1)))) none none none none none)
   = .nx (Mf (.lst (ns.map D.int)) x1 x2 (some (.d (.int d))) (some (.d (.int st))) none none none none none):=by
  by_cases hc:Kg ns 13%4=0/\2<d
  .have mm:=Yg (Kg ns 13 / 4) (d-2) (by omega)
   have c2:=emod_lt_of_pos (Kg ns 13 / 4) (show(0:Int)<d-2 by omega)
   refine⟨1+Kg ns 13 / 4%(d-2),by omega,λx1 x2=>?_⟩
   have t1:(Kg ns 13%4==0)=true:=by rw[hc.1];rfl
   have t2:decide (2<d)=true:=decide_eq_true hc.2
   unfold Mf
   simp only[Yf,Xd,tR,b1,b2,kD,Aa,Ia,Na,Xa,Za,Ja,Res.bind_ok,show Oa 2 Ha [.lst (ns.map D.int),.int 13]=.ok (.int (Kg ns 13)) from q13,m13,Gf,Wg,t1,t2,Cb,Oe,if_true,Tb,Kb,d13,Og,mm,Jc,Ua,set_cons_zero,set_cons_succ]
  .refine⟨d-1,by omega,λx1 x2=>?_⟩
   unfold Mf
   simp only[Yf,Xd,tR,b1,b2,kD,Aa,Ia,Na,Xa,Za,Ja,Res.bind_ok,show Oa 2 Ha [.lst (ns.map D.int),.int 13]=.ok (.int (Kg ns 13)) from q13,m13,Gf,Wg,Cb,Oe]
   by_cases h1:Kg ns 13%4=0
   .have t1:(Kg ns 13%4==0)=true:=by rw[h1];rfl
    have t2:decide (2<d)=false:=decide_eq_false λz=>hc ⟨h1,z⟩
    rw[t1,t2];rfl
   .have t1:(Kg ns 13%4==0)=false:=by rw[Bool.eq_false_iff];simpa using h1
    rw[t1];rfl
 have q14:=Hj ns 14 (by decide)
 have m14:=Yg (Kg ns 14) 24 (by decide)
 generalize hp:1+Kg ns 14%24=p at*
 have hru:D.tup [.int p,.int d,.int d,.int st]=(IG X Q m Z (.tup [.int p,.int d,.int d,.int st])).ru:=rfl
 generalize hH:IG X Q m Z (.tup [.int p,.int d,.int d,.int st])=H at hru
 have o:H.Ok:=by rw[<-hH];exact HV hm6.2 hn.2 hZ
 have hN:H.N=nm X Q:=by rw[<-hH];rfl
 have hs:∀ k,Tq false (.str (H.N k))=true:=λk=>by
  rw[hN]
  exact IW xl ql xo qo k
 have dueq:=SU Z (st==d-1) m hZ hm6.2 hn.2
 have hfull:(!decide (st<d-1))=(st==d-1):=by
  rw[Bool.eq_iff_iff,beq_iff_eq,Bool.not_eq_true',decide_eq_false_iff_not];omega
 have tw:=Yy H o hs hru.symm
 have lo:=XY H o hs hru.symm
 rw[hfull]at tw lo
 have hlen:H.ks.length=Z.length:=by rw[<-hH];exact QO
 have hkk:∀ i,i<Z.length->H.kk i=20+i:=λi hi=>by rw[<-hH];exact Vz hi
 have hfk:Tz H.ks.length H.cr=Tz Z.length (Aw Z):=by rw[hlen,<-hH];exact GV
 have hfj:∀ i,i<Z.length->Gr H.ks.length H.cr i=Gr Z.length (Aw Z) i:=λi hi=>by rw[hlen,<-hH];exact CI hi
 have nme':∀ k:Nat,k<600->Oa 2 Ec [.lst (ns.map D.int),.int (k:Int)]=.ok (.str (H.N k)):=λk hk=>by rw[hN];exact nme k hk
 have r1:Df [iN m]=.ok ((range m).map iN):=by rw[<-Yl];exact Yo m (by omega)
 have cm1:∀ δ:Ba,Se 1 (Hb 0) (λ_=>.ok true) Jl (some (.d (.lst (ns.map D.int)))::δ) ((range m).map iN)=.ok ((range m).map λj=>D.str (H.N j)):=λδ=>by
  refine Sc ?_ (by rw[length_map,length_range];omega)
  have:=Td (gc:=λ_=>.ok true) (fe:=Jl) (λ_=>true) iN (λj=>D.str (H.N j)) (some (.d (.lst (ns.map D.int)))::δ) (range m) none (λj hj=>⟨rfl,λ_=>by
   have e:=nme' j (by have:=mem_range.mp hj;omega)
   have e':Oa 2 Ec [.lst (ns.map D.int),iN j]=.ok (.str (H.N j)):=e
   unfold Jl
   simp only[b1,Aa,Ia,Na,Db,Ja,Res.bind_ok,e']⟩)
  rw[Yd]at this
  exact this
 have en:Zi [.lst (Z.map iL)]=.ok ((range Z.length).map λ(k:Nat)=>D.tup [iN k,iL (Tc Z k)]):=by
  rw[Ru iL [] Z];exact Vp _ _
 have entE:∀ k,k<Z.length->H.ent (20+k)=D.tup [.str (H.N (20+k)),sL (Tc Z k) H.N]:=λk hk=>by
  unfold Tw.ent
  have:H.mem (20+k)=Tc Z k:=by rw[<-hH];show Tc Z (20+k-20)=_;rw[show 20+k-20=k by omega]
  rw[this]
 have cm3:∀ x1 x2 x3 x4 x6 x7 x8 x9:Option S,Se 2 (Ye 2 (Ib (Hb 0) (Ib (Hb 1) Xe))) (λ_=>.ok true) Kl (Mf (.lst (ns.map D.int)) x1 x2 x3 x4 (some (.o ((range m).map λj=>D.str (H.N j)))) x6 x7 x8 x9) ((range Z.length).map λ(k:Nat)=>D.tup [iN k,iL (Tc Z k)])=.ok ((range Z.length).map λk=>H.ent (20+k)):=λx1 x2 x3 x4 x6 x7 x8 x9=>by
  refine Sc ?_ (by rw[length_map,length_range];omega)
  have:=Qp (gc:=λ_=>.ok true) (fe:=Kl) (λ_=>true) iN (λk=>iL (Tc Z k)) (λk=>H.ent (20+k)) (Mf (.lst (ns.map D.int)) x1 x2 x3 x4 (some (.o ((range m).map λj=>D.str (H.N j)))) x6 x7 x8 x9) (range Z.length) none none (λk hk=>⟨rfl,λ_=>by
   have hk':=mem_range.mp hk
   have g:=hZ _ (Zj hk')
   have gl:=g.len
   have e':Oa 2 Ec [.lst (ns.map D.int),.int (20+(k:Int))]=.ok (.str (H.N (20+k))):=by
    rw[show(20+(k:Int))=((20+k:Nat):Int) by omega];exact nme' (20+k) (by omega)
   have cm2:Se 1 (Hb 0) (λ_=>.ok true) No (some (.d (iN k))::some (.d (iL (Tc Z k)))::Mf (.lst (ns.map D.int)) x1 x2 x3 x4 (some (.o ((range m).map λj=>D.str (H.N j)))) x6 x7 x8 x9) ((Tc Z k).map iN)=.ok ((Tc Z k).map λj=>D.str (H.N j)):=by
    refine Sc ?_ (by rw[length_map];omega)
    have:=Td (gc:=λ_=>.ok true) (fe:=No) (λ_=>true) iN (λj=>D.str (H.N j)) (some (.d (iN k))::some (.d (iL (Tc Z k)))::Mf (.lst (ns.map D.int)) x1 x2 x3 x4 (some (.o ((range m).map λj=>D.str (H.N j)))) x6 x7 x8 x9) (Tc Z k) none (λj hj=>⟨rfl,λ_=>by
     have hj':=g.lt j hj
     have e:Pg (.lst ((range m).map λj=>D.str (H.N j))) (iN j)=.ok (.str (H.N j)):=Ps _ _ _ (Ko (by omega) (by rw[Int.toNat_natCast,getElem?_map,List.getElem?_range hj'];rfl))
     unfold No Mf
     simp only[b2,Xa,Fg,Za,Res.bind_ok,e]⟩)
    rw[Yd]at this
    exact this
   have sq:Eg (iL (Tc Z k))=.ok ((Tc Z k).map iN):=rfl
   rw[entE k hk']
   unfold Kl Mf
   rw[show iN k=.int (k:Int) from rfl]
   unfold Mf at cm2
   rw[show iN k=.int (k:Int) from rfl]at cm2
   simp only[b1,b2,kD,Af,Sb,Cf,Aa,Ia,Na,Db,Xa,Za,Ja,Res.bind_ok,Jc,e',sq,cm2,List.length_cons,length_nil,reduceAdd,reduceLeDiff,if_true,reduceIte]
   rfl⟩)
  rw[Yd]at this
  exact this
 have ksE:H.ks=(range Z.length).map (20+ ·):=by rw[<-hH];rfl
 have grE:(range Z.length).map (λk=>H.ent (20+k))=H.ks.map H.ent:=by rw[ksE,map_map];rfl
 have mk:Oa 4 (Fq 4 "House" Zf) [.tup [.int p,.int d,.int d,.int st],.lst ((range m).map λj=>D.str (H.N j)),.lst [],.lst (H.ks.map H.ent)]=.ok H.hsD:=by
  have:=BP (.tup [.int p,.int d,.int d,.int st]) ((range m).map λj=>D.str (H.N j)) [] (H.ks.map λk=>(H.N k,(H.mem k).map H.N)) (by simp) (by rw[length_map,hlen];omega)
  rw[map_map]at this
  have e:(MA∘λk=>(H.N k,(H.mem k).map H.N))=H.ent:=by
   funext k
   show D.tup [.str (H.N k),.lst (((H.mem k).map H.N).map D.str)]=D.tup [.str (H.N k),.lst ((H.mem k).map λk=>D.str (H.N k))]
   rw[map_map];rfl
  rw[e]at this
  rw[map_nil]at this
  rw[this]
  have hmm:H.m=m:=by rw[<-hH];rfl
  have hww:H.wi= []:=by rw[<-hH];rfl
  unfold Tw.hsD Tw.dr Tw.wgD Tw.grD sL
  rw[hmm,hww,<-hru];rfl
 have c1:Oa 2 Ha [.lst (ns.map D.int),.int 1]=.ok (.int (Kg ns 1)):=q1
 have c12:Oa 2 Ha [.lst (ns.map D.int),.int 12]=.ok (.int (Kg ns 12)):=q12
 have c14:Oa 2 Ha [.lst (ns.map D.int),.int 14]=.ok (.int (Kg ns 14)):=q14
 have c15:Oa 2 Ha [.lst (ns.map D.int),.int 15]=.ok (.int (Kg ns 15)):=Hj ns 15 (by decide)
 generalize hgl:H.ks.map H.ent=gl at*
 have gll:gl.length=Z.length:=by rw[<-hgl,length_map,hlen]
 have gat:∀ i,i<Z.length->Pg (.lst gl) (iN i)=.ok (D.tup [.str (H.N (20+i)),sL (Tc Z i) H.N]):=λi hi=>Ps _ _ _ (Ko (by omega) (by
  rw[Int.toNat_natCast,<-hgl,ksE,map_map,getElem?_map,List.getElem?_range hi]
  show some (H.ent (20+i))=_
  rw[entE i hi]))
 have fst:∀ (x:Str) (y:D),Pg (.tup [.str x,y]) (.int 0)=.ok (.str x):=λx y=>rfl
 generalize hdl:(range m).map (λj=>D.str (H.N j))=dl at*
 have fin:∀ a b:D,(Xb 39 a=true/\Xb 39 b=true)->Me a a=true->Me b b=true->Gc 1 Ob [H.hsD]=.ex "NoTower" (Wo a b)->Gc 1 Fb [H.hsD]=.ex "NoTower" (Wo a b)->
   ME (Wk (Gh (Hb 9) Ol (b1 Df (Aa (kD (.int 3)) Ia)) (Mf (.lst (ns.map D.int)) (some (.d (iN m))) (some (.d (.lst (Z.map iL)))) (some (.d (.int d))) (some (.d (.int st))) (some (.d (.lst dl))) (some (.d (.lst gl))) (some (.d H.hsD)) (some (.d (.tup [a,b]))) none)) (Rb (kD (.bl true))))=.ok (.bl true):=λa b hsh ea eb et el=>by
  have r3:Df [.int 3]=.ok ((range 3).map iN):=by rw[<-Yl];exact Yo 3 (by omega)
  have m15:=Yg (Kg ns 15) (gl.length:Int) (by rw[gll];omega)
  have u1:=emod_nonneg (Kg ns 15) (show(gl.length:Int)≠0 by rw[gll];omega)
  have u2:=emod_lt_of_pos (Kg ns 15) (show(0:Int)<gl.length by rw[gll];omega)
  obtain⟨i,hi⟩:∃ i:Nat,(i:Int)=Kg ns 15%gl.length:=⟨(Kg ns 15%gl.length).toNat,by omega⟩
  have gi:=gat i (by rw[<-gll];omega)
  have gi':Pg (.lst gl) (.int (Kg ns 15%gl.length))=.ok (D.tup [.str (H.N (20+i)),sL (Tc Z i) H.N]):=by rw[<-hi];exact gi
  have e1:=WU H.hsD (.str (H.N (20+i))) _ et
  have e2:=NX H.hsD _ et
  obtain⟨δ2,e,x9,rfl⟩:=DC (t:=Hb 9) (body:=Ol) (λ_ δ=>∃ x9,δ=Mf (.lst (ns.map D.int)) (some (.d (iN m))) (some (.d (.lst (Z.map iL)))) (some (.d (.int d))) (some (.d (.int st))) (some (.d (.lst dl))) (some (.d (.lst gl))) (some (.d H.hsD)) (some (.d (.tup [a,b]))) x9) ((range 3).map iN) _ (λ_ dd δ hdd ⟨x9,ex⟩=>by
   subst ex
   rw[getElem?_map]at hdd
   obtain⟨w,hw,rfl⟩:=map_eq_some_iff.mp hdd
   have hw':=mem_range.mp (mem_of_getElem? hw)
   have rf:=ZX H.hsD (.str (H.N (20+i))) a b w hw' el e1 e2
   have ne:=FW a b hsh ea eb
   refine⟨Mf (.lst (ns.map D.int)) (some (.d (iN m))) (some (.d (.lst (Z.map iL)))) (some (.d (.int d))) (some (.d (.int st))) (some (.d (.lst dl))) (some (.d (.lst gl))) (some (.d H.hsD)) (some (.d (.tup [a,b]))) (some (.d (iN w))),rfl,_,.inl ?_,some (.d (iN w)),rfl⟩
   unfold Ol Mf
   simp only[Yf,tR,b1,b2,kD,Aa,Ia,Na,Db,Xa,Za,Ja,Res.bind_ok,c15,Hg,m15,gi',fst,rf,ne,Cb,Tb,if_false,false_eq_true,reduceIte]) ⟨none,rfl⟩
  have:Gh (Hb 9) Ol (b1 Df (Aa (kD (.int 3)) Ia)) (Mf (.lst (ns.map D.int)) (some (.d (iN m))) (some (.d (.lst (Z.map iL)))) (some (.d (.int d))) (some (.d (.int st))) (some (.d (.lst dl))) (some (.d (.lst gl))) (some (.d H.hsD)) (some (.d (.tup [a,b]))) none)=.nx (Mf (.lst (ns.map D.int)) (some (.d (iN m))) (some (.d (.lst (Z.map iL)))) (some (.d (.int d))) (some (.d (.int st))) (some (.d (.lst dl))) (some (.d (.lst gl))) (some (.d H.hsD)) (some (.d (.tup [a,b]))) x9):=by
   rw[<-e]
   simp only[Gh,b1,kD,Aa,Ia,Ja,Res.bind_ok,r3,Ua]
  rw[this,Wa]
  rfl
 have s1:Kb 1 (b2 Ad (kD (.int 2)) (b2 Mc (b1 (Oa 2 Ha) (Aa (Fa 0) (Aa (kD (.int 1)) Ia))) (kD (.int 5)))) (Sa 10 [.lst (ns.map D.int)])=.nx (Mf (.lst (ns.map D.int)) (some (.d (iN m))) none none none none none none none none):=by
  unfold Mf iN
  simp only[Sa,map_cons,map_nil,List.length_cons,length_nil,cons_append,nil_append,reduceAdd,reduceSub,replicate,Kb,b1,b2,kD,Aa,Ia,Na,Ja,Res.bind_ok,c1,m1,Jc,<-hm,Ua,set_cons_zero,set_cons_succ]
 have s2:Kb 2 (b1 (Oa 2 Xc) (Aa (Fa 0) (Aa (Fa 1) Ia))) (Mf (.lst (ns.map D.int)) (some (.d (iN m))) none none none none none none none none)=.nx (Mf (.lst (ns.map D.int)) (some (.d (iN m))) (some (.d (.lst (Z.map iL)))) none none none none none none none):=by
  unfold Mf
  simp only[Kb,b1,Aa,Ia,Na,Db,Ja,Res.bind_ok,se,Ua,set_cons_zero,set_cons_succ]
 have s3:Kb 3 (b2 Ad (kD (.int 2)) (b2 Mc (b1 (Oa 2 Ha) (Aa (Fa 0) (Aa (kD (.int 12)) Ia))) (kD (.int 19)))) (Mf (.lst (ns.map D.int)) (some (.d (iN m))) (some (.d (.lst (Z.map iL)))) none none none none none none none)=.nx (Mf (.lst (ns.map D.int)) (some (.d (iN m))) (some (.d (.lst (Z.map iL)))) (some (.d (.int d))) none none none none none none):=by
  unfold Mf
  simp only[Kb,b1,b2,kD,Aa,Ia,Na,Ja,Res.bind_ok,c12,m12,Jc,hd,Ua,set_cons_zero,set_cons_succ]
 have s4:Kb 4 (b2 Em (Ea 3) (kD (.int 1))) (Mf (.lst (ns.map D.int)) (some (.d (iN m))) (some (.d (.lst (Z.map iL)))) (some (.d (.int d))) none none none none none none)=.nx (Mf (.lst (ns.map D.int)) (some (.d (iN m))) (some (.d (.lst (Z.map iL)))) (some (.d (.int d))) (some (.d (.int (d-1)))) none none none none none):=by
  unfold Mf
  simp only[Kb,b2,kD,Xa,Za,Res.bind_ok,Og,Ua,set_cons_zero,set_cons_succ]
 have s6:We 5 (Sb 1 (Hb 0) (λ_=>.ok true) Jl (b1 Df (Aa (Fa 1) Ia))) (Mf (.lst (ns.map D.int)) (some (.d (iN m))) (some (.d (.lst (Z.map iL)))) (some (.d (.int d))) (some (.d (.int st))) none none none none none)=.nx (Mf (.lst (ns.map D.int)) (some (.d (iN m))) (some (.d (.lst (Z.map iL)))) (some (.d (.int d))) (some (.d (.int st))) (some (.o dl)) none none none none):=by
  unfold Mf
  simp only[We,Sb,b1,Aa,Ia,Na,Db,Ja,Res.bind_ok,r1,cm1,Ua,set_cons_zero,set_cons_succ]
 have s7:We 6 (Sb 2 (Ye 2 (Ib (Hb 0) (Ib (Hb 1) Xe))) (λ_=>.ok true) Kl (b1 Zi (Aa (Fa 2) Ia))) (Mf (.lst (ns.map D.int)) (some (.d (iN m))) (some (.d (.lst (Z.map iL)))) (some (.d (.int d))) (some (.d (.int st))) (some (.o dl)) none none none none)=.nx (Mf (.lst (ns.map D.int)) (some (.d (iN m))) (some (.d (.lst (Z.map iL)))) (some (.d (.int d))) (some (.d (.int st))) (some (.o dl)) (some (.o gl)) none none none):=by
  unfold Mf at*
  simp only[We,Sb,b1,Aa,Ia,Na,Db,Ja,Res.bind_ok,en,cm3,grE,Ua,set_cons_zero,set_cons_succ]
 have s8:Zg 6 (Zg 5 (Kb 7 (b1 (Oa 4 (Fq 4 "House" Zf)) (Aa (b1 Cf (Aa (b2 Ad (kD (.int 1)) (b2 Mc (b1 (Oa 2 Ha) (Aa (Fa 0) (Aa (kD (.int 14)) Ia))) (kD (.int 24)))) (Aa (Fa 3) (Aa (Fa 3) (Aa (Fa 4) Ia))))) (Aa (Fa 5) (Aa (Af (b1 Bf Ia)) (Aa (Fa 6) Ia))))))) (Mf (.lst (ns.map D.int)) (some (.d (iN m))) (some (.d (.lst (Z.map iL)))) (some (.d (.int d))) (some (.d (.int st))) (some (.o dl)) (some (.o gl)) none none none)
   = .nx (Mf (.lst (ns.map D.int)) (some (.d (iN m))) (some (.d (.lst (Z.map iL)))) (some (.d (.int d))) (some (.d (.int st))) (some (.d (.lst dl))) (some (.d (.lst gl))) (some (.d H.hsD)) none none):=by
  unfold Zg
  rw[Hu 6 _ gl rfl,Hu 5 _ dl rfl]
  unfold Mf
  simp only[Kb,b1,b2,kD,Af,Bf,Cf,Aa,Ia,Na,Db,Ja,Res.bind_ok,c14,m14,Jc,hp,mk,Ua,set_cons_zero,set_cons_succ,List.length_cons,length_nil,reduceAdd,reduceLeDiff,zero_le,if_true,reduceIte]
 have s9:Kb 8 (b1 (Oa 2 Zd) (Aa (Fa 2) (Aa (b2 Cj (Ea 4) (b2 Em (Ea 3) (kD (.int 1)))) Ia))) (Mf (.lst (ns.map D.int)) (some (.d (iN m))) (some (.d (.lst (Z.map iL)))) (some (.d (.int d))) (some (.d (.int st))) (some (.d (.lst dl))) (some (.d (.lst gl))) (some (.d H.hsD)) none none)
   = .nx (Mf (.lst (ns.map D.int)) (some (.d (iN m))) (some (.d (.lst (Z.map iL)))) (some (.d (.int d))) (some (.d (.int st))) (some (.d (.lst dl))) (some (.d (.lst gl))) (some (.d H.hsD)) (some (.d (match Tz Z.length (Aw Z) with
  |some k=>.tup [iN k,iN ((Gr Z.length (Aw Z) k).getD 0)]
  |none=>if(st==d-1)=true then .non else .tup [.non,.non]))) none):=by
  unfold Mf
  simp only[Kb,b1,b2,kD,Aa,Ia,Na,Db,Xa,Za,Ja,Res.bind_ok,Og,Gf,dueq,Ua,set_cons_zero,set_cons_succ]
  try rfl
 unfold DJ FS Jb
 rw[Wb,s1,Wa,s2,Wa,s3,Wa,s4,Wa,s5,Wa,s6,Wa,s7,Wa,s8,Wa,s9,Wa]
 unfold Tw.res at tw lo
 rw[hfk]at tw lo
 cases hk:Tz Z.length (Aw Z) with
 |some i=>
  rw[hk]at tw lo
  dsimp only at tw lo ⊢
  have hi:i<Z.length:=mem_range.mp (List.mem_of_find?_eq_some hk)
  obtain⟨j,hj⟩:=isSome_iff_exists.mp (List.find?_some (p:=λk=>(Gr Z.length (Aw Z) k).isSome) hk)
  have hjl:=(Lo (List.mem_of_find?_eq_some hj)).2
  rw[hfj i hi,hj,hkk i hi]at tw lo
  rw[hj]
  rw[show(some j).getD 0=j from rfl,hkk j hjl]at tw lo
  have lo':Gc 1 Fb [H.hsD]=.ex "NoTower" (Wo (.str (H.N (20+i))) (.str (H.N (20+j)))):=lo
  have f:=fin (.str (H.N (20+i))) (.str (H.N (20+j))) ⟨rfl,rfl⟩ (by simp[Me]) (by simp[Me]) tw lo'
  have i0:Pg (.tup [iN i,iN j]) (.int 0)=.ok (iN i):=rfl
  have i1:Pg (.tup [iN i,iN j]) (.int 1)=.ok (iN j):=rfl
  have g0:=gat i hi
  have g1:=gat j hjl
  have n1:Aq (.tup [iN i,iN j])=.ok (.bl false):=rfl
  have n2:Tn (iN i)=.ok (.bl true):=rfl
  rw[show(some j).getD 0=j from rfl]
  have s10:Yf (tR (b1 Aq (Ea 8))) (Zg 6 (Rb (b2 Cj (Af (Yq Cm (b1 (Oa 1 Fb) (Aa (Fa 7) Ia)))) (Af (b1 Yn (Af (Sb 1 (Hb 0) (λ_=>.ok true) Qj (b1 Eg (Fa 6))))))))) Out.nx (Mf (.lst (ns.map D.int)) (some (.d (iN m))) (some (.d (.lst (Z.map iL)))) (some (.d (.int d))) (some (.d (.int st))) (some (.d (.lst dl))) (some (.d (.lst gl))) (some (.d H.hsD)) (some (.d (.tup [iN i,iN j]))) none)=.nx (Mf (.lst (ns.map D.int)) (some (.d (iN m))) (some (.d (.lst (Z.map iL)))) (some (.d (.int d))) (some (.d (.int st))) (some (.d (.lst dl))) (some (.d (.lst gl))) (some (.d H.hsD)) (some (.d (.tup [iN i,iN j]))) none):=by
   unfold Mf
   simp only[Yf,tR,b1,Xa,Za,Res.bind_ok,n1,Cb,Tb,if_false,false_eq_true,reduceIte]
  have s11:Yf (tR (b1 Tn (b2 Pg (Ea 8) (kD (.int 0))))) (Kb 8 (b1 Cf (Aa (b2 Pg (b2 Pg (Ea 6) (b2 Pg (Ea 8) (kD (.int 0)))) (kD (.int 0))) (Aa (b2 Pg (b2 Pg (Ea 6) (b2 Pg (Ea 8) (kD (.int 1)))) (kD (.int 0))) Ia)))) Out.nx (Mf (.lst (ns.map D.int)) (some (.d (iN m))) (some (.d (.lst (Z.map iL)))) (some (.d (.int d))) (some (.d (.int st))) (some (.d (.lst dl))) (some (.d (.lst gl))) (some (.d H.hsD)) (some (.d (.tup [iN i,iN j]))) none)=.nx (Mf (.lst (ns.map D.int)) (some (.d (iN m))) (some (.d (.lst (Z.map iL)))) (some (.d (.int d))) (some (.d (.int st))) (some (.d (.lst dl))) (some (.d (.lst gl))) (some (.d H.hsD)) (some (.d (.tup [.str (H.N (20+i)),.str (H.N (20+j))]))) none):=by
   unfold Mf
   simp only[Yf,tR,b1,b2,kD,Cf,Aa,Ia,Xa,Za,Ja,Res.bind_ok,i0,i1,n2,g0,g1,fst,Cb,Tb,if_true,reduceIte,Kb,Ua,set_cons_zero,set_cons_succ,List.length_cons,length_nil,reduceAdd,reduceLeDiff]
  rw[s10,Wa,s11,Wa]
  exact f
 |none=>
  rw[hk]at tw lo
  dsimp only at tw lo ⊢
  by_cases hf:(st==d-1)=true
  .rw[if_pos hf]at tw lo ⊢
   have lo':Oa 1 Fb [H.hsD]=.ok (dK H.leT):=Qb _ _ _ _ ((Sh _ _ _ rfl).symm.trans lo) rfl
   have n1:Aq .non=.ok (.bl true):=rfl
   have so:Cm (dK H.leT)=.ok ((Xk (H.ks.map H.N)).map D.str):=by
    unfold Cm dK Tw.leT
    dsimp only
    rw[Wy]
    dsimp only
    rw[if_pos (by rw[length_map,hlen];omega)]
   have cm4:∀ δ:Ba,Se 1 (Hb 0) (λ_=>.ok true) Qj δ gl=.ok ((H.ks.map H.N).map D.str):=λδ=>by
    refine Sc ?_ (by rw[gll];omega)
    have:=Td (gc:=λ_=>.ok true) (fe:=Qj) (λ_=>true) H.ent (λk=>D.str (H.N k)) δ H.ks none (λk hk=>⟨rfl,λ_=>rfl⟩)
    rw[Yd,hgl]at this
    rw[map_map]
    exact this
   have st':Yn (.lst ((H.ks.map H.N).map D.str))=.ok ((Xk (H.ks.map H.N)).map D.str):=by
    unfold Yn
    dsimp only
    rw[Ah]
    dsimp only
    rw[if_pos (by rw[length_map,hlen];omega)]
   have eqs:=TH (Xk (H.ks.map H.N))
   have s10:Yf (tR (b1 Aq (Ea 8))) (Zg 6 (Rb (b2 Cj (Af (Yq Cm (b1 (Oa 1 Fb) (Aa (Fa 7) Ia)))) (Af (b1 Yn (Af (Sb 1 (Hb 0) (λ_=>.ok true) Qj (b1 Eg (Fa 6))))))))) Out.nx (Mf (.lst (ns.map D.int)) (some (.d (iN m))) (some (.d (.lst (Z.map iL)))) (some (.d (.int d))) (some (.d (.int st))) (some (.d (.lst dl))) (some (.d (.lst gl))) (some (.d H.hsD)) (some (.d .non)) none)=.rt (.bl true):=by
    have fz:OE 6 (Mf (.lst (ns.map D.int)) (some (.d (iN m))) (some (.d (.lst (Z.map iL)))) (some (.d (.int d))) (some (.d (.int st))) (some (.d (.lst dl))) (some (.d (.lst gl))) (some (.d H.hsD)) (some (.d .non)) none)=Mf (.lst (ns.map D.int)) (some (.d (iN m))) (some (.d (.lst (Z.map iL)))) (some (.d (.int d))) (some (.d (.int st))) (some (.d (.lst dl))) (some (.d (.lst gl))) (some (.d H.hsD)) (some (.d .non)) none:=rfl
    unfold Yf
    have t:tR (b1 Aq (Ea 8)) (Mf (.lst (ns.map D.int)) (some (.d (iN m))) (some (.d (.lst (Z.map iL)))) (some (.d (.int d))) (some (.d (.int st))) (some (.d (.lst dl))) (some (.d (.lst gl))) (some (.d H.hsD)) (some (.d .non)) none)=.ok true:=rfl
    rw[t,Tb,if_pos rfl]
    unfold Zg
    rw[fz]
    unfold Mf
    simp only[Rb,Af,b1,Yq,b2,Sb,Aa,Ia,Na,Db,Ja,Res.bind_ok,lo',so,Yi,cm4,st',eqs,Ua]
   rw[s10,Kh]
   rfl
  .rw[if_neg hf]at tw lo ⊢
   have lo':Gc 1 Fb [H.hsD]=.ex "NoTower" (Wo .non .non):=lo
   have f:=fin .non .non ⟨rfl,rfl⟩ (by simp[Me]) (by simp[Me]) tw lo'
   have s10:Yf (tR (b1 Aq (Ea 8))) (Zg 6 (Rb (b2 Cj (Af (Yq Cm (b1 (Oa 1 Fb) (Aa (Fa 7) Ia)))) (Af (b1 Yn (Af (Sb 1 (Hb 0) (λ_=>.ok true) Qj (b1 Eg (Fa 6))))))))) Out.nx (Mf (.lst (ns.map D.int)) (some (.d (iN m))) (some (.d (.lst (Z.map iL)))) (some (.d (.int d))) (some (.d (.int st))) (some (.d (.lst dl))) (some (.d (.lst gl))) (some (.d H.hsD)) (some (.d (.tup [.non,.non]))) none)=.nx (Mf (.lst (ns.map D.int)) (some (.d (iN m))) (some (.d (.lst (Z.map iL)))) (some (.d (.int d))) (some (.d (.int st))) (some (.d (.lst dl))) (some (.d (.lst gl))) (some (.d H.hsD)) (some (.d (.tup [.non,.non]))) none):=rfl
   have s11:Yf (tR (b1 Tn (b2 Pg (Ea 8) (kD (.int 0))))) (Kb 8 (b1 Cf (Aa (b2 Pg (b2 Pg (Ea 6) (b2 Pg (Ea 8) (kD (.int 0)))) (kD (.int 0))) (Aa (b2 Pg (b2 Pg (Ea 6) (b2 Pg (Ea 8) (kD (.int 1)))) (kD (.int 0))) Ia)))) Out.nx (Mf (.lst (ns.map D.int)) (some (.d (iN m))) (some (.d (.lst (Z.map iL)))) (some (.d (.int d))) (some (.d (.int st))) (some (.d (.lst dl))) (some (.d (.lst gl))) (some (.d H.hsD)) (some (.d (.tup [.non,.non]))) none)=.nx (Mf (.lst (ns.map D.int)) (some (.d (iN m))) (some (.d (.lst (Z.map iL)))) (some (.d (.int d))) (some (.d (.int st))) (some (.d (.lst dl))) (some (.d (.lst gl))) (some (.d H.hsD)) (some (.d (.tup [.non,.non]))) none):=rfl
   rw[s10,Wa,s11,Wa]
   exact f
end G
local macro_rules| `(tactic| walk_at "memfree")=> `(tactic| first|exact forall_mem_nil _|exact forall_mem_cons.mpr ⟨(by intro h;first|exact absurd h (by decide)|exact Or.inl rfl|exact Or.inr rfl),by walk_at "memfree"⟩)
local macro_rules| `(tactic| walk_at "memdis")=> `(tactic| first|exact forall_mem_nil _|exact forall_mem_cons.mpr ⟨by decide +kernel,by walk_at "memdis"⟩)
local macro_rules| `(tactic| walk_at "compok")=> `(tactic| exact⟨rfl,by decide +kernel,by walk_at "memfree",rfl,by walk_at "memdis"⟩)
namespace G
open PySem PySem.Spec PyProof.Rows L2 L3
def top(i:Nat):Stmt:=PySem.Challenge.pw_wardsmith_k62_no_tower.main.body.getD i (.Pass ⟨0,0,0,0⟩)
abbrev Ci:Stmt:=top 37
abbrev Wj:Stmt:=GC (top 36) 0
abbrev Fe:Stmt:=top 39
abbrev Pf:Stmt:=top 42
abbrev Ge:Stmt:=top 40
abbrev Rf:Stmt:=top 26
abbrev Rg:Stmt:=GC (top 3) 0
abbrev Je:Stmt:=top 13
abbrev Ie:Stmt:=top 21
abbrev Kd:Stmt:=top 23
abbrev Jd:Stmt:=top 22
abbrev Fc:Stmt:=top 20
abbrev Qf:Stmt:=top 9
abbrev Tf:Stmt:=top 8
abbrev Uf:Stmt:=top 10
abbrev Sg:Stmt:=top 15
abbrev Vf:Stmt:=top 19
abbrev Sf:Stmt:=top 18
abbrev Ld:Stmt:=top 25
abbrev Ke:Stmt:=top 24
abbrev Le:Stmt:=top 17
abbrev Md:Stmt:=top 27
abbrev Pc:Stmt:=top 43
abbrev He:Stmt:=top 41
abbrev Bm:Stmt:=top 44
structure Txt(K:Frag)(mg:Str->Option Value)(ca:Nat->V):Prop where
 n_ValueError:mg "ValueError"=none
 n_dict:mg "dict"=none
 n_enumerate:mg "enumerate"=none
 n_isinstance:mg "isinstance"=none
 n_len:mg "len"=none
 n_list:mg "list"=none
 n_range:mg "range"=none
 n_set:mg "set"=none
 n_sorted:mg "sorted"=none
 o_House_doors:FldK K "House" "doors"
 o_House_grants:FldK K "House" "grants"
 o_House_rules:FldK K "House" "rules"
 o_House_wings:FldK K "House" "wings"
 f_one:∀ c∈(["NoTower"]:List Str),FldX K c "one"
 f_other:∀ c∈(["NoTower"]:List Str),FldX K c "other"
 m_SmithError_NoTower:MatchX K "SmithError" "NoTower"
 v_NoTower:IsC K mg "NoTower" (ca 0)
 v_Steep:IsC K mg "Steep" (ca 5)
 v_TooFlat:IsC K mg "TooFlat" (ca 3)
 v_TooNarrow:IsC K mg "TooNarrow" (ca 4)
 v_ValueError:IsC K mg "ValueError" (ca 2)
 v_Wrong:IsC K mg "Wrong" (ca 6)
 i_0:IsiX K [("NoTower",true)] [ca 0]
 i_1:IsiX K [("NoTower",true)] [ca 2]
 i_2:IsiX K [("NoTower",false)] [ca 3,ca 4,ca 5,ca 6]
variable{w:World}{K:Frag}{mg:Str->Option Value}{f C:Addr}{fd:FuncData}
section
variable {P:Program}{base:Heap}{ca:Nat->V}
theorem YF:FnScope ["things"] ["things"] (Ca Ci):=⟨rfl,rfl,rfl,by decide +kernel,rfl,by decide +kernel,by decide +kernel⟩
theorem OF(F:Fun K "copied" "copied" Ci f fd)(hm:mg "copied"=some (.ref f))(T:Txt K mg ca)  :Fn P w K mg base 1 "copied" 1 Xg:=
 Wc (k:=0) F YF hm (F.binds (ps:= ["things"]) λ_ _ _ _ _ _=>FM λ_=>rfl) λcdv A outer s H E hr=>
  (Ab (Qc (Ze (Mi ["name","names"] ["things"] (by walk_at "compok") rfl (Pn (Qa 0)) (λC fp pins s H=>⟨(Zw rfl (Mh (Hc 0 (show Nodup (["name","names","things"]:List Str) by decide +kernel)) (Mh (Hc 1 (show Nodup (["name","names","things"]:List Str) by decide +kernel)) Yw))),Ao,(Im (Ga (Qa 0) (Ga (Ze (Sw T.n_list (Pa 1))) Ya)))⟩)))))
theorem UK:FnScope ["self","rules","doors","wings","grants"] ["self","rules","doors","wings","grants"] (Ca Wj):=⟨rfl,rfl,rfl,by decide +kernel,rfl,by decide +kernel,by decide +kernel⟩
theorem SJ(F:Fun K "__init__" "House.__init__" Wj f fd)(M:Mk K C f)(hm:mg "House"=some (.ref C))(hc:nsIn K mainGlobals "House"=some (some (.ref C)))(cl:Cls K C)(na_rules:NoAttr K C "rules")(na_doors:NoAttr K C "doors")(na_wings:NoAttr K C "wings")(na_grants:NoAttr K C "grants")(T:Txt K mg ca)(F_copied:Fn P w K mg base 1 "copied" 1 Xg):FnI P w K mg base 3 "House" 4 4 Zf:=
 KO (k:=1) F UK M hm hc (F.binds (ps:= ["self","rules","doors","wings","grants"]) λ_ _ _ _ _ _=>Y7 λ_ _ _ _ _=>rfl) λcdv A outer s H E hr=>
  (Ro cl na_rules (Qa 1)
  (Ro cl na_doors (Ze (Sw T.n_list (Pa 2)))
  (Ro cl na_wings (Nb (F_copied.mono (by decide)) hr (Ga (Qa 3) Ya))
  (Ro cl na_grants (Nb (F_copied.mono (by decide)) hr (Ga (Qa 4) Ya))
  LV))))
theorem Vi:FnScope ["_law_script","_law_k","_law_number"] ["_law_script","_law_k"] (Ca Fe):=⟨rfl,rfl,rfl,by decide +kernel,rfl,by decide +kernel,by decide +kernel⟩
theorem Yu(F:Fun K "_law_cell" "_law_cell" Fe f fd)(hm:mg "_law_cell"=some (.ref f))(T:Txt K mg ca)  :Fn P w K mg base 1 "_law_cell" 2 Ha:=
 Wc (k:=0) F Vi hm (F.binds (ps:= ["_law_script","_law_k"]) λ_ _ _ _ _ _=>QL λ_ _=>rfl) λcdv A outer s H E hr=>
  (Ra (Vk (Gg B0 (Pa 1) (La (Bo T.n_len (Pa 0)))) (Ab (Qc (Gi (Pa 0) (Pa 1)))) Zc)
  (Ra (Yc 2 Vi.nd (Ef (La (Wq (Pa 1) (La Ta))) (La Ta)))
  (Ra (Vk (Gg SM (La (Bo T.n_len (Pa 0))) (La Ta)) (Ab (Yc 2 Vi.nd (Ef (Pa 2) (La (Wq (La (Nd (La (Gi (Pa 0) (La (Nd (La (Wq (Pa 1) (La Ta))) (La (Bo T.n_len (Pa 0))))))) (La Ta))) (La Ta)))))) Zc)
  (Ab (Qc (Nd (La (Wq (Pa 2) (Pa 2))) (La Ta)))))))
theorem Cg:FnScope ["_law_sets_here","_law_full","_law_k","_law_one","_law_j","_law_both"] ["_law_sets_here","_law_full"] (Ca Pf):=⟨rfl,rfl,rfl,by decide +kernel,rfl,by decide +kernel,by decide +kernel⟩
theorem Wx(F:Fun K "_law_due" "_law_due" Pf f fd)(hm:mg "_law_due"=some (.ref f))(T:Txt K mg ca)  :Fn P w K mg base 1 "_law_due" 2 Zd:=
 Wc (k:=0) F Cg hm (F.binds (ps:= ["_law_sets_here","_law_full"]) λ_ _ _ _ _ _=>QL λ_ _=>rfl) λcdv A outer s H E hr=>
  (Ra (Nt PassesOwn.never rfl (Wz T.n_enumerate (Ga (Qa 0) Ya)) (Zw rfl (Mh (Hc 2 Cg.nd) (Mh (Hc 3 Cg.nd) Yw))) (Ab (Nt PassesOwn.never rfl (HI T.n_range (Ga (Ef (Pa 2) (La Ta)) (Ga (Bo T.n_len (Pa 0)) Ya))) (Hc 4 Cg.nd) (Ra (by refine VA 5 Cg.nd ["_law_place"] ["_law_sets_here","_law_full","_law_k","_law_one","_law_j","_law_both"] (by walk_at "compok") rfl (Pn (Qa 3))  ?_;exact(λC fp pins s H=>⟨(Hc 0 (show Nodup (["_law_place","_law_sets_here","_law_full","_law_k","_law_one","_law_j","_law_both"]:List Str) by decide +kernel)),(ED (P6 (Pa 0) (La (Gi (Pa 1) (Pa 5))))),(Qa 0)⟩))
  (Ab (Vk (HZ (Az (Gg (VG (Bk hr)) (Pa 5) (La (Ze (Bs Ya)))) (Vq (Gg (Lp (Bk hr)) (La (Bz (Lp (Bk hr)) (Pa 5) (Pa 3))) (La (Bz (Lp (Bk hr)) (Pa 5) (La (Gi (Pa 0) (Pa 4))))))))) (Ab (Qc (Im (Ga (Qa 2) (Ga (Qa 4) Ya))))) Zc))))))
  (Ra (Vk (Dz (Xq (Qa 1))) (Ab (Qc (Im (Ga Co (Ga Co Ya))))) Zc)
  (Ab (Qc Co))))
theorem Wi:FnScope ["_law_script","_law_k","_law_some","_law_pad"] ["_law_script","_law_k"] (Ca Ge):=⟨rfl,rfl,rfl,by decide +kernel,rfl,by decide +kernel,by decide +kernel⟩
theorem Zu(F:Fun K "_law_name" "_law_name" Ge f fd)(hm:mg "_law_name"=some (.ref f))(T:Txt K mg ca)(F__law_cell:Fn P w K mg base 1 "_law_cell" 2 Ha):Fn P w K mg base 2 "_law_name" 2 Ec:=
 Wc (k:=1) F Wi hm (F.binds (ps:= ["_law_script","_law_k"]) λ_ _ _ _ _ _=>QL λ_ _=>rfl) λcdv A outer s H E hr=>
  (Ra (Yc 2 Wi.nd VL)
  (Ra (Yc 3 Wi.nd (Nb (F__law_cell.mono (by decide)) hr (Ga (Qa 0) (Ga Ta Ya))))
  (Ab (Qc (Ef (La (Ef (La (Ef (La (UL (La VL) (La (Nd (Pa 3) (La Ta))))) (La (Gi (Pa 2) (La (Nd (Pa 1) (La Ta))))))) (La (Gi (Pa 2) (La (Nd (La (Nj (Pa 1) (La Ta))) (La Ta))))))) (La (UL (La VL) (La (Nd (La (Nj (Pa 3) (La Ta))) (La Ta))))))))))
theorem Oy:FnScope ["spans","name"] ["spans","name"] (Ca Rf):=⟨rfl,rfl,rfl,by decide +kernel,rfl,by decide +kernel,by decide +kernel⟩
theorem Yx(F:Fun K "elder_in" "elder_in" Rf f fd)(hm:mg "elder_in"=some (.ref f))(T:Txt K mg ca)  :Fn P w K mg base 1 "elder_in" 2 Si:=
 Wc (k:=0) F Oy hm (F.binds (ps:= ["spans","name"]) λ_ _ _ _ _ _=>QL λ_ _=>rfl) λcdv A outer s H E hr=>
  (Ab Ky)
theorem WA:FnScope ["self","one","other"] ["self","one","other"] (Ca Rg):=⟨rfl,rfl,rfl,by decide +kernel,rfl,by decide +kernel,by decide +kernel⟩
theorem JA{S:Addr}(F:Fun K "__init__" "NoTower.__init__" Rg f fd)(Z:XInit K C S f)(hm:mg "NoTower"=some (.ref C))(hc:nsIn K mainGlobals "NoTower"=some (some (.ref C)))(hS:mg "SmithError"=some (.ref S))(na_one:findIn K (.ref C) "one"=some none)(na_other:findIn K (.ref C) "other"=some none):FnG P w K mg base 2 "NoTower" [("one",false),("other",false)]:=
 JO (k:=0) F WA Z hm hc (F.binds (ps:= ["self","one","other"]) λ_ _ _ _ _ _=>C7 λ_ _ _=>rfl) λcdv A outer s H E hr=>JV Z hS na_one na_other (Hv (SC 1 (Hv (SC 2 (Hv MX) rfl (by first|exact Or.inl rfl|exact Or.inr (Or.inl rfl)|exact Or.inr (Or.inr rfl)))) rfl (by first|exact Or.inl rfl|exact Or.inr (Or.inl rfl)|exact Or.inr (Or.inr rfl)))) (λσ v1 v2 h1 s1 h2 s2=>⟨FI h1 s1,⟨FI h2 s2,trivial⟩⟩)
theorem Nv:FnScope ["rules"] ["rules"] (Ca Je):=⟨rfl,rfl,rfl,by decide +kernel,rfl,by decide +kernel,by decide +kernel⟩
theorem Cv(F:Fun K "depths_of" "depths_of" Je f fd)(hm:mg "depths_of"=some (.ref f))(T:Txt K mg ca)  :Fn P w K mg base 1 "depths_of" 1 Ce:=
 Wc (k:=0) F Nv hm (F.binds (ps:= ["rules"]) λ_ _ _ _ _ _=>FM λ_=>rfl) λcdv A outer s H E hr=>
  (Ab (Qc (Gi (Pa 0) (La Ta))))
theorem Mv:FnScope ["doors","others"] ["doors","others"] (Ca Ie):=⟨rfl,rfl,rfl,by decide +kernel,rfl,by decide +kernel,by decide +kernel⟩
theorem Bv(F:Fun K "are_apart" "are_apart" Ie f fd)(hm:mg "are_apart"=some (.ref f))(T:Txt K mg ca)  :Fn P w K mg base 1 "are_apart" 2 Be:=
 Wc (k:=0) F Mv hm (F.binds (ps:= ["doors","others"]) λ_ _ _ _ _ _=>QL λ_ _=>rfl) λcdv A outer s H E hr=>
  (Ab (Qc (LD rfl T.n_len T.n_set (Pa 0) (Pa 1))))
theorem Pr:FnScope ["doors","wider"] ["doors","wider"] (Ca Kd):=⟨rfl,rfl,rfl,by decide +kernel,rfl,by decide +kernel,by decide +kernel⟩
theorem Ir(F:Fun K "are_within" "are_within" Kd f fd)(hm:mg "are_within"=some (.ref f))(T:Txt K mg ca)  :Fn P w K mg base 1 "are_within" 2 Ac:=
 Wc (k:=0) F Pr hm (F.binds (ps:= ["doors","wider"]) λ_ _ _ _ _ _=>QL λ_ _=>rfl) λcdv A outer s H E hr=>
  (Ab (Qc (LD rfl T.n_len T.n_set (Pa 0) (Pa 1))))
theorem Nr:FnScope ["doors","others"] ["doors","others"] (Ca Jd):=⟨rfl,rfl,rfl,by decide +kernel,rfl,by decide +kernel,by decide +kernel⟩
theorem Hr(F:Fun K "are_nested" "are_nested" Jd f fd)(hm:mg "are_nested"=some (.ref f))(T:Txt K mg ca)(F_are_within:Fn P w K mg base 1 "are_within" 2 Ac):Fn P w K mg base 2 "are_nested" 2 Ed:=
 Wc (k:=1) F Nr hm (F.binds (ps:= ["doors","others"]) λ_ _ _ _ _ _=>QL λ_ _=>rfl) λcdv A outer s H E hr=>
  (Ab (Qc (Bz (VG (Bk hr)) (La (Nb (F_are_within.mono (by decide)) hr (Ga (Qa 0) (Ga (Qa 1) Ya)))) (La (Nb (F_are_within.mono (by decide)) hr (Ga (Qa 1) (Ga (Qa 0) Ya)))))))
theorem Lc:FnScope ["spans","names","place","one","other"] ["spans"] (Ca Fc):=⟨rfl,rfl,rfl,by decide +kernel,rfl,by decide +kernel,by decide +kernel⟩
theorem Sl(F:Fun K "refuse_crossed" "refuse_crossed" Fc f fd)(hm:mg "refuse_crossed"=some (.ref f))(T:Txt K mg ca)(F_NoTower:FnG P w K mg base 2 "NoTower" [("one",false),("other",false)])(F_are_apart:Fn P w K mg base 1 "are_apart" 2 Be)(F_are_nested:Fn P w K mg base 2 "are_nested" 2 Ed):FnX P w K mg base 3 "refuse_crossed" 1 Vb:=
 Ll (k:=2) F Lc hm (F.binds (ps:= ["spans"]) λ_ _ _ _ _ _=>FM λ_=>rfl) λcdv A outer s H E hr=>
  (Ra (Hk (Yc 1 Lc.nd (Ze (XN rfl T.n_list (Qa 0)))))
  (Ab (Nt PassesOwn.leaving rfl (JS (Wz T.n_enumerate (Ga (Qa 1) Ya))) (Zw rfl (Mh (Hc 2 Lc.nd) (Mh (Hc 3 Lc.nd) Yw))) (Ab (Nt PassesOwn.leaving rfl (JS (Pn (Ze (HS (Pa 1) (QJ (Ef (Pa 2) (La Ta))) OJ)))) (Hc 4 Lc.nd) (Ab (Vk (VS (HZ (Az (Dz (Xq (Nb (F_are_apart.mono (by decide)) hr (Ga (Gn (Xl 0) (Pa 3)) (Ga (Gn (Xl 0) (Pa 4)) Ya))))) (Vq (Dz (Xq (Nb (F_are_nested.mono (by decide)) hr (Ga (Gn (Xl 0) (Pa 3)) (Ga (Gn (Xl 0) (Pa 4)) Ya))))))))) (Ab (Ny (F_NoTower.mono (by decide)) hr Ht rfl (Bp (Ga (Qa 3) (Ga (Qa 4) Ya))))) Zc)))))))
theorem Dg:FnScope ["house","name","members","reached","waiting","thing"] ["house","name"] (Ca Qf):=⟨rfl,rfl,rfl,by decide +kernel,rfl,by decide +kernel,by decide +kernel⟩
theorem Xx(F:Fun K "doors_of" "doors_of" Qf f fd)(hm:mg "doors_of"=some (.ref f))(T:Txt K mg ca)  :Fn P w K mg base 1 "doors_of" 2 Nf:=
 Wc (k:=0) F Dg hm (F.binds (ps:= ["house","name"]) λ_ _ _ _ _ _=>QL λ_ _=>rfl) λcdv A outer s H E hr=>
  (Ra (Yc 2 Dg.nd (Yv rfl T.n_dict (La (Ze (M0 (La (Ut T.o_House_wings (Qa 0))) (La (Ut T.o_House_grants (Qa 0))))))))
  (Ra (FY 3 Dg.nd)
  (Ra (Ly 4 Dg.nd (Bs (Ga (Qa 1) Ya)))
  (Ra (BR 100000 PassesOwn.never (Gg SM (La (Bo T.n_len (Pa 4))) (La Ta)) (Ra (GY 5 4 Dg.nd)
  (Ab (Vk (FZ (Pa 5) (Xl 3)) (Ra (HY 3 AZ (Qa 5))
  (Ab (EY 4 (BZ (Xl 2) (Ga (Qa 5) (Ga (Ze (Bs Ya)) Ya)))))) Zc))))
  (Ab (A2 3 (Qc (Ze (Mi ["door"] ["house","name","members","reached","waiting","thing"] (by walk_at "compok") rfl (Pn (Ut T.o_House_doors (Qa 0))) (λC fp pins s H=>⟨(Hc 0 (show Nodup (["door","house","name","members","reached","waiting","thing"]:List Str) by decide +kernel)),(ED (C3 (Pa 0) (Xl 4))),(Qa 0)⟩))))))))))
theorem Qy:FnScope ["things"] ["things"] (Ca Tf):=⟨rfl,rfl,rfl,by decide +kernel,rfl,by decide +kernel,by decide +kernel⟩
theorem Ay(F:Fun K "names_of" "names_of" Tf f fd)(hm:mg "names_of"=some (.ref f))(T:Txt K mg ca)  :Fn P w K mg base 1 "names_of" 1 Of:=
 Wc (k:=0) F Qy hm (F.binds (ps:= ["things"]) λ_ _ _ _ _ _=>FM λ_=>rfl) λcdv A outer s H E hr=>
  (Ab (Qc (Ze (Mi ["name","names"] ["things"] (by walk_at "compok") rfl (Pn (Qa 0)) (λC fp pins s H=>⟨(Zw rfl (Mh (Hc 0 (show Nodup (["name","names","things"]:List Str) by decide +kernel)) (Mh (Hc 1 (show Nodup (["name","names","things"]:List Str) by decide +kernel)) Yw))),Ao,(Qa 0)⟩)))))
theorem Ry:FnScope ["house"] ["house"] (Ca Uf):=⟨rfl,rfl,rfl,by decide +kernel,rfl,by decide +kernel,by decide +kernel⟩
theorem By(F:Fun K "spans_of" "spans_of" Uf f fd)(hm:mg "spans_of"=some (.ref f))(T:Txt K mg ca)(F_doors_of:Fn P w K mg base 1 "doors_of" 2 Nf)(F_names_of:Fn P w K mg base 1 "names_of" 1 Of):Fn P w K mg base 2 "spans_of" 1 Ae:=
 Wc (k:=1) F Ry hm (F.binds (ps:= ["house"]) λ_ _ _ _ _ _=>FM λ_=>rfl) λcdv A outer s H E hr=>
  (Ab (Qc (Yv rfl T.n_dict (La (Ze (Mi ["name"] ["house"] (by walk_at "compok") rfl (Pn (Nb (F_names_of.mono (by decide)) hr (Ga (Ut T.o_House_grants (Qa 0)) Ya))) (λC fp pins s H=>⟨(Hc 0 (show Nodup (["name","house"]:List Str) by decide +kernel)),Ao,(Im (Ga (Qa 0) (Ga (Nb (F_doors_of.mono (by decide)) hr (Ga (Qa 1) (Ga (Qa 0) Ya))) Ya)))⟩)))))))
theorem YA:FnScope ["rules"] ["rules"] (Ca Sg):=⟨rfl,rfl,rfl,by decide +kernel,rfl,by decide +kernel,by decide +kernel⟩
theorem KA(F:Fun K "step_of" "step_of" Sg f fd)(hm:mg "step_of"=some (.ref f))(T:Txt K mg ca)  :Fn P w K mg base 1 "step_of" 1 Qg:=
 Wc (k:=0) F YA hm (F.binds (ps:= ["rules"]) λ_ _ _ _ _ _=>FM λ_=>rfl) λcdv A outer s H E hr=>
  (Ab (Qc (Gi (Pa 0) (La Ta))))
theorem Xn:FnScope ["house","spans"] ["house"] (Ca Vf):=⟨rfl,rfl,rfl,by decide +kernel,rfl,by decide +kernel,by decide +kernel⟩
theorem Cy(F:Fun K "tower_in" "tower_in" Vf f fd)(hm:mg "tower_in"=some (.ref f))(T:Txt K mg ca)(F_NoTower:FnG P w K mg base 2 "NoTower" [("one",false),("other",false)])(F_depths_of:Fn P w K mg base 1 "depths_of" 1 Ce)(F_refuse_crossed:FnX P w K mg base 3 "refuse_crossed" 1 Vb)(F_spans_of:Fn P w K mg base 2 "spans_of" 1 Ae)(F_step_of:Fn P w K mg base 1 "step_of" 1 Qg):FnX P w K mg base 4 "tower_in" 1 Ob:=
 Ll (k:=3) F Xn hm (F.binds (ps:= ["house"]) λ_ _ _ _ _ _=>FM λ_=>rfl) λcdv A outer s H E hr=>
  (Ra (Hk (Yc 1 Xn.nd (Nb (F_spans_of.mono (by decide)) hr (Ga (Qa 0) Ya))))
  (Ra (DY (Ap (F_refuse_crossed.mono (by decide)) Tl hr (Bp (Ga (Qa 1) Ya))))
  (Ra (Vk (VS (Gg B0 (La (Nb (F_step_of.mono (by decide)) hr (Ga (Ut T.o_House_rules (Qa 0)) Ya))) (La (Cz (La (Nb (F_depths_of.mono (by decide)) hr (Ga (Ut T.o_House_rules (Qa 0)) Ya))) (La Ta))))) (Ab (Ny (F_NoTower.mono (by decide)) hr Ht rfl (Bp (Ga Co (Ga Co Ya))))) Zc)
  (Ab (Hk (Qc (Qa 1)))))))
theorem Py:FnScope ["house","name"] ["house","name"] (Ca Sf):=⟨rfl,rfl,rfl,by decide +kernel,rfl,by decide +kernel,by decide +kernel⟩
theorem Zx(F:Fun K "elder_of" "elder_of" Sf f fd)(hm:mg "elder_of"=some (.ref f))(T:Txt K mg ca)(F_elder_in:Fn P w K mg base 1 "elder_in" 2 Si)(F_tower_in:FnX P w K mg base 4 "tower_in" 1 Ob):FnX P w K mg base 5 "elder_of" 2 Rc:=
 Ll (k:=4) F Py hm (F.binds (ps:= ["house","name"]) λ_ _ _ _ _ _=>QL λ_ _=>rfl) λcdv A outer s H E hr=>
  (Ab (Qc (Nb (F_elder_in.mono (by decide)) hr (Ga (Ap (F_tower_in.mono (by decide)) Tl hr (Bp (Ga (Qa 0) Ya))) (Bp (Ga (Qa 1) Ya))))))
theorem Qr:FnScope ["spans","name"] ["spans","name"] (Ca Ld):=⟨rfl,rfl,rfl,by decide +kernel,rfl,by decide +kernel,by decide +kernel⟩
theorem Jr(F:Fun K "keys_above" "keys_above" Ld f fd)(hm:mg "keys_above"=some (.ref f))(T:Txt K mg ca)(F_are_within:Fn P w K mg base 1 "are_within" 2 Ac):Fn P w K mg base 2 "keys_above" 2 Fd:=
 Wc (k:=1) F Qr hm (F.binds (ps:= ["spans","name"]) λ_ _ _ _ _ _=>QL λ_ _=>rfl) λcdv A outer s H E hr=>
  (Ab (Qc (Ze (Mi ["other"] ["spans","name"] (by walk_at "compok") rfl (GI (Qa 0)) (λC fp pins s H=>⟨(Hc 0 (show Nodup (["other","spans","name"]:List Str) by decide +kernel)),(ED (HZ (Az (Gg (VG (Bk hr)) (Pa 0) (Pa 2)) (Vq (Xq (Nb (F_are_within.mono (by decide)) hr (Ga (Gn (Xl 1) (Pa 2)) (Ga (Gn (Xl 1) (Pa 0)) Ya)))))))),(Qa 0)⟩)))))
theorem Ov:FnScope ["spans"] ["spans"] (Ca Ke):=⟨rfl,rfl,rfl,by decide +kernel,rfl,by decide +kernel,by decide +kernel⟩
theorem Dv(F:Fun K "levels_in" "levels_in" Ke f fd)(hm:mg "levels_in"=some (.ref f))(T:Txt K mg ca)(F_keys_above:Fn P w K mg base 2 "keys_above" 2 Fd):Fn P w K mg base 3 "levels_in" 1 De:=
 Wc (k:=2) F Ov hm (F.binds (ps:= ["spans"]) λ_ _ _ _ _ _=>FM λ_=>rfl) λcdv A outer s H E hr=>
  (Ab (Qc (Yv rfl T.n_dict (La (Ze (Mi ["name"] ["spans"] (by walk_at "compok") rfl (GI (Qa 0)) (λC fp pins s H=>⟨(Hc 0 (show Nodup (["name","spans"]:List Str) by decide +kernel)),Ao,(Im (Ga (Qa 0) (Ga (Bo T.n_len (La (Nb (F_keys_above.mono (by decide)) hr (Ga (Qa 1) (Ga (Qa 0) Ya))))) Ya)))⟩)))))))
theorem Pv:FnScope ["house"] ["house"] (Ca Le):=⟨rfl,rfl,rfl,by decide +kernel,rfl,by decide +kernel,by decide +kernel⟩
theorem Ev(F:Fun K "levels_of" "levels_of" Le f fd)(hm:mg "levels_of"=some (.ref f))(T:Txt K mg ca)(F_levels_in:Fn P w K mg base 3 "levels_in" 1 De)(F_tower_in:FnX P w K mg base 4 "tower_in" 1 Ob):FnX P w K mg base 5 "levels_of" 1 Fb:=
 Ll (k:=4) F Pv hm (F.binds (ps:= ["house"]) λ_ _ _ _ _ _=>FM λ_=>rfl) λcdv A outer s H E hr=>
  (Ab (Qc (Nb (F_levels_in.mono (by decide)) hr (Ga (Ap (F_tower_in.mono (by decide)) Tl hr (Bp (Ga (Qa 0) Ya))) Ya))))
theorem Ik:FnScope ["house","spans","elders","ranks","levels","widths"] ["house"] (Ca Md):=⟨rfl,rfl,rfl,by decide +kernel,rfl,by decide +kernel,by decide +kernel⟩
theorem Kr(F:Fun K "tower_plan" "tower_plan" Md f fd)(hm:mg "tower_plan"=some (.ref f))(T:Txt K mg ca)(F_tower_in:FnX P w K mg base 4 "tower_in" 1 Ob):FnX P w K mg base 5 "tower_plan" 1 Bc:=
 Ll (k:=4) F Ik hm (F.binds (ps:= ["house"]) λ_ _ _ _ _ _=>FM λ_=>rfl) λcdv A outer s H E hr=>
  (Ra (Yc 1 Ik.nd (Ap (F_tower_in.mono (by decide)) Tl hr (Bp (Ga (Qa 0) Ya))))
  (Ra (Hk Ky)
  (Ra (Hk Ky)
  (Ra (Hk Ky)
  (Ra (Hk Ky)
  (Ra (Hk Ky)
  (Ra (Hk Ky)
  (Ab (Hk Ky)))))))))
theorem Pb:FnScope ["_law_house","_law_name_here","_law_which","_law_caught","e"] ["_law_house","_law_name_here","_law_which"] (Ca Pc):=⟨rfl,rfl,rfl,by decide +kernel,rfl,by decide +kernel,by decide +kernel⟩
theorem Go(F:Fun K "_law_refused" "_law_refused" Pc f fd)(hm:mg "_law_refused"=some (.ref f))(T:Txt K mg ca)(F_NoTower:FnG P w K mg base 2 "NoTower" [("one",false),("other",false)])(F_elder_of:FnX P w K mg base 5 "elder_of" 2 Rc)(F_levels_of:FnX P w K mg base 5 "levels_of" 1 Fb)(F_tower_plan:FnX P w K mg base 5 "tower_plan" 1 Bc):Fn P w K mg base 6 "_law_refused" 3 Oc:=
 Wc (k:=5) F Pb hm (F.binds (ps:= ["_law_house","_law_name_here","_law_which"]) λ_ _ _ _ _ _=>C7 λ_ _ _=>rfl) λcdv A outer s H E hr=>
  (Ra (Yc 3 Pb.nd Co)
  (Ra (XB.try (YZ (Gg (Lp (Bk hr)) (Pa 2) (La Ta)) (GT 4 ["NoTower"] (F_levels_of.mono (by decide)) (forall_mem_cons.mpr ⟨T.m_SmithError_NoTower,forall_mem_nil _⟩) Pb.nd hr (Ga (Qa 0) Ya) Lu Zc (λ_=>(Ab (Yc 3 Pb.nd (Qa 4))))) (YZ (Gg (Lp (Bk hr)) (Pa 2) (La Ta)) (GT 4 ["NoTower"] (F_elder_of.mono (by decide)) (forall_mem_cons.mpr ⟨T.m_SmithError_NoTower,forall_mem_nil _⟩) Pb.nd hr (Ga (Qa 0) (Ga (Qa 1) Ya)) Lu Zc (λ_=>(Ab (Yc 3 Pb.nd (Qa 4))))) (GT 4 ["NoTower"] (F_tower_plan.mono (by decide)) (forall_mem_cons.mpr ⟨T.m_SmithError_NoTower,forall_mem_nil _⟩) Pb.nd hr (Ga (Qa 0) Ya) Lu Zc (λ_=>(Ab (Yc 3 Pb.nd (Qa 4))))))))
  (Ra (Vk (Dz (Xq (KD T.i_0 T.n_isinstance (Pa 3) (Om T.v_NoTower)))) (Ab (Qc Co)) Zc)
  (Ra (Vk (HZ (Y2 (Dz (Xq (KD T.i_1 T.n_isinstance (Pa 3) (Om T.v_ValueError)))) (SS (Xq (CZ T.i_2 T.n_isinstance (Pa 3) (Mo (Om T.v_TooFlat) (Mo (Om T.v_TooNarrow) (Mo (Om T.v_Steep) (Mo (Om T.v_Wrong) MT))))))))) (Ab (Qc Co)) Zc)
  (Ab (Qc (Im (Ga (US T.f_one (Qa 3)) (Ga (US T.f_other (Qa 3)) Ya)))))))))
theorem Cc:FnScope ["_law_script","_law_many","_law_sets_here","_law_k","_law_cell_here","_law_start","_law_end","_law_own"] ["_law_script","_law_many"] (Ca He):=⟨rfl,rfl,rfl,by decide +kernel,rfl,by decide +kernel,by decide +kernel⟩
theorem Av(F:Fun K "_law_sets" "_law_sets" He f fd)(hm:mg "_law_sets"=some (.ref f))(T:Txt K mg ca)(F__law_cell:Fn P w K mg base 1 "_law_cell" 2 Ha):Fn P w K mg base 2 "_law_sets" 2 Xc:=
 Wc (k:=1) F Cc hm (F.binds (ps:= ["_law_script","_law_many"]) λ_ _ _ _ _ _=>QL λ_ _=>rfl) λcdv A outer s H E hr=>
  (Ra (Ly 2 Cc.nd (Bs Ya))
  (Ra (Nt PassesOwn.never rfl (Ml T.n_range (Ga (Ef (La Ta) (La (Nd (La (Nb (F__law_cell.mono (by decide)) hr (Ga (Qa 0) (Ga Ta Ya)))) (La Ta)))) Ya)) (Hc 3 Cc.nd) (Ra (Yc 4 Cc.nd (Nd (La (Nb (F__law_cell.mono (by decide)) hr (Ga (Qa 0) (Ga (Ef (La Ta) (Pa 3)) Ya)))) (La (Z2 (La Ta) (La Ta)))))
  (Ra (Yc 5 Cc.nd (Nd (Pa 4) (Pa 1)))
  (Ra (Yc 6 Cc.nd (Ef (La (Ef (Pa 5) (La Ta))) (La (Nd (La (Nj (Pa 4) (La Ta))) (La (Cz (Pa 1) (Pa 5)))))))
  (Ra (Ly 7 Cc.nd (N0 rfl T.n_list T.n_range (Ga (Qa 5) (Ga (Qa 6) Ya))))
  (Ra (Vk (Gg (Lp (Bk hr)) (La (Nd (La (Nb (F__law_cell.mono (by decide)) hr (Ga (Qa 0) (Ga Ta Ya)))) (La Ta))) (La Ta)) (Ab (by refine VA 7 Cc.nd ["_law_place"] ["_law_script","_law_many","_law_sets_here","_law_k","_law_cell_here","_law_start","_law_end","_law_own"] (by walk_at "compok") rfl (Ml T.n_range (Ga (Qa 1) Ya))  ?_;exact(λC fp pins s H=>⟨(Hc 0 (show Nodup (["_law_place","_law_script","_law_many","_law_sets_here","_law_k","_law_cell_here","_law_start","_law_end","_law_own"]:List Str) by decide +kernel)),(ED (HZ (Y2 (Gg (Lp (Bk hr)) (La (Nd (La (Nj (Pa 5) (La (Ef (La Ta) (La (Wq (La Ta) (Pa 0))))))) (La Ta))) (La Ta)) (SS (Gg (Lp (Bk hr)) (Pa 0) (Pa 6)))))),(Qa 0)⟩))) (Ab (Vk (HZ (Az (Gg (VG (Bk hr)) (Pa 2) (La (Ze (Bs Ya)))) (Vq (Gg SM (La (Nd (La (Nj (Pa 4) (La Ta))) (La Ta))) (La Ta))))) (Ab (Ly 7 Cc.nd (HS (La (Gi (Pa 2) (La (Nd (La (Nj (Pa 4) (La Ta))) (La (Bo T.n_len (Pa 2))))))) OJ (QJ (Ef (La Ta) (La (Nd (La (Nj (Pa 4) (La Ta))) (Pa 1)))))))) Zc)))
  (Ab (Lv 7 (SK 2 (Qa 7))))))))))
  (Ab (JY 2))))
theorem Jg:FnScope ["_law_script","_law_many","_law_sets_here","_law_depths","_law_step","_law_doors","_law_grants","_law_house","_law_due_here","_law_which"] ["_law_script"] (Ca Bm):=⟨rfl,rfl,rfl,by decide +kernel,rfl,by decide +kernel,by decide +kernel⟩
theorem KW(F:Fun K "law" "law" Bm f fd)(T:Txt K mg ca)(F_House:FnI P w K mg base 3 "House" 4 4 Zf)(F__law_cell:Fn P w K mg base 1 "_law_cell" 2 Ha)(F__law_due:Fn P w K mg base 1 "_law_due" 2 Zd)(F__law_name:Fn P w K mg base 2 "_law_name" 2 Ec)(F__law_refused:Fn P w K mg base 6 "_law_refused" 3 Oc)(F__law_sets:Fn P w K mg base 2 "_law_sets" 2 Xc)(F_levels_of:FnX P w K mg base 5 "levels_of" 1 Fb):FnOk P w K mg base Al 7 f fd ["_law_script"] (NY K 1 DJ):=
 DV (k:=6) F Jg λcdv A outer s H E hr=>
  (Ra (Yc 1 Jg.nd (Ef (La Ta) (La (Nd (La (Nb (F__law_cell.mono (by decide)) hr (Ga (Qa 0) (Ga Ta Ya)))) (La Ta)))))
  (Ra (Yc 2 Jg.nd (Nb (F__law_sets.mono (by decide)) hr (Ga (Qa 0) (Ga (Qa 1) Ya))))
  (Ra (Yc 3 Jg.nd (Ef (La Ta) (La (Nd (La (Nb (F__law_cell.mono (by decide)) hr (Ga (Qa 0) (Ga Ta Ya)))) (La Ta)))))
  (Ra (Yc 4 Jg.nd (Cz (Pa 3) (La Ta)))
  (Ra (Vk (HZ (Az (Gg (Lp (Bk hr)) (La (Nd (La (Nb (F__law_cell.mono (by decide)) hr (Ga (Qa 0) (Ga Ta Ya)))) (La Ta))) (La Ta)) (Vq (Gg SM (Pa 3) (La Ta))))) (Ab (Yc 4 Jg.nd (Ef (La Ta) (La (Nd (La (Nj (La (Nb (F__law_cell.mono (by decide)) hr (Ga (Qa 0) (Ga Ta Ya)))) (La Ta))) (La (Cz (Pa 3) (La Ta)))))))) Zc)
  (Ra (Ly 5 Jg.nd (Mi ["_law_k"] ["_law_script","_law_many","_law_sets_here","_law_depths","_law_step","_law_doors","_law_grants","_law_house","_law_due_here","_law_which"] (by walk_at "compok") rfl (Ml T.n_range (Ga (Qa 1) Ya)) (λC fp pins s H=>⟨(Hc 0 (show Nodup (["_law_k","_law_script","_law_many","_law_sets_here","_law_depths","_law_step","_law_doors","_law_grants","_law_house","_law_due_here","_law_which"]:List Str) by decide +kernel)),Ao,(Nb (F__law_name.mono (by decide)) hr (Ga (Qa 1) (Ga (Qa 0) Ya)))⟩)))
  (Ra (by refine VA 6 Jg.nd ["_law_k","_law_own"] ["_law_script","_law_many","_law_sets_here","_law_depths","_law_step","_law_doors","_law_grants","_law_house","_law_due_here","_law_which"] (by walk_at "compok") rfl (Wz T.n_enumerate (Ga (Qa 2) Ya))  ?_;exact(λC fp pins s H=>⟨(Zw rfl (Mh (Hc 0 (show Nodup (["_law_k","_law_own","_law_script","_law_many","_law_sets_here","_law_depths","_law_step","_law_doors","_law_grants","_law_house","_law_due_here","_law_which"]:List Str) by decide +kernel)) (Mh (Hc 1 (show Nodup (["_law_k","_law_own","_law_script","_law_many","_law_sets_here","_law_depths","_law_step","_law_doors","_law_grants","_law_house","_law_due_here","_law_which"]:List Str) by decide +kernel)) Yw))),Ao,(Im (Ga (Nb (F__law_name.mono (by decide)) hr (Ga (Qa 2) (Ga (Ef (La Ta) (Pa 0)) Ya))) (Ga (Ze (Mi ["_law_place"] ["_law_k","_law_own","_law_script","_law_many","_law_sets_here","_law_depths","_law_step","_law_doors","_law_grants","_law_house","_law_due_here","_law_which"] (by walk_at "compok") rfl (Pn (Qa 1)) (λC fp pins s H=>⟨(Hc 0 (show Nodup (["_law_place","_law_k","_law_own","_law_script","_law_many","_law_sets_here","_law_depths","_law_step","_law_doors","_law_grants","_law_house","_law_due_here","_law_which"]:List Str) by decide +kernel)),Ao,(Gi (Pa 8) (Pa 0))⟩))) Ya)))⟩))
  (Ra (Lv 6 (Lv 5 (Yc 7 Jg.nd (DZ (F_House.mono (by decide)) hr (Ga (Im (Ga (Ef (La Ta) (La (Nd (La (Nb (F__law_cell.mono (by decide)) hr (Ga (Qa 0) (Ga Ta Ya)))) (La Ta)))) (Ga (Qa 3) (Ga (Qa 3) (Ga (Qa 4) Ya))))) (Ga (Qa 5) (Ga (Ze (Bs Ya)) (Ga (Qa 6) Ya))))))))
  (Ra (Yc 8 Jg.nd (Nb (F__law_due.mono (by decide)) hr (Ga (Qa 2) (Ga (Bz (Lp (Bk hr)) (Pa 4) (La (Cz (Pa 3) (La Ta)))) Ya))))
  (Ra (Vk (D3 (Pa 8)) (Ab (Lv 6 (Qc (Bz (Lp (Bk hr)) (La (Ze (YN rfl T.n_sorted (XR (F_levels_of.mono (by decide)) hr (Ga (Qa 7) Ya))))) (La (Ze (AO T.n_sorted (La (Ze (Mi ["_law_row"] ["_law_script","_law_many","_law_sets_here","_law_depths","_law_step","_law_doors","_law_grants","_law_house","_law_due_here","_law_which"] (by walk_at "compok") rfl (Pn (Qa 6)) (λC fp pins s H=>⟨(Hc 0 (show Nodup (["_law_row","_law_script","_law_many","_law_sets_here","_law_depths","_law_step","_law_doors","_law_grants","_law_house","_law_due_here","_law_which"]:List Str) by decide +kernel)),Ao,(Gi (Pa 0) (La Ta))⟩))))))))))) Zc)
  (Ra (Vk (GZ (La (Gi (Pa 8) (La Ta)))) (Ab (Yc 8 Jg.nd (Im (Ga (Gi (La (Gi (Pa 6) (La (Gi (Pa 8) (La Ta))))) (La Ta)) (Ga (Gi (La (Gi (Pa 6) (La (Gi (Pa 8) (La Ta))))) (La Ta)) Ya))))) Zc)
  (Ra (Nt PassesOwn.never rfl (Ml T.n_range (Ga Ta Ya)) (Hc 9 Jg.nd) (Ab (Vk (Gg (VG (Bk hr)) (La (Nb (F__law_refused.mono (by decide)) hr (Ga (Qa 7) (Ga (Gi (La (Gi (Pa 6) (La (Nd (La (Nb (F__law_cell.mono (by decide)) hr (Ga (Qa 0) (Ga Ta Ya)))) (La (Bo T.n_len (Pa 6))))))) (La Ta)) (Ga (Qa 9) Ya))))) (Pa 8)) (Ab (Qc AZ)) Zc)))
  (Ab (Qc AZ))))))))))))))
end
variable{l:PySem.W.OpenLaw}
theorem all_mk{h:Heap}{fa:Addr}(X:K.In h)(G:h.Ns mainGlobals mg)(hfa:mg "law"=some (.ref fa)){f0:Addr}{od0 an0:Option Addr}{sl0:Array (Option Value)}{oc0 kV0 dc0 pm0 cd0 ct0:Value}{f1:Addr}{od1 an1:Option Addr}{sl1:Array (Option Value)}{oc1 kV1 dc1 pm1 cd1 ct1:Value}{C1:Addr}{f2:Addr}{od2 an2:Option Addr}{sl2:Array (Option Value)}{oc2 kV2 dc2 pm2 cd2 ct2:Value}{f3:Addr}{od3 an3:Option Addr}{sl3:Array (Option Value)}{oc3 kV3 dc3 pm3 cd3 ct3:Value}{f4:Addr}{od4 an4:Option Addr}{sl4:Array (Option Value)}{oc4 kV4 dc4 pm4 cd4 ct4:Value}{f5:Addr}{od5 an5:Option Addr}{sl5:Array (Option Value)}{oc5 kV5 dc5 pm5 cd5 ct5:Value}{f6:Addr}{od6 an6:Option Addr}{sl6:Array (Option Value)}{oc6 kV6 dc6 pm6 cd6 ct6:Value}{C6 S6 xN6:Addr}{xm6 xq6:Str}{xb6 xe6 xs6:List Value}{xh6 xa6:Bool}{xn6:List Str}{xo6:Option Bool}{xd6:Option Addr}{x0_6 x1_6 x2_6 x3_6 x5_6:Option Value}{xc6:ClassData}{f7:Addr}{od7 an7:Option Addr}{sl7:Array (Option Value)}{oc7 kV7 dc7 pm7 cd7 ct7:Value}{f8:Addr}{od8 an8:Option Addr}{sl8:Array (Option Value)}{oc8 kV8 dc8 pm8 cd8 ct8:Value}{f9:Addr}{od9 an9:Option Addr}{sl9:Array (Option Value)}{oc9 kV9 dc9 pm9 cd9 ct9:Value}{f10:Addr}{od10 an10:Option Addr}{sl10:Array (Option Value)}{oc10 kV10 dc10 pm10 cd10 ct10:Value}{f11:Addr}{od11 an11:Option Addr}{sl11:Array (Option Value)}{oc11 kV11 dc11 pm11 cd11 ct11:Value}{f12:Addr}{od12 an12:Option Addr}{sl12:Array (Option Value)}{oc12 kV12 dc12 pm12 cd12 ct12:Value}{f13:Addr}{od13 an13:Option Addr}{sl13:Array (Option Value)}{oc13 kV13 dc13 pm13 cd13 ct13:Value}{f14:Addr}{od14 an14:Option Addr}{sl14:Array (Option Value)}{oc14 kV14 dc14 pm14 cd14 ct14:Value}{f15:Addr}{od15 an15:Option Addr}{sl15:Array (Option Value)}{oc15 kV15 dc15 pm15 cd15 ct15:Value}{f16:Addr}{od16 an16:Option Addr}{sl16:Array (Option Value)}{oc16 kV16 dc16 pm16 cd16 ct16:Value}{f17:Addr}{od17 an17:Option Addr}{sl17:Array (Option Value)}{oc17 kV17 dc17 pm17 cd17 ct17:Value}{f18:Addr}{od18 an18:Option Addr}{sl18:Array (Option Value)}{oc18 kV18 dc18 pm18 cd18 ct18:Value}{f19:Addr}{od19 an19:Option Addr}{sl19:Array (Option Value)}{oc19 kV19 dc19 pm19 cd19 ct19:Value}{f20:Addr}{od20 an20:Option Addr}{sl20:Array (Option Value)}{oc20 kV20 dc20 pm20 cd20 ct20:Value}{f21:Addr}{od21 an21:Option Addr}{sl21:Array (Option Value)}{oc21 kV21 dc21 pm21 cd21 ct21:Value}{f22:Addr}{od22 an22:Option Addr}{sl22:Array (Option Value)}{oc22 kV22 dc22 pm22 cd22 ct22:Value}{f23:Addr}{od23 an23:Option Addr}{sl23:Array (Option Value)}{oc23 kV23 dc23 pm23 cd23 ct23:Value}{f24:Addr}{od24 an24:Option Addr}{sl24:Array (Option Value)}{oc24 kV24 dc24 pm24 cd24 ct24:Value}{ck0:Addr}{ck1:Addr}{ck3:Addr}{ck4:Addr}{ck5:Addr}{ck6:Addr}(a0:nsIn K mainGlobals "copied"=some (some (.ref f0)))(l0:K.lookup f0=some ⟨oc0,od0,.func (fnOf "copied" "copied" (Gb Ci) (Va Ci) (Ca Ci) .none kV0 dc0 pm0 an0 cd0 ct0),sl0⟩)(c0:codeIn K cd0 "copied"=true)(k0:keepIn K (.ref f0)=true)(aC1:nsIn K mainGlobals "House"=some (some (.ref C1)))(a1:findIn K (.ref C1) "__init__"=some (some (.ref f1)))(i1:isFn K (.ref f1)=true)(l1:K.lookup f1=some ⟨oc1,od1,.func (fnOf "__init__" "House.__init__" (Gb Wj) (Va Wj) (Ca Wj) .none kV1 dc1 pm1 an1 cd1 ct1),sl1⟩)(c1:codeIn K cd1 "House.__init__"=true)(k1:keepIn K (.ref f1)=true)(pg1:plainGet K C1 Str.empty=true)(hd1:hasDictIn K C1=true)(po1:plainOver K C1=true)(sa1:findIn K (.ref C1) "__setattr__"=some (some (.builtin "object.__setattr__")))(mk1:makesIn K C1=true)(kc1:keepIn K (.ref C1)=true)(n1_rules:findIn K (.ref C1) "rules"=some none)(n1_doors:findIn K (.ref C1) "doors"=some none)(n1_wings:findIn K (.ref C1) "wings"=some none)(n1_grants:findIn K (.ref C1) "grants"=some none)(a2:nsIn K mainGlobals "_law_cell"=some (some (.ref f2)))(l2:K.lookup f2=some ⟨oc2,od2,.func (fnOf "_law_cell" "_law_cell" (Gb Fe) (Va Fe) (Ca Fe) .none kV2 dc2 pm2 an2 cd2 ct2),sl2⟩)(c2:codeIn K cd2 "_law_cell"=true)(k2:keepIn K (.ref f2)=true)(a3:nsIn K mainGlobals "_law_due"=some (some (.ref f3)))(l3:K.lookup f3=some ⟨oc3,od3,.func (fnOf "_law_due" "_law_due" (Gb Pf) (Va Pf) (Ca Pf) .none kV3 dc3 pm3 an3 cd3 ct3),sl3⟩)(c3:codeIn K cd3 "_law_due"=true)(k3:keepIn K (.ref f3)=true)(a4:nsIn K mainGlobals "_law_name"=some (some (.ref f4)))(l4:K.lookup f4=some ⟨oc4,od4,.func (fnOf "_law_name" "_law_name" (Gb Ge) (Va Ge) (Ca Ge) .none kV4 dc4 pm4 an4 cd4 ct4),sl4⟩)(c4:codeIn K cd4 "_law_name"=true)(k4:keepIn K (.ref f4)=true)(a5:nsIn K mainGlobals "elder_in"=some (some (.ref f5)))(l5:K.lookup f5=some ⟨oc5,od5,.func (fnOf "elder_in" "elder_in" (Gb Rf) (Va Rf) (Ca Rf) .none kV5 dc5 pm5 an5 cd5 ct5),sl5⟩)(c5:codeIn K cd5 "elder_in"=true)(k5:keepIn K (.ref f5)=true)(aC6:nsIn K mainGlobals "NoTower"=some (some (.ref C6)))(aS6:nsIn K mainGlobals "SmithError"=some (some (.ref S6)))(ex6:K.lookup C6=some (excClassObj xm6 xq6 C6 xN6 xb6 xe6 xh6 xn6 xs6 xa6 xo6 xd6 x0_6 x1_6 x2_6 x3_6 x5_6 "ValueError.__new__"))(eo6:PySem.W.nsOkIn K xN6=true)(ei6:nsIn K xN6 "__init__"=some (some (.ref f6)))(et6:PySem.W.tailIn K RL xe6=true)(ef6:typeIn K (.ref f6)=some (.type "function"))(kc6:keepIn K (.ref C6)=true)(sa6:findIn K (.ref C6) "__setattr__"=some (some (.builtin "object.__setattr__")))(em6:mroIn K C6 (.type "object")=some true)(el6:PySem.W.clsIn K C6=some xc6)(ev6:Vn 2 xc6.mro=true)(eh6:xc6.hasDict=true)(eg6:specialIn K (.ref S6) "__getattribute__"=some (some (.builtin "type.__getattribute__")))(er6:PySem.W.readsIn K S6 (.type "type")=true)(eb6:PySem.W.findCls K (.ref S6) (.type "type") "__init__"=some (.val (.builtin "ValueError.__init__")))(en6_one:findIn K (.ref C6) "one"=some none)(en6_other:findIn K (.ref C6) "other"=some none)(l6:K.lookup f6=some ⟨oc6,od6,.func (fnOf "__init__" "NoTower.__init__" (Gb Rg) (Va Rg) (Ca Rg) .none kV6 dc6 pm6 an6 cd6 ct6),sl6⟩)(c6:codeIn K cd6 "NoTower.__init__"=true)(k6:keepIn K (.ref f6)=true)(xa6:findIn K (.ref C6) "__getattribute__"=some (some (.builtin "BaseException.__getattribute__")))(xb6:findIn K (.ref C6) "__getattr__"=some none)(xc6:findIn K (.ref C6) "__class__"=some (some (.builtin "object.__class__")))(xd6:mroIn K C6 (.type "BaseException")=some true)(xf6:hasDictIn K C6=true)(a7:nsIn K mainGlobals "depths_of"=some (some (.ref f7)))(l7:K.lookup f7=some ⟨oc7,od7,.func (fnOf "depths_of" "depths_of" (Gb Je) (Va Je) (Ca Je) .none kV7 dc7 pm7 an7 cd7 ct7),sl7⟩)(c7:codeIn K cd7 "depths_of"=true)(k7:keepIn K (.ref f7)=true)(a8:nsIn K mainGlobals "are_apart"=some (some (.ref f8)))(l8:K.lookup f8=some ⟨oc8,od8,.func (fnOf "are_apart" "are_apart" (Gb Ie) (Va Ie) (Ca Ie) .none kV8 dc8 pm8 an8 cd8 ct8),sl8⟩)(c8:codeIn K cd8 "are_apart"=true)(k8:keepIn K (.ref f8)=true)(a9:nsIn K mainGlobals "are_within"=some (some (.ref f9)))(l9:K.lookup f9=some ⟨oc9,od9,.func (fnOf "are_within" "are_within" (Gb Kd) (Va Kd) (Ca Kd) .none kV9 dc9 pm9 an9 cd9 ct9),sl9⟩)(c9:codeIn K cd9 "are_within"=true)(k9:keepIn K (.ref f9)=true)(a10:nsIn K mainGlobals "are_nested"=some (some (.ref f10)))(l10:K.lookup f10=some ⟨oc10,od10,.func (fnOf "are_nested" "are_nested" (Gb Jd) (Va Jd) (Ca Jd) .none kV10 dc10 pm10 an10 cd10 ct10),sl10⟩)(c10:codeIn K cd10 "are_nested"=true)(k10:keepIn K (.ref f10)=true)(a11:nsIn K mainGlobals "refuse_crossed"=some (some (.ref f11)))(l11:K.lookup f11=some ⟨oc11,od11,.func (fnOf "refuse_crossed" "refuse_crossed" (Gb Fc) (Va Fc) (Ca Fc) .none kV11 dc11 pm11 an11 cd11 ct11),sl11⟩)(c11:codeIn K cd11 "refuse_crossed"=true)(k11:keepIn K (.ref f11)=true)(a12:nsIn K mainGlobals "doors_of"=some (some (.ref f12)))(l12:K.lookup f12=some ⟨oc12,od12,.func (fnOf "doors_of" "doors_of" (Gb Qf) (Va Qf) (Ca Qf) .none kV12 dc12 pm12 an12 cd12 ct12),sl12⟩)(c12:codeIn K cd12 "doors_of"=true)(k12:keepIn K (.ref f12)=true)(a13:nsIn K mainGlobals "names_of"=some (some (.ref f13)))(l13:K.lookup f13=some ⟨oc13,od13,.func (fnOf "names_of" "names_of" (Gb Tf) (Va Tf) (Ca Tf) .none kV13 dc13 pm13 an13 cd13 ct13),sl13⟩)(c13:codeIn K cd13 "names_of"=true)(k13:keepIn K (.ref f13)=true)(a14:nsIn K mainGlobals "spans_of"=some (some (.ref f14)))(l14:K.lookup f14=some ⟨oc14,od14,.func (fnOf "spans_of" "spans_of" (Gb Uf) (Va Uf) (Ca Uf) .none kV14 dc14 pm14 an14 cd14 ct14),sl14⟩)(c14:codeIn K cd14 "spans_of"=true)(k14:keepIn K (.ref f14)=true)(a15:nsIn K mainGlobals "step_of"=some (some (.ref f15)))(l15:K.lookup f15=some ⟨oc15,od15,.func (fnOf "step_of" "step_of" (Gb Sg) (Va Sg) (Ca Sg) .none kV15 dc15 pm15 an15 cd15 ct15),sl15⟩)(c15:codeIn K cd15 "step_of"=true)(k15:keepIn K (.ref f15)=true)(a16:nsIn K mainGlobals "tower_in"=some (some (.ref f16)))(l16:K.lookup f16=some ⟨oc16,od16,.func (fnOf "tower_in" "tower_in" (Gb Vf) (Va Vf) (Ca Vf) .none kV16 dc16 pm16 an16 cd16 ct16),sl16⟩)(c16:codeIn K cd16 "tower_in"=true)(k16:keepIn K (.ref f16)=true)(a17:nsIn K mainGlobals "elder_of"=some (some (.ref f17)))(l17:K.lookup f17=some ⟨oc17,od17,.func (fnOf "elder_of" "elder_of" (Gb Sf) (Va Sf) (Ca Sf) .none kV17 dc17 pm17 an17 cd17 ct17),sl17⟩)(c17:codeIn K cd17 "elder_of"=true)(k17:keepIn K (.ref f17)=true)(a18:nsIn K mainGlobals "keys_above"=some (some (.ref f18)))(l18:K.lookup f18=some ⟨oc18,od18,.func (fnOf "keys_above" "keys_above" (Gb Ld) (Va Ld) (Ca Ld) .none kV18 dc18 pm18 an18 cd18 ct18),sl18⟩)(c18:codeIn K cd18 "keys_above"=true)(k18:keepIn K (.ref f18)=true)(a19:nsIn K mainGlobals "levels_in"=some (some (.ref f19)))(l19:K.lookup f19=some ⟨oc19,od19,.func (fnOf "levels_in" "levels_in" (Gb Ke) (Va Ke) (Ca Ke) .none kV19 dc19 pm19 an19 cd19 ct19),sl19⟩)(c19:codeIn K cd19 "levels_in"=true)(k19:keepIn K (.ref f19)=true)(a20:nsIn K mainGlobals "levels_of"=some (some (.ref f20)))(l20:K.lookup f20=some ⟨oc20,od20,.func (fnOf "levels_of" "levels_of" (Gb Le) (Va Le) (Ca Le) .none kV20 dc20 pm20 an20 cd20 ct20),sl20⟩)(c20:codeIn K cd20 "levels_of"=true)(k20:keepIn K (.ref f20)=true)(a21:nsIn K mainGlobals "tower_plan"=some (some (.ref f21)))(l21:K.lookup f21=some ⟨oc21,od21,.func (fnOf "tower_plan" "tower_plan" (Gb Md) (Va Md) (Ca Md) .none kV21 dc21 pm21 an21 cd21 ct21),sl21⟩)(c21:codeIn K cd21 "tower_plan"=true)(k21:keepIn K (.ref f21)=true)(a22:nsIn K mainGlobals "_law_refused"=some (some (.ref f22)))(l22:K.lookup f22=some ⟨oc22,od22,.func (fnOf "_law_refused" "_law_refused" (Gb Pc) (Va Pc) (Ca Pc) .none kV22 dc22 pm22 an22 cd22 ct22),sl22⟩)(c22:codeIn K cd22 "_law_refused"=true)(k22:keepIn K (.ref f22)=true)(a23:nsIn K mainGlobals "_law_sets"=some (some (.ref f23)))(l23:K.lookup f23=some ⟨oc23,od23,.func (fnOf "_law_sets" "_law_sets" (Gb He) (Va He) (Ca He) .none kV23 dc23 pm23 an23 cd23 ct23),sl23⟩)(c23:codeIn K cd23 "_law_sets"=true)(k23:keepIn K (.ref f23)=true)(a24:nsIn K mainGlobals "law"=some (some (.ref f24)))(l24:K.lookup f24=some ⟨oc24,od24,.func (fnOf "law" "law" (Gb Bm) (Va Bm) (Ca Bm) .none kV24 dc24 pm24 an24 cd24 ct24),sl24⟩)(c24:codeIn K cd24 "law"=true)(k24:keepIn K (.ref f24)=true)(z0:nsIn K mainGlobals "ValueError"=some none)(z1:nsIn K mainGlobals "dict"=some none)(z2:nsIn K mainGlobals "enumerate"=some none)(z3:nsIn K mainGlobals "isinstance"=some none)(z4:nsIn K mainGlobals "len"=some none)(z5:nsIn K mainGlobals "list"=some none)(z6:nsIn K mainGlobals "range"=some none)(z7:nsIn K mainGlobals "set"=some none)(z8:nsIn K mainGlobals "sorted"=some none)(cn0:nsIn K mainGlobals "NoTower"=some (some (.ref ck0)))(cn1:nsIn K mainGlobals "SmithError"=some (some (.ref ck1)))(cn3:nsIn K mainGlobals "TooFlat"=some (some (.ref ck3)))(cn4:nsIn K mainGlobals "TooNarrow"=some (some (.ref ck4)))(cn5:nsIn K mainGlobals "Steep"=some (some (.ref ck5)))(cn6:nsIn K mainGlobals "Wrong"=some (some (.ref ck6)))(cm1_0:exmOne K (.ref ck0) (.ref ck1)=some true)(ea_0:findIn K (.ref ck0) "__getattribute__"=some (some (.builtin "BaseException.__getattribute__")))(eb_0:findIn K (.ref ck0) "__getattr__"=some none)(ec_0:findIn K (.ref ck0) "__class__"=some (some (.builtin "object.__class__")))(ed_0:mroIn K ck0 (.type "object")=some true)(ee_0:mroIn K ck0 (.type "BaseException")=some true)(ek0_0:kitAny K (.ref ck0) [.ref ck0]=some true)(ek1_0:kitAny K (.ref ck0) [.type "ValueError"]=some true)(ek2_0:kitAny K (.ref ck0) [.ref ck3,.ref ck4,.ref ck5,.ref ck6]=some false)
  :∃ fd:FuncData,(∀ (s:Shared) (v:Value),BindsTo s fd ⟨[v],[]⟩ [("_law_script",v)])/\∀ base:Heap,K.In base->base.Ns mainGlobals mg->FnOk l.prog w K mg base Al 7 fa fd ["_law_script"] (BD K):=by
 have e:=hfa.symm.trans (mg_of X G a24)
 cases e
 have T:Txt K mg (λi=>([.ref ck0,.ref ck1,.ty "ValueError",.ref ck3,.ref ck4,.ref ck5,.ref ck6]:List V).getD i .non):=⟨mg_none_of X G z0,mg_none_of X G z1,mg_none_of X G z2,mg_none_of X G z3,mg_none_of X G z4,mg_none_of X G z5,mg_none_of X G z6,mg_none_of X G z7,mg_none_of X G z8,⟨⟨C1,aC1,⟨pg1,hd1,po1,sa1⟩,n1_doors⟩⟩,⟨⟨C1,aC1,⟨pg1,hd1,po1,sa1⟩,n1_grants⟩⟩,⟨⟨C1,aC1,⟨pg1,hd1,po1,sa1⟩,n1_rules⟩⟩,⟨⟨C1,aC1,⟨pg1,hd1,po1,sa1⟩,n1_wings⟩⟩,forall_mem_cons.mpr ⟨⟨C6,aC6,⟨xa6,xb6,xc6,em6,xd6⟩,xf6,en6_one⟩,forall_mem_nil _⟩,forall_mem_cons.mpr ⟨⟨C6,aC6,⟨xa6,xb6,xc6,em6,xd6⟩,xf6,en6_other⟩,forall_mem_nil _⟩,⟨_,_,cn0,cn1,cm1_0⟩,.own (mg_of X G cn0),.own (mg_of X G cn5),.own (mg_of X G cn3),.own (mg_of X G cn4),.blt (mg_none_of X G z0) PyProof.Rows.Boot.«ValueError» (by decide),.own (mg_of X G cn6),(Tm cn0 ⟨ea_0,eb_0,ec_0,ed_0,ee_0⟩ ek0_0 (Bq (Ij Op))),(Tm cn0 ⟨ea_0,eb_0,ec_0,ed_0,ee_0⟩ ek1_0 (Bq (UM Op))),(Tm cn0 ⟨ea_0,eb_0,ec_0,ed_0,ee_0⟩ ek2_0 (Bq (Ij (Ij (Ij (Ij Op))))))⟩
 refine⟨fnOf "law" "law" (Gb Bm) (Va Bm) (Ca Bm) .none kV24 dc24 pm24 an24 cd24 ct24,λs v=>.of_eq rfl,λbase _ _=>?_⟩
 have F_copied:Fn l.prog w K mg base 1 "copied" 1 Xg:=OF (Yb (st:=Ci) l0 c0 k0) (mg_of X G a0) T
 have F_House:FnI l.prog w K mg base 3 "House" 4 4 Zf:=SJ (Yb (st:=Wj) l1 c1 k1) ⟨mk1,a1,i1,kc1⟩ (mg_of X G aC1) aC1 ⟨pg1,hd1,po1,sa1⟩ n1_rules n1_doors n1_wings n1_grants T F_copied
 have F__law_cell:Fn l.prog w K mg base 1 "_law_cell" 2 Ha:=Yu (Yb (st:=Fe) l2 c2 k2) (mg_of X G a2) T
 have F__law_due:Fn l.prog w K mg base 1 "_law_due" 2 Zd:=Wx (Yb (st:=Pf) l3 c3 k3) (mg_of X G a3) T
 have F__law_name:Fn l.prog w K mg base 2 "_law_name" 2 Ec:=Zu (Yb (st:=Ge) l4 c4 k4) (mg_of X G a4) T F__law_cell
 have F_elder_in:Fn l.prog w K mg base 1 "elder_in" 2 Si:=Yx (Yb (st:=Rf) l5 c5 k5) (mg_of X G a5) T
 have F_NoTower:FnG l.prog w K mg base 2 "NoTower" [("one",false),("other",false)]:=JA (Yb (st:=Rg) l6 c6 k6) ⟨⟨_,_,_,_,_,_,_,_,_,_,_,_,_,_,_,_,ex6,eo6,ei6,et6⟩,ef6,kc6,sa6,em6,⟨_,2,el6,ev6,eh6⟩,eg6,er6,eb6⟩ (mg_of X G aC6) aC6 (mg_of X G aS6) en6_one en6_other
 have F_depths_of:Fn l.prog w K mg base 1 "depths_of" 1 Ce:=Cv (Yb (st:=Je) l7 c7 k7) (mg_of X G a7) T
 have F_are_apart:Fn l.prog w K mg base 1 "are_apart" 2 Be:=Bv (Yb (st:=Ie) l8 c8 k8) (mg_of X G a8) T
 have F_are_within:Fn l.prog w K mg base 1 "are_within" 2 Ac:=Ir (Yb (st:=Kd) l9 c9 k9) (mg_of X G a9) T
 have F_are_nested:Fn l.prog w K mg base 2 "are_nested" 2 Ed:=Hr (Yb (st:=Jd) l10 c10 k10) (mg_of X G a10) T F_are_within
 have F_refuse_crossed:FnX l.prog w K mg base 3 "refuse_crossed" 1 Vb:=Sl (Yb (st:=Fc) l11 c11 k11) (mg_of X G a11) T F_NoTower F_are_apart F_are_nested
 have F_doors_of:Fn l.prog w K mg base 1 "doors_of" 2 Nf:=Xx (Yb (st:=Qf) l12 c12 k12) (mg_of X G a12) T
 have F_names_of:Fn l.prog w K mg base 1 "names_of" 1 Of:=Ay (Yb (st:=Tf) l13 c13 k13) (mg_of X G a13) T
 have F_spans_of:Fn l.prog w K mg base 2 "spans_of" 1 Ae:=By (Yb (st:=Uf) l14 c14 k14) (mg_of X G a14) T F_doors_of F_names_of
 have F_step_of:Fn l.prog w K mg base 1 "step_of" 1 Qg:=KA (Yb (st:=Sg) l15 c15 k15) (mg_of X G a15) T
 have F_tower_in:FnX l.prog w K mg base 4 "tower_in" 1 Ob:=Cy (Yb (st:=Vf) l16 c16 k16) (mg_of X G a16) T F_NoTower F_depths_of F_refuse_crossed F_spans_of F_step_of
 have F_elder_of:FnX l.prog w K mg base 5 "elder_of" 2 Rc:=Zx (Yb (st:=Sf) l17 c17 k17) (mg_of X G a17) T F_elder_in F_tower_in
 have F_keys_above:Fn l.prog w K mg base 2 "keys_above" 2 Fd:=Jr (Yb (st:=Ld) l18 c18 k18) (mg_of X G a18) T F_are_within
 have F_levels_in:Fn l.prog w K mg base 3 "levels_in" 1 De:=Dv (Yb (st:=Ke) l19 c19 k19) (mg_of X G a19) T F_keys_above
 have F_levels_of:FnX l.prog w K mg base 5 "levels_of" 1 Fb:=Ev (Yb (st:=Le) l20 c20 k20) (mg_of X G a20) T F_levels_in F_tower_in
 have F_tower_plan:FnX l.prog w K mg base 5 "tower_plan" 1 Bc:=Kr (Yb (st:=Md) l21 c21 k21) (mg_of X G a21) T F_tower_in
 have F__law_refused:Fn l.prog w K mg base 6 "_law_refused" 3 Oc:=Go (Yb (st:=Pc) l22 c22 k22) (mg_of X G a22) T F_NoTower F_elder_of F_levels_of F_tower_plan
 have F__law_sets:Fn l.prog w K mg base 2 "_law_sets" 2 Xc:=Av (Yb (st:=He) l23 c23 k23) (mg_of X G a23) T F__law_cell
 exact BW (KW (Yb (st:=Bm) l24 c24 k24) T F_House F__law_cell F__law_due F__law_name F__law_refused F__law_sets F_levels_of) law_true
theorem walk{q:Program}{loose:List Str}{XP:(Str->Option Value)->Heap->Prop}{YP:World->Heap->Prop}{d:DefRec}{K:Params->Frag}(hn:l.most=some 63)(hdf:d.params.defaults= [])(hY:∀ (w:World) (h:Heap),YP w h->(K w.params).In h)(F:∀ (w:World) (mg:Str->Option Value) (fa:Addr) (h:Heap),(K w.params).In h->h.Ns mainGlobals mg->mg d.name=some (.ref fa)->
   ∃ fd:FuncData,(∀ (s:Shared) (u:Value),BindsTo s fd ⟨[u],[]⟩ [("_law_script",u)])/\∀ base:Heap,(K w.params).In base->base.Ns mainGlobals mg->FnOk l.prog w (K w.params) mg base Al 7 fa fd ["_law_script"] (BD (K w.params))):
  PySem.W.WalkO q loose XP YP l.row.toRowW d [] (λf vs=>PySem.call f vs):=
 L2.walk_of (n:=63) (k:=7) (x:="_law_script") (CX:=λ_=>Al) (sp:=λw=>BD (K w.params)) hn (by decide) hdf ⟨rfl,by decide,by decide,rfl⟩ hY F (λ_ _ a ns hl _ hS=>⟨a,ns,rfl,hS,hl,λ_=>rfl⟩) λ_ _ _ _ _ z=>z
end G
open PySem PySem.W PyProof.Rows
theorem PySem.W.Fast.tw11533312239999978779 : True := trivial
theorem PySem.W.Fast.tw14122419559000292883 : True := trivial
theorem PySem.W.Fast.tw9070940762003944306 : True := trivial
theorem PySem.W.Fast.tw2739163761546833859 : True := trivial
theorem PySem.W.Fast.tw1749912369912769902 : True := trivial
theorem PySem.W.Fast.tw579461028379020993 : True := trivial
theorem PySem.W.Fast.tw9821299967958371167 : True := trivial
theorem PySem.W.Fast.tw708612318405811554 : True := trivial
theorem PySem.W.Fast.tw14031238236863312940 : True := trivial
theorem PySem.W.Fast.tw13202658634398677641 : True := trivial
theorem PySem.W.Fast.tw8845570691077611522 : True := trivial
theorem PySem.W.Fast.tw10617817769485948531 : True := trivial
theorem PySem.W.Fast.tw3997895077283538453 : True := trivial
theorem PySem.W.Fast.tw6290549392414850776 : True := trivial
theorem PySem.W.Fast.tw13329996268226619398 : True := trivial
theorem PySem.W.Fast.tw9588963844186252768 : True := trivial
theorem PySem.W.Fast.tw11155287946027591130 : True := trivial
theorem PySem.W.Fast.tw18393795371302472255 : True := trivial
theorem PySem.W.Fast.tw9022296221120688107 : True := trivial
theorem PySem.W.Fast.tw11350424129046357328 : True := trivial
theorem PySem.W.Fast.tw12763863997159257081 : True := trivial
theorem PySem.W.Fast.tw17500608315434178695 : True := trivial
theorem PySem.W.Fast.tw10689161453785016007 : True := trivial
theorem PySem.W.Fast.tw14560010443209988000 : True := trivial
theorem PySem.W.Fast.tw18339973094941862252 : True := trivial
theorem PySem.Challenge.cw_wardsmith_k62_no_tower_holds : PySem.Challenge.rw_wardsmith_k62_no_tower.Holds := by
 w_on;o_law;k_head;(case hw=>w_witness2)
 k_fill
 refine G.walk (l:=PySem.Challenge.rw_wardsmith_k62_no_tower) rfl rfl (λw h Y=>PySem.W.km_in_of Y) ?F
 case F=>
  intro w mg fa h KX GG hmg
  refine' G.all_mk KX GG hmg ?a0 ?l0 ?c0 ?k0 ?aC1 ?a1 ?i1 ?l1 ?c1 ?k1 ?pg1 ?hd1 ?po1 ?sa1 ?mk1 ?kc1 ?n1_rules ?n1_doors ?n1_wings ?n1_grants ?a2 ?l2 ?c2 ?k2 ?a3 ?l3 ?c3 ?k3 ?a4 ?l4 ?c4 ?k4 ?a5 ?l5 ?c5 ?k5 ?aC6 ?aS6 ?ex6 ?eo6 ?ei6 ?et6 ?ef6 ?kc6 ?sa6 ?em6 ?el6 ?ev6 ?eh6 ?eg6 ?er6 ?eb6 ?l6 ?c6 ?k6 ?en6_one ?en6_other ?xa6 ?xb6 ?xc6 ?xd6 ?xf6 ?a7 ?l7 ?c7 ?k7 ?a8 ?l8 ?c8 ?k8 ?a9 ?l9 ?c9 ?k9 ?a10 ?l10 ?c10 ?k10 ?a11 ?l11 ?c11 ?k11 ?a12 ?l12 ?c12 ?k12 ?a13 ?l13 ?c13 ?k13 ?a14 ?l14 ?c14 ?k14 ?a15 ?l15 ?c15 ?k15 ?a16 ?l16 ?c16 ?k16 ?a17 ?l17 ?c17 ?k17 ?a18 ?l18 ?c18 ?k18 ?a19 ?l19 ?c19 ?k19 ?a20 ?l20 ?c20 ?k20 ?a21 ?l21 ?c21 ?k21 ?a22 ?l22 ?c22 ?k22 ?a23 ?l23 ?c23 ?k23 ?a24 ?l24 ?c24 ?k24 ?z0 ?z1 ?z2 ?z3 ?z4 ?z5 ?z6 ?z7 ?z8 ?cn0 ?cn1 ?cn3 ?cn4 ?cn5 ?cn6 ?cm1_0 ?ea_0 ?eb_0 ?ec_0 ?ed_0 ?ee_0 ?ek0_0 ?ek1_0 ?ek2_0
  (case a0=>k_is);(case l0=>k_is);(case c0=>k_is);(case k0=>k_is);(case aC1=>k_is);(case a1=>k_is)
  (case i1=>k_is);(case l1=>k_is);(case c1=>k_is);(case k1=>k_is);(case pg1=>k_is);(case hd1=>k_is)
  (case po1=>k_is);(case sa1=>k_is);(case mk1=>k_is);(case kc1=>k_is);(case n1_rules=>k_is);(case n1_doors=>k_is)
  (case n1_wings=>k_is);(case n1_grants=>k_is);(case a2=>k_is);(case l2=>k_is);(case c2=>k_is);(case k2=>k_is)
  (case a3=>k_is);(case l3=>k_is);(case c3=>k_is);(case k3=>k_is);(case a4=>k_is);(case l4=>k_is)
  (case c4=>k_is);(case k4=>k_is);(case a5=>k_is);(case l5=>k_is);(case c5=>k_is);(case k5=>k_is)
  (case aC6=>k_is);(case aS6=>k_is);(case ex6=>k_is);(case eo6=>kernel_rfl);(case ei6=>k_is);(case et6=>kernel_rfl)
  (case ef6=>k_is);(case kc6=>k_is);(case sa6=>k_is);(case em6=>k_is);(case el6=>k_is);(case ev6=>kernel_rfl)
  (case eh6=>kernel_rfl);(case eg6=>k_is);(case er6=>k_is);(case eb6=>k_is);(case l6=>k_is);(case c6=>k_is)
  (case k6=>k_is);(case en6_one=>k_is);(case en6_other=>k_is);(case xa6=>k_is);(case xb6=>k_is);(case xc6=>k_is)
  (case xd6=>k_is);(case xf6=>k_is);(case a7=>k_is);(case l7=>k_is);(case c7=>k_is);(case k7=>k_is)
  (case a8=>k_is);(case l8=>k_is);(case c8=>k_is);(case k8=>k_is);(case a9=>k_is);(case l9=>k_is)
  (case c9=>k_is);(case k9=>k_is);(case a10=>k_is);(case l10=>k_is);(case c10=>k_is);(case k10=>k_is)
  (case a11=>k_is);(case l11=>k_is);(case c11=>k_is);(case k11=>k_is);(case a12=>k_is);(case l12=>k_is)
  (case c12=>k_is);(case k12=>k_is);(case a13=>k_is);(case l13=>k_is);(case c13=>k_is);(case k13=>k_is)
  (case a14=>k_is);(case l14=>k_is);(case c14=>k_is);(case k14=>k_is);(case a15=>k_is);(case l15=>k_is)
  (case c15=>k_is);(case k15=>k_is);(case a16=>k_is);(case l16=>k_is);(case c16=>k_is);(case k16=>k_is)
  (case a17=>k_is);(case l17=>k_is);(case c17=>k_is);(case k17=>k_is);(case a18=>k_is);(case l18=>k_is)
  (case c18=>k_is);(case k18=>k_is);(case a19=>k_is);(case l19=>k_is);(case c19=>k_is);(case k19=>k_is)
  (case a20=>k_is);(case l20=>k_is);(case c20=>k_is);(case k20=>k_is);(case a21=>k_is);(case l21=>k_is)
  (case c21=>k_is);(case k21=>k_is);(case a22=>k_is);(case l22=>k_is);(case c22=>k_is);(case k22=>k_is)
  (case a23=>k_is);(case l23=>k_is);(case c23=>k_is);(case k23=>k_is);(case a24=>k_is);(case l24=>k_is)
  (case c24=>k_is);(case k24=>k_is);(case z0=>k_is);(case z1=>k_is);(case z2=>k_is);(case z3=>k_is)
  (case z4=>k_is);(case z5=>k_is);(case z6=>k_is);(case z7=>k_is);(case z8=>k_is);(case cn0=>k_is)
  (case cn1=>k_is);(case cn3=>k_is);(case cn4=>k_is);(case cn5=>k_is);(case cn6=>k_is);(case cm1_0=>kts_exm)
  (case ea_0=>k_is);(case eb_0=>k_is);(case ec_0=>k_is);(case ed_0=>k_is);(case ee_0=>k_is);(case ek0_0=>kit_is)
  (case ek1_0=>kit_is);(case ek2_0=>kit_is)
