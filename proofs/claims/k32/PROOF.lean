import PyProof.Rows.All
import Wide.All
import OpenK.AllK
import Wide.FinOn
import Lean
import PyProof.EqAt
import PyProof.EqKinds
import PyProof.TupleCall
import PyProof.ZipIter
import PyProof.Draws
import PyProof.TupleIter
import PyProof.ListMulRoad
import PyProof.FactsAll.tuple
import PyProof.ReprRoads
import PyProof.Rows.RegFStrParts
import PyProof.Rows.Range3
import KE.KIntText
import PyProof.AutoListH
import PyProof.Rows.MinMaxN
import PyProof.SetScanFacts
import PyProof.SetKind
import PyProof.DictKinds
import PyProof.WalkLemmas
import PyProof.CollectWalk
import PyProof.FactsAll.set
import PyProof.Walks
import PyProof.WalksS
import PyProof.SetRoads
import PyProof.Rows.SetFrom
import PyProof.Rows.SortWalk
import PyProof.EnumMake
import PyProof.EnumFor
import PyProof.DictItemsLoops
import PyProof.DictWalks
import KE.KDictList
import PyProof.Rows.SumAny
import KE.KRevIter
import KE.KDictOf
import PyProof.AttrMissHeap
import PyProof.NsDelKeeps
import PyProof.RulesAs
import KE.KTryMore
import PyProof.ExcArgsOwn
import KE.KUnpack
import PyProof.ExcClass2
import OpenK.KMake
import OpenK.KGet
import PyProof.InstStore
import PyProof.InstStoreFacts
import OpenK.KCls
import OpenK.KMore
import PyProof.FString4
import PyProof.StrLawsRepr
import KE.KEqDict
import KE.KItemsList
import PyProof.FactsAll.NoneType_1
import PyProof.Rows.SortStr
import PySem.Challenge.RW_wardsmith_k32_house_read
set_option Elab.async false
set_option linter.all false
set_option maxRecDepth 100000
namespace L2
open PySem PySem.Spec PyProof.Rows
abbrev Key:=Sum Int Str
def keyIs:Key→Value→Bool
 | .inl k,v=>Value.isInt k v
 | .inr x,v=>Value.isStrOf x v
def keyH (w:World):Key→Int
 | .inl k=>hashInt k
 | .inr x=>hashStr w x
theorem keyIs_shape:∀ {k:Key} {v:Value},keyIs k v=true→(∃ i t,k=Sum.inl i∧v=Value.int i t)∨(∃ x t,k=Sum.inr x∧v=Value.str x t)
 | .inl i,v,h=>by
  obtain ⟨t,e⟩:=Value.isInt_shape (k:=i) (v:=v) h
  exact .inl ⟨i,t,rfl,e⟩
 | .inr x,v,h=>by
  obtain ⟨t,e⟩:=Value.isStrOf_shape (x:=x) (v:=v) h
  exact .inr ⟨x,t,rfl,e⟩
theorem keyIs_int (i:Int) (t:Tok):keyIs (.inl i) (.int i t)=true:=by simp [keyIs,Value.isInt]
theorem keyIs_str (x:Str) (t:Tok):keyIs (.inr x) (.str x t)=true:=by simp [keyIs,Value.isStrOf]
theorem key_ll (a b:Int):decide ((Sum.inl a:Key)=Sum.inl b)=(a==b):=by
 by_cases e:a=b
 ·subst e;simp
 ·have h:¬ (Sum.inl a:Key)=Sum.inl b:=fun q=>e (Sum.inl.inj q)
  rw [decide_eq_false h]
  exact (beq_eq_false_iff_ne.mpr e).symm
theorem key_rr (a b:Str):decide ((Sum.inr a:Key)=Sum.inr b)=decide (a=b):=by
 by_cases e:a=b
 ·subst e;simp
 ·have h:¬ (Sum.inr a:Key)=Sum.inr b:=fun q=>e (Sum.inr.inj q)
  rw [decide_eq_false h,decide_eq_false e]
theorem key_lr (a:Int) (b:Str):decide ((Sum.inl a:Key)=Sum.inr b)=false:=decide_eq_false (fun q=>nomatch q)
theorem key_rl (a:Str) (b:Int):decide ((Sum.inr a:Key)=Sum.inl b)=false:=decide_eq_false (fun q=>nomatch q)
def mixKind (prog:Program) (w:World):PySem.KeyKind prog w Key where
 is:=keyIs
 hash:=keyH w
 inj:=fun v a b ha hb=>by
  rcases keyIs_shape ha with ⟨i,t,rfl,rfl⟩|⟨x,t,rfl,rfl⟩
  ·rcases keyIs_shape hb with ⟨j,u,rfl,e⟩|⟨y,u,rfl,e⟩
   ·injection e with e1 _;rw [e1]
   ·exact nomatch e
  ·rcases keyIs_shape hb with ⟨j,u,rfl,e⟩|⟨y,u,rfl,e⟩
   ·exact nomatch e
   ·injection e with e1 _;rw [e1]
 byValue:=fun k v h=>by
  rcases keyIs_shape h with ⟨i,t,rfl,rfl⟩|⟨x,t,rfl,rfl⟩<;>rfl
 pyHash:=fun hv h=>by
  rcases keyIs_shape hv with ⟨i,t,rfl,rfl⟩|⟨x,t,rfl,rfl⟩
  ·exact wpAny_pyHash_int h
  ·exact wpAny_pyHash_str h
 eqBool:=fun hu hv h=>by
  rcases keyIs_shape hu with ⟨i,t,rfl,rfl⟩|⟨x,t,rfl,rfl⟩
  ·rcases keyIs_shape hv with ⟨j,u,rfl,rfl⟩|⟨y,u,rfl,rfl⟩
   ·rw [key_ll] at h;exact wpAny_eqBool_int h
   ·rw [key_lr] at h;exact SeqAt.EqAt.int_str i t y u _ _ _ _ h
  ·rcases keyIs_shape hv with ⟨j,u,rfl,rfl⟩|⟨y,u,rfl,rfl⟩
   ·rw [key_rl] at h;exact SeqAt.EqAt.str_int x t j u _ _ _ _ h
   ·rw [key_rr] at h;exact wpAny_eqBool_str h
 «strs» :=fun k x t v h=>by
  rcases keyIs_shape h with ⟨i,u,rfl,e⟩|⟨y,u,rfl,e⟩
  ·exact nomatch e
  ·injection e with e1 _
   subst e1
   cases v<;>rfl
theorem mixKind_int (prog:Program) (w:World) (i:Int) (t:Tok):(mixKind prog w).is (.inl i) (.int i t)=true:=keyIs_int i t
theorem mixKind_str (prog:Program) (w:World) (x:Str) (t:Tok):(mixKind prog w).is (.inr x) (.str x t)=true:=keyIs_str x t
end L2
namespace L2
open PySem PySem.Spec PyProof.Rows
inductive V where
 |non|bl (b:Bool)|int (i:Int)|str (x:Str)|byt (b:Array UInt8)|flt (b:UInt64)|ref (a:Addr)|ty (n:String)
 deriving DecidableEq
def RelV:V→Value→Prop
 | .non,u=>u=Value.none
 | .bl b,u=>u=Value.bool b
 | .int i,u=>∃ t,u=Value.int i t
 | .str x,u=>∃ t,u=Value.str x t
 | .byt b,u=>∃ t,u=Value.bytes b t
 | .flt b,u=>∃ t,u=Value.float b t
 | .ref a,u=>u=Value.ref a
 | .ty n,u=>u=Value.type n
abbrev Vals:List V→List Value→Prop:=Paired RelV
theorem Vals.length {xs:List V} {us:List Value} (r:Vals xs us):xs.length=us.length:=Paired.length r
theorem Vals.get:∀ {xs:List V} {us:List Value} {i:Nat} {x:V},Vals xs us→xs[i]? =some x→∃ u,us[i]? =some u∧RelV x u
 |_,_,_,_, .nil,e=>by simp at e
 |_,_,0,_, .cons r _,e=>by simp at e;subst e;exact ⟨_,rfl,r⟩
 |_,_,i+1,x, .cons _ t,e=>by
  obtain ⟨u,h1,h2⟩:=Vals.get (i:=i) (x:=x) t (by simpa using e)
  exact ⟨u,by simpa using h1,h2⟩
theorem Vals.set {x:V} {u:Value} (r:RelV x u):∀ {xs:List V} {us:List Value} (i:Nat),Vals xs us→Vals (xs.set i x) (us.set i u)
 |_,_,_, .nil=> .nil
 |_,_,0, .cons _ t=> .cons r t
 |_,_,i+1, .cons q t=> .cons q (Vals.set r i t)
theorem Vals.append:∀ {xs ys:List V} {us ws:List Value},Vals xs us→Vals ys ws→Vals (xs++ys) (us++ws)
 |_,_,_,_, .nil,s=>s
 |_,_,_,_, .cons r t,s=> .cons r (Vals.append t s)
theorem Vals.take:∀ {xs:List V} {us:List Value} (n:Nat),Vals xs us→Vals (xs.take n) (us.take n)
 |_,_,0,_=> .nil
 |_,_,_+1, .nil=> .nil
 |_,_,n+1, .cons r t=> .cons r (Vals.take n t)
theorem Vals.drop:∀ {xs:List V} {us:List Value} (n:Nat),Vals xs us→Vals (xs.drop n) (us.drop n)
 |_,_,0,r=>r
 |_,_,_+1, .nil=> .nil
 |_,_,n+1, .cons _ t=>Vals.drop n t
def RelO:Option V→Option Value→Prop
 |some v,some u=>RelV v u
 |none,none=>True
 |_,_=>False
def KV {κ:Type}:List (κ×V)→List (κ×Value)→Prop:=Paired fun (p:κ×V) (q:κ×Value)=>p.1=q.1∧RelV p.2 q.2
def kV:Key→V
 | .inl i=> .int i
 | .inr x=> .str x
inductive HO where
  |lst (xs:List V)
  |tup (xs:List V)
  |dK (kvs:List (Key×V))|dT (kvs:List (List Key×V))
  |set (S:Int→Bool) (n:Nat)
  |ins (C dx:Addr) (fs:List (Str×V))
  |own (x:Addr)
  |xd (fs:List (Str×V))
  |met (f x:Addr)
  |rng (lo hi:Int)
  |frz (o:Obj) (u:HO)
  |tbl (ps:Array Value)
  |ext (φ:Heap→Prop)
abbrev Hp:=Addr→Option HO
def upd (H:Hp) (a:Addr) (o:HO):Hp:=fun b=>if b=a then some o else H b
theorem upd_same {H:Hp} {a:Addr} {o:HO}:upd H a o a=some o:=by unfold upd;rw [if_pos rfl]
theorem upd_ne {H:Hp} {a b:Addr} {o:HO} (h:b≠a):upd H a o b=H b:=by unfold upd;rw [if_neg h]
theorem ne_of_none {H:Hp} {a b:Addr} {o:HO} (h:H a=some o) (h':H b=none):a≠b:=by
 intro e;subst e;rw [h] at h';cases h'
section
variable (P:Program) (w:World)
def ObjOk (H:Hp) (h:Heap) (a:Addr):HO→Prop
 | .lst xs=>xs.length≤sizeLine∧∃ (its:List Value) (n:Nat),Vals xs its∧h.get? a=some {cls:= .type "list",data:= .seq its.toArray n}
 | .tup xs=>xs.length≤sizeLine∧∃ its:List Value,Vals xs its∧IsTup h a its.toArray
 | .dK kvs=>kvs.length≤sizeLine∧(a==sysModules)=false∧∃ vs,KV kvs vs∧h.DictOf (mixKind P w) a vs
 | .dT kvs=>kvs.length≤sizeLine∧(a==sysModules)=false∧∃ xs:List (List Key×Addr×Value),
   Paired (fun (p:List Key×V) (q:List Key×Addr×Value)=>p.1=q.1∧H q.2.1=some (.tup (p.1.map kV))∧RelV p.2 q.2.2) kvs xs∧
   ∃ o es ep,h.get? a=some o∧o.ExactDict∧o.data= .dict es ep∧es.toList=xs.map (entryOfKey (tupleKind (mixKind P w)))∧(xs.map (·.1)).Nodup
 | .set S n=>h.SetOf (intKind P w) a S n
 | .ins C dx fs=>H dx=some (.own a)∧fs.length≤1000∧dx≠a∧h.get? a=some (PySem.W.instObj C dx)∧
   ∃ mA,h.Ns1 dx mA∧(∀ f,RelO (fs.lookup f) (mA f))∧PySem.Within mA (fs.map (·.1))
 | .own _=>∃ o,h.get? a=some o
 | .xd fs=>∃ mA,h.Ns1 a mA∧∀ f,RelO (fs.lookup f) (mA f)
 | .rng lo hi=>∃ t u v,h.get? a=some {cls:= .type "range",data:= .fields #[.int lo t, .int hi u, .int 1 v]}
 | .frz o u=>h.get? a=some o∧ObjOk H h a u
 | .tbl ps=>h.get? a=some {cls:= .none,data:= .fields ps}
 | .met f x=>h.get? a=some (PySem.W.methodObj (.ref f) (.ref x))
 | .ext φ=>φ h∧(∃ o,h.get? a=some o)∧∀ h1 h2:Heap,φ h1→(∀ o,h1.get? a=some o→h2.get? a=some o)→φ h2
def HOk (H:Hp) (h:Heap):Prop:=∀ a o,H a=some o→ObjOk P w H h a o
end
section
variable {P:Program} {w:World} {H H':Hp} {h h':Heap} {a:Addr} {o:HO}
theorem ObjOk.lt (x:ObjOk P w H h a o):a<h.objs.size:=by
 cases o with
 |lst xs=>obtain ⟨_,_,_,_,e⟩:=x;exact Heap.lt_size e
 |tup xs=>obtain ⟨_,_,_,p⟩:=x;exact p.lt
 |dK kvs=>obtain ⟨_,_,_,_,o,_,_,e,_⟩:=x;exact Heap.lt_size e
 |dT kvs=>obtain ⟨_,_,_,_,o,_,_,e,_⟩:=x;exact Heap.lt_size e
 |set S n=>obtain ⟨o,_,_,_,e,_⟩:=x;exact Heap.lt_size e
 |ins C dx fs=>obtain ⟨_,_,_,e,_⟩:=x;exact Heap.lt_size e
 |own y=>obtain ⟨_,e⟩:=x;exact Heap.lt_size e
 |xd fs=>obtain ⟨_,⟨_,_,_,e,_⟩,_⟩:=x;exact Heap.lt_size e
 |rng lo hi=>obtain ⟨_,_,_,e⟩:=x;exact Heap.lt_size e
 |frz ob u=>obtain ⟨e,_⟩:=x;exact Heap.lt_size e
 |tbl ps=>exact Heap.lt_size (show h.get? a=some _ from x)
 |met f y=>exact Heap.lt_size (show h.get? a=some _ from x)
 |ext φ=>obtain ⟨_,⟨_,e⟩,_⟩:=x;exact Heap.lt_size e
theorem Paired.mapP {α β:Type} {F G:α→β→Prop}:∀ {l₁:List α} {l₂:List β},Paired F l₁ l₂→(∀ a b,F a b→G a b)→Paired G l₁ l₂
 |_,_, .nil,_=> .nil
 |_,_, .cons r t,f=> .cons (f _ _ r) (Paired.mapP t f)
theorem ObjOk.stay (x:ObjOk P w H h a o) (k:∀ b u,(b=a∨H b=some (.own a))→h.get? b=some u→h'.get? b=some u)
  (ho:∀ b,H b=some (.own a)→H' b=some (.own a)) (ht:∀ b xs,H b=some (.tup xs)→H' b=some (.tup xs)):ObjOk P w H' h' a o:=by
 induction o with
 |lst xs=>obtain ⟨z,its,n,r,e⟩:=x;exact ⟨z,its,n,r,k _ _ (.inl rfl) e⟩
 |tup xs=>obtain ⟨z,its,r,ob,e,c⟩:=x;exact ⟨z,its,r,ob,k _ _ (.inl rfl) e,c⟩
 |dK kvs=>obtain ⟨z,y,vs,r,ob,es,ep,e,c⟩:=x;exact ⟨z,y,vs,r,ob,es,ep,k _ _ (.inl rfl) e,c⟩
 |dT kvs=>
  obtain ⟨z,y,xs,r,ob,es,ep,e,c⟩:=x
  exact ⟨z,y,xs,Paired.mapP r fun p q z=>⟨z.1,ht _ _ z.2.1,z.2.2⟩,ob,es,ep,k _ _ (.inl rfl) e,c⟩
 |set S n=>obtain ⟨ob,es,ep,t,e,c⟩:=x;exact ⟨ob,es,ep,t,k _ _ (.inl rfl) e,c⟩
 |ins C dx fs=>
  obtain ⟨d,z,ne,e,mA,⟨od,es,ep,e2,c⟩,r⟩:=x
  exact ⟨ho _ d,z,ne,k _ _ (.inl rfl) e,mA,⟨od,es,ep,k _ _ (.inr d) e2,c⟩,r⟩
 |own y=>obtain ⟨ob,e⟩:=x;exact ⟨ob,k _ _ (.inl rfl) e⟩
 |xd fs=>obtain ⟨mA,⟨od,es,ep,e,c⟩,r⟩:=x;exact ⟨mA,⟨od,es,ep,k _ _ (.inl rfl) e,c⟩,r⟩
 |rng lo hi=>obtain ⟨t,u,v,e⟩:=x;exact ⟨t,u,v,k _ _ (.inl rfl) e⟩
 |frz ob u ih=>obtain ⟨e,q⟩:=x;exact ⟨k _ _ (.inl rfl) e,ih q⟩
 |tbl ps=>
  have e:h.get? a=some {cls:= .none,data:= .fields ps}:=x
  show h'.get? a=some {cls:= .none,data:= .fields ps}
  exact k a _ (.inl rfl) e
 |met f y=>
  have e:h.get? a=some (PySem.W.methodObj (.ref f) (.ref y)):=x
  show h'.get? a=some (PySem.W.methodObj (.ref f) (.ref y))
  exact k a _ (.inl rfl) e
 |ext φ=>obtain ⟨p,⟨o,e⟩,st⟩:=x;exact ⟨st _ _ p fun o q=>k _ _ (.inl rfl) q,⟨o,k _ _ (.inl rfl) e⟩,st⟩
theorem HOk.lt (x:HOk P w H h) (e:H a=some o):a<h.objs.size:=(x a o e).lt
theorem HOk.fresh (x:HOk P w H h) (e:h.objs.size≤a):H a=none:=by
 cases q:H a with
 |none=>rfl
 |some u=>exact absurd (Nat.lt_of_lt_of_le (x.lt q) e) (Nat.lt_irrefl _)
theorem HOk.kept (x:HOk P w H h) (k:∀ b u,h.get? b=some u→h'.get? b=some u):HOk P w H h':=fun a o e=>
 (x a o e).stay (fun b u _ q=>k b u q) (fun _ q=>q) fun _ _ q=>q
theorem HOk.laid (x:HOk P w H h) (k:∀ b u,h.get? b=some u→h'.get? b=some u) (hp:h.objs.size≤a) (new:ObjOk P w (upd H a o) h' a o):HOk P w (upd H a o) h':=fun b u e=>by
 have hn:=x.fresh hp
 by_cases hb:b=a
 ·subst hb;rw [upd_same] at e;cases e;exact new
 ·rw [upd_ne hb] at e
  exact (x b u e).stay (fun c v _ q=>k c v q) (fun c q=>by rw [upd_ne (ne_of_none q hn)];exact q) fun c xs q=>by rw [upd_ne (ne_of_none q hn)];exact q
end
def Rd (H:Hp) (a:Addr) (u:HO):Prop:=H a=some u∨∃ o,H a=some (.frz o u)
theorem Rd.of {H:Hp} {a:Addr} {u:HO} (h:H a=some u):Rd H a u:= .inl h
theorem Rd.ok {P:Program} {w:World} {H:Hp} {h:Heap} {a:Addr} {u:HO} (r:Rd H a u) (x:HOk P w H h):ObjOk P w H h a u:=by
 rcases r with r|⟨o,r⟩
 ·exact x a u r
 ·obtain ⟨_,q⟩:=x a _ r
  exact q
def Mut:Option HO→Prop
 |some (.lst _)=>True
 |some (.dK _)=>True
 |some (.dT _)=>True
 |some (.set _ _)=>True
 |some (.ins _ _ _)=>True
 |some (.ext _)=>True
 |_=>False
section
variable {P:Program} {w:World} {H:Hp} {h h':Heap} {x e:Addr} {o':HO}
theorem HOk.write (ok:HOk P w H h) (mu:Mut (H x)) (he:e=x∨H e=some (.own x)) (k:∀ b u,b≠e→h.get? b=some u→h'.get? b=some u) (heo:∃ u,h'.get? e=some u)
  (new:ObjOk P w (upd H x o') h' x o'):HOk P w (upd H x o') h':=fun b u q=>by
 have nown:∀ c y,H c=some (.own y)→c≠x:=fun c y r z=>by subst z;rw [r] at mu;exact mu
 have ntup:∀ c xs,H c=some (.tup xs)→c≠x:=fun c xs r z=>by subst z;rw [r] at mu;exact mu
 by_cases hb:b=x
 ·subst hb;rw [upd_same] at q;cases q;exact new
 ·rw [upd_ne hb] at q
  by_cases hbe:b=e
  ·have q':H b=some (.own x):=by
    rcases he with z|z
    ·exact absurd (hbe.trans z) hb
    ·rw [hbe];exact z
   rw [q] at q';cases q'
   obtain ⟨v,hv⟩:=heo
   exact ⟨v,by rw [hbe];exact hv⟩
  ·refine (ok b u q).stay (fun c v hc r=>k c v ?_ r) (fun c r=>by rw [upd_ne (nown c b r)];exact r) fun c xs r=>by rw [upd_ne (ntup c xs r)];exact r
   rcases hc with rfl|hc
   ·exact hbe
   ·rintro rfl
    rcases he with z|z
    ·exact nown c b hc z
    ·rw [hc] at z;cases z;exact hb rfl
end
structure Un (fs ex:List Addr) (H H':Hp) (h h':Heap):Prop where
 keep:∀ b o,h.get? b=some o→H b=none→b∉fs→b∉ex→h'.get? b=some o
 slot:∀ b o,h.get? b=some o→H b=none→b∈fs→b∉ex→∃ sl,h'.get? b=some {o with slots:=sl}
 free:∀ b o,h.get? b=some o→H b=none→b∉ex→H' b=none
 there:∀ b o,h.get? b=some o→b∉ex→∃ o',h'.get? b=some o'
 tups:∀ b xs,H b=some (.tup xs)→H' b=some (.tup xs)
 frzs:∀ b o u,H b=some (.frz o u)→H' b=some (.frz o u)
 tbls:∀ b ps,H b=some (.tbl ps)→∃ more,H' b=some (.tbl (ps++more))
section
variable {fs fs' ex ex':List Addr} {H H1 H2:Hp} {h h1 h2 h':Heap} {a x e:Addr} {o:HO}
theorem Un.any (u:Un fs ex H H1 h h1) {b:Addr} {ob:Obj} (q:h.get? b=some ob) (n:H b=none) (hx:b∉ex):∃ sl,h1.get? b=some {ob with slots:=sl}:=by
 by_cases hb:b∈fs
 ·exact u.slot b ob q n hb hx
 ·exact ⟨ob.slots,u.keep b ob q n hb hx⟩
theorem Un.trans (a:Un fs ex H H1 h h1) (b:Un fs ex H1 H2 h1 h2):Un fs ex H H2 h h2 where
 keep:=fun c ob q n hc hx=>b.keep c ob (a.keep c ob q n hc hx) (a.free c ob q n hx) hc hx
 slot:=fun c ob q n hc hx=>by
  obtain ⟨sl,e1⟩:=a.slot c ob q n hc hx
  obtain ⟨sl',e2⟩:=b.slot c _ e1 (a.free c ob q n hx) hc hx
  exact ⟨sl',e2⟩
 free:=fun c ob q n hx=>by
  obtain ⟨o',e1⟩:=a.there c ob q hx
  exact b.free c o' e1 (a.free c ob q n hx) hx
 there:=fun c ob q hx=>by
  obtain ⟨o',e1⟩:=a.there c ob q hx
  exact b.there c o' e1 hx
 tups:=fun c xs q=>b.tups c xs (a.tups c xs q)
 frzs:=fun c ob xs q=>b.frzs c ob xs (a.frzs c ob xs q)
 tbls:=fun c ps q=>by
  obtain ⟨m1,e1⟩:=a.tbls c ps q
  obtain ⟨m2,e2⟩:=b.tbls c _ e1
  exact ⟨m1++m2,by rw [e2,Array.append_assoc]⟩
theorem Un.kept (k:∀ b u,h.get? b=some u→h'.get? b=some u):Un fs ex H H h h':=
 ⟨fun b ob q _ _ _=>k b ob q,fun b ob q _ _ _=>⟨ob.slots,k b ob q⟩,fun _ _ _ n _=>n,fun b ob q _=>⟨ob,k b ob q⟩,fun _ _ q=>q,fun _ _ _ q=>q,fun _ ps q=>⟨#[],by rw [q];simp⟩⟩
theorem Un.refl:Un fs ex H H h h:=Un.kept fun _ _ q=>q
theorem Un.laid (k:∀ b u,h.get? b=some u→h'.get? b=some u) (hp:h.objs.size≤a) (hn:H a=none):Un fs ex H (upd H a o) h h' where
 keep:=fun b u q _ _ _=>k b u q
 slot:=fun b u q _ _ _=>⟨u.slots,k b u q⟩
 free:=fun b u q n _=>by rw [upd_ne (Nat.ne_of_lt (Nat.lt_of_lt_of_le (Heap.lt_size q) hp))];exact n
 there:=fun b u q _=>⟨u,k b u q⟩
 tups:=fun b xs q=>by rw [upd_ne (ne_of_none q hn)];exact q
 frzs:=fun b u xs q=>by rw [upd_ne (ne_of_none q hn)];exact q
 tbls:=fun b ps q=>⟨#[],by rw [upd_ne (ne_of_none q hn),q];simp⟩
theorem Un.write (mu:Mut (H x)) (he:e=x∨H e=some (.own x)) (k:∀ b u,b≠e→h.get? b=some u→h'.get? b=some u) (heo:∃ u,h'.get? e=some u):Un fs ex H (upd H x o) h h':=by
 have hx:∀ b,H b=none→b≠x:=fun b n z=>by subst z;rw [n] at mu;exact mu
 have hb:∀ b,H b=none→b≠e:=fun b n z=>by
  subst z
  rcases he with r|r
  ·exact hx b n r
  ·rw [n] at r;cases r
 have hm:∀ b u,H b=some u→¬ Mut (some u)→b≠x:=fun b u q nm z=>by subst z;rw [q] at mu;exact nm mu
 refine ⟨fun b u q n _ _=>k b u (hb b n) q,fun b u q n _ _=>⟨u.slots,k b u (hb b n) q⟩,fun b u q n _=>by rw [upd_ne (hx b n)];exact n,fun b u q _=> ?_,
  fun b xs q=>by rw [upd_ne (hm b _ q fun z=>z)];exact q,fun b u xs q=>by rw [upd_ne (hm b _ q fun z=>z)];exact q,fun b ps q=>⟨#[],by rw [upd_ne (hm b _ q fun z=>z),q];simp⟩⟩
 by_cases hbe:b=e
 ·subst hbe;exact heo
 ·exact ⟨u,k b u hbe q⟩
theorem Un.mono (u:Un fs ex H H1 h h1) (hs:∀ b∈fs,b∈fs') (hx:∀ b∈ex,b∈ex'):Un fs' ex' H H1 h h1:=
 ⟨fun b ob q n hb he=>u.keep b ob q n (fun z=>hb (hs b z)) fun z=>he (hx b z),fun _ _ q n _ he=>u.any q n fun z=>he (hx _ z),fun b ob q n he=>u.free b ob q n fun z=>he (hx b z),fun b ob q he=>u.there b ob q fun z=>he (hx b z),u.tups,u.frzs,u.tbls⟩
end
def trk (h:Heap) (H:Hp):List Addr:=(List.range h.objs.size).filter fun a=>(H a).isSome
def hidT (h:Heap) (H:Hp):Heap:=PySem.W.hideAll h (trk h H)
theorem hidT_size (h:Heap) (H:Hp):(hidT h H).objs.size=h.objs.size:=PySem.W.hideAll_size _ _
theorem hidT_get {h:Heap} {H:Hp} {b:Addr} {o:Obj} (e:h.get? b=some o) (n:H b=none):(hidT h H).get? b=some o:=
 PySem.W.hideAll_get _ e fun hm=>by
  have q:(H b).isSome=true:=(List.mem_filter.mp hm).2
  rw [n] at q;simp at q
theorem of_hidT {h:Heap} {H:Hp} {b:Addr} {o:Obj} (e:(hidT h H).get? b=some o):h.get? b=some o∧H b=none:=by
 have e':h.get? b=some o:=PySem.W.of_hideAll (trk h H) e
 refine ⟨e',?_⟩
 cases q:H b with
 |none=>rfl
 |some x=>
  have hm:b∈trk h H:=List.mem_filter.mpr ⟨List.mem_range.mpr (Heap.lt_size e'),by simp [q]⟩
  have z:(hidT h H).get? b=none:=PySem.W.hideAll_none (trk h H) hm
  rw [z] at e;cases e
def allNews (g h:Heap) (L:Addr):List (Addr×Obj):=(List.range h.objs.size).filterMap fun a=>if a=L∨(g.get? a).isSome=true then none else (h.get? a).map fun o=>(a,o)
def rest (g h:Heap) (L d:Addr):List (Addr×Obj):=(allNews g h L).filter fun p=>decide (p.1≠d)
end L2
namespace L2
open PySem PySem.Spec PyProof.Rows
structure Mod (K:PySem.W.Frag) (mg:Str→Option Value) (base:Heap):Prop where
 kin:K.In base
 glob:base.Ns mainGlobals mg
 blt:∃ mb,base.Ns builtinsNs mb∧∀ x:Str,x≠"__name__"→mb x=bootBuiltins x
 nolimit:base.NoLimit
structure Cx where
 prog:Program
 w:World
 K:PySem.W.Frag
 mg:Str→Option Value
 base:Heap
 A:Around
 N:List Str
 s₀:Shared
 H₀:Hp
 env:Env
 outer:List Env
 stack:List Env
 ex:List Addr
 fn:Str→Bool
 calm:Bool
 pn:List (Addr×Obj)
 xe:Value→Shared→Prop
def frs (l:List Env):List Addr:=l.filterMap (·.frame)
abbrev Cx.fs (X:Cx):List Addr:=frs X.outer
def Vis (sc:Scope) (x:Str):Prop:=sc.names.lookup x=some .local∨sc.names.lookup x=some .cell∨sc.names.lookup x=some .free
def Loc (sc:Scope) (x:Str):Prop:=sc.names.lookup x=some .local∨sc.names.lookup x=some .cell
def Look (env:Env) (h:Heap) (m:Str→Option Value) (x:Str) (u:Value):Prop:=
 (env.kindOf x=some .local∧m x=some u)∨((env.kindOf x=some .cell∨env.kindOf x=some .free)∧∃ c,env.cells.lookup x=some c∧h.IsCell c (some u))
structure Cx.Ok (X:Cx):Prop where
 mod:Mod X.K X.mg X.base
 kind:X.env.scope.kind= .function
 glob:X.env.globals=mainGlobals
 blt:X.env.builtins=builtinsNs
 above:X.s₀.heap.objs.size≤X.env.locals
 inj:∀ x y c,X.env.cells.lookup x=some c→X.env.cells.lookup y=some c→x=y
 has:∀ x,(X.env.kindOf x=some .cell∨X.env.kindOf x=some .free)→∃ c,X.env.cells.lookup x=some c
 cab:∀ x c,X.fn x=true→X.env.cells.lookup x=some c→X.s₀.heap.objs.size≤c
 hd:X.calm=true→X.A.handled=none
 frames:X.A.frames=some X.stack
 stk:X.stack=X.outer∨(X.stack=X.env::X.outer∧X.env.frame=some X.env.locals)
 exf:∀ b∈X.ex,b≠X.env.locals∧∀ x c,X.env.cells.lookup x=some c→c≠b
 bs:∀ b o,X.base.get? b=some o→X.s₀.heap.get? b=some o∧X.H₀ b=none
 bsz:X.base.objs.size≤X.s₀.heap.objs.size
 noex:∀ b o,X.base.get? b=some o→b∉X.ex
 exfs:∀ b∈X.ex,b∉X.fs
 funs:X.s₀.heap.FunFrames X.base X.outer
 frf:∀ b∈X.fs,X.H₀ b=none
structure Inv (X:Cx) (pins:List (Addr×Obj)) (σ:List (Option V)) (H:Hp) (s:Shared):Prop where
 ok:X.Ok
 os:s.os=X.s₀.os
 bare:AllBare s.gens
 base:Un X.fs X.ex X.H₀ H X.s₀.heap s.heap
 loc:∃ m,s.heap.Ns X.env.locals m∧∀ (i:Nat) (x:Str) (v:V),X.N[i]? =some x→σ[i]? =some (some v)→Vis X.env.scope x→∃ u,RelV v u∧Look X.env s.heap m x u
 cell:∀ x c,X.env.cells.lookup x=some c→∃ v,s.heap.IsCell c v
 free:H X.env.locals=none
 freeC:∀ x c,X.env.cells.lookup x=some c→H c=none
 pin:∀ p∈X.pn++pins,s.heap.get? p.1=some p.2∧H p.1=none∧p.1≠X.env.locals∧p.1∉X.fs∧∀ v,p.2.data≠ .cell v
 hok:HOk X.prog X.w H s.heap
 len:σ.length=X.N.length
section
variable {X:Cx} {pins:List (Addr×Obj)} {σ:List (Option V)} {H H':Hp} {s:Shared} {h':Heap}
theorem Cx.Ok.nofr (ok:X.Ok) {b:Addr} {o:Obj} (e:X.base.get? b=some o):b∉X.fs:=fun hb=>by
 have:=(ok.funs.mem hb).1
 rw [e] at this;cases this
theorem Inv.bs (I:Inv X pins σ H s):∀ b o,X.base.get? b=some o→s.heap.get? b=some o∧H b=none:=fun b o e=>
 ⟨I.base.keep b o (I.ok.bs b o e).1 (I.ok.bs b o e).2 (I.ok.nofr e) (I.ok.noex b o e),I.base.free b o (I.ok.bs b o e).1 (I.ok.bs b o e).2 (I.ok.noex b o e)⟩
theorem Inv.bk (I:Inv X pins σ H s):∀ b o,X.base.get? b=some o→s.heap.get? b=some o:=fun b o e=>(I.bs b o e).1
theorem Inv.mod (I:Inv X pins σ H s):Mod X.K X.mg X.base:=I.ok.mod
theorem Inv.kIn (I:Inv X pins σ H s):X.K.In s.heap:=I.ok.mod.kin.keeps I.bk
theorem Inv.nolimit (I:Inv X pins σ H s):s.heap.NoLimit:=I.ok.mod.nolimit.keeps I.bk
theorem Inv.fr (I:Inv X pins σ H s):∃ m,Fr X.base X.env.locals s.heap m:=
 let ⟨m,hn,_⟩:=I.loc
 ⟨m,hn,I.bk,Nat.le_trans I.ok.bsz I.ok.above⟩
theorem Inv.lt (I:Inv X pins σ H s):X.env.locals<s.heap.objs.size:=let ⟨_,hn,_⟩:=I.loc;hn.lt
theorem Inv.sz (I:Inv X pins σ H s):X.s₀.heap.objs.size≤s.heap.objs.size:=Nat.le_trans I.ok.above (Nat.le_of_lt I.lt)
theorem Inv.nofs (I:Inv X pins σ H s) {a:Addr} (h:s.heap.objs.size≤a):a∉X.fs:=fun hb=>by
 obtain ⟨_,o,ho,_⟩:=I.ok.funs.mem hb
 exact absurd (Nat.lt_of_lt_of_le (Heap.lt_size ho) (Nat.le_trans I.sz h)) (Nat.lt_irrefl _)
theorem Inv.cne (I:Inv X pins σ H s):∀ x c,X.env.cells.lookup x=some c→c≠X.env.locals:=fun x c e z=>by
 obtain ⟨v,o,ho,hd⟩:=I.cell x c e
 obtain ⟨m,⟨o',es,ep,ho',hd',_⟩,_⟩:=I.loc
 rw [z,ho'] at ho;cases ho;rw [hd'] at hd;cases hd
theorem Inv.funs (I:Inv X pins σ H s):s.heap.FunFrames X.base X.outer:=by
 have all:∀ (l:List Env),(∀ b∈frs l,b∈X.fs)→X.s₀.heap.FunFrames X.base l→s.heap.FunFrames X.base l:=by
  intro l
  induction l with
  |nil=>intro _ _;trivial
  |cons env r ih=>
   intro hs hl
   obtain ⟨hk,⟨L,o,hf,hn,ho,hd⟩,hr⟩:=hl
   have hL:L∈X.fs:=hs L (by unfold frs;rw [List.filterMap_cons,hf];exact List.mem_cons_self)
   obtain ⟨sl,e⟩:=I.base.slot L o ho (I.ok.frf L hL) hL fun z=>I.ok.exfs L z hL
   exact ⟨hk,⟨L,_,hf,hn,e,hd⟩,ih (fun b hb=>hs b (by unfold frs;rw [List.filterMap_cons,hf];exact List.mem_cons_of_mem _ hb)) hr⟩
 exact all X.outer (fun _ hb=>hb) I.ok.funs
theorem Inv.stack (I:Inv X pins σ H s):s.heap.FunFrames X.base X.stack:=by
 rcases I.ok.stk with e|⟨e,hf⟩
 ·rw [e];exact I.funs
 ·rw [e]
  obtain ⟨m,hn,_⟩:=I.loc
  refine .cons (by rw [I.ok.kind];decide) hf hn ?_ I.funs
  exact Heap.get?_none_of_le (Nat.le_trans I.ok.bsz I.ok.above)
theorem Inv.stkSub (I:Inv X pins σ H s):∀ b∈frs X.stack,b∈X.env.locals::X.fs:=fun b hb=>by
 rcases I.ok.stk with e|⟨e,hf⟩
 ·rw [e] at hb;exact List.mem_cons_of_mem _ hb
 ·rw [e] at hb
  unfold frs at hb
  rw [List.filterMap_cons,hf] at hb
  exact hb
theorem Inv.stkFree (I:Inv X pins σ H s):∀ b∈frs X.stack,H b=none:=fun b hb=>by
 rcases List.mem_cons.mp (I.stkSub b hb) with e|hb
 ·rw [e];exact I.free
 ·obtain ⟨_,o,ho,_⟩:=I.ok.funs.mem hb
  exact I.base.free b o ho (I.ok.frf b hb) fun z=>I.ok.exfs b z hb
theorem Inv.step {g':Array GenState} {t':Nat} {d':Drawn} {ch:List Addr} (I:Inv X pins σ H s)
  (hch:∀ b∈ch,(b∈X.ex∨X.s₀.heap.objs.size≤b)∧b≠X.env.locals∧(∀ x c,X.env.cells.lookup x=some c→c≠b)∧∀ p∈X.pn++pins,p.1≠b)
  (keep:∀ b o,b≠X.env.locals→b∉X.fs→b∉ch→s.heap.get? b=some o→H b=none→h'.get? b=some o)
  (slot:∀ b o,b≠X.env.locals→b∈X.fs→b∉ch→s.heap.get? b=some o→H b=none→∃ sl,h'.get? b=some {o with slots:=sl}) (free:∀ b o,b∉ch→s.heap.get? b=some o→H b=none→H' b=none)
  (there:∀ b o,b∉ch→s.heap.get? b=some o→∃ o',h'.get? b=some o')
  (tups:∀ b xs,H b=some (.tup xs)→H' b=some (.tup xs)) (frzs:∀ b o u,H b=some (.frz o u)→H' b=some (.frz o u)) (tbls:∀ b ps,H b=some (.tbl ps)→∃ more,H' b=some (.tbl (ps++more)))
  (ns:∀ m,s.heap.Ns X.env.locals m→h'.Ns X.env.locals m) (hok:HOk X.prog X.w H' h') (hg:AllBare g'):
  Inv X pins σ H' {s with heap:=h',gens:=g',drawn:=d',toks:=t'}:=by
 have neL:∀ b o,X.s₀.heap.get? b=some o→b≠X.env.locals:=fun b o e=>Nat.ne_of_lt (Nat.lt_of_lt_of_le (Heap.lt_size e) I.ok.above)
 have neC:∀ b o,X.s₀.heap.get? b=some o→b∉X.ex→b∉ch:=fun b o e hx hb=>by
  rcases (hch b hb).1 with z|z
  ·exact hx z
  ·exact absurd (Nat.lt_of_lt_of_le (Heap.lt_size e) z) (Nat.lt_irrefl _)
 have cellK:∀ x c,X.env.cells.lookup x=some c→∀ v,s.heap.IsCell c v→h'.IsCell c v:=fun x c e v ⟨o,ho,hd⟩=>by
  have nch:c∉ch:=fun z=>(hch c z).2.2.1 x c e rfl
  by_cases hc:c∈X.fs
  ·obtain ⟨sl,q⟩:=slot c o (I.cne x c e) hc nch ho (I.freeC x c e)
   exact ⟨_,q,hd⟩
  ·exact ⟨o,keep c o (I.cne x c e) hc nch ho (I.freeC x c e),hd⟩
 refine ⟨I.ok,I.os,hg,⟨fun b o e n hb hx=> ?_,fun b o e n hb hx=> ?_,fun b o e n hx=> ?_,fun b o e hx=> ?_,fun b xs e=>tups b xs (I.base.tups b xs e),fun b o xs e=>frzs b o xs (I.base.frzs b o xs e),fun b ps e=> ?_⟩,?_,fun x c e=> ?_,?_,fun x c e=> ?_,fun p hp=> ?_,hok,I.len⟩
 ·exact keep b o (neL b o e) hb (neC b o e hx) (I.base.keep b o e n hb hx) (I.base.free b o e n hx)
 ·obtain ⟨sl,e1⟩:=I.base.slot b o e n hb hx
  obtain ⟨sl',e2⟩:=slot b _ (neL b o e) hb (neC b o e hx) e1 (I.base.free b o e n hx)
  exact ⟨sl',e2⟩
 ·obtain ⟨o',e1⟩:=I.base.there b o e hx
  exact free b o' (neC b o e hx) e1 (I.base.free b o e n hx)
 ·obtain ⟨o',e1⟩:=I.base.there b o e hx
  exact there b o' (neC b o e hx) e1
 ·obtain ⟨m1,e1⟩:=I.base.tbls b ps e
  obtain ⟨m2,e2⟩:=tbls b _ e1
  exact ⟨m1++m2,by rw [e2,Array.append_assoc]⟩
 ·obtain ⟨m,hn,hl⟩:=I.loc
  refine ⟨m,ns m hn,fun i x v e1 e2 e3=> ?_⟩
  obtain ⟨u,r,l⟩:=hl i x v e1 e2 e3
  refine ⟨u,r,?_⟩
  rcases l with l|⟨k,c,e,z⟩
  ·exact .inl l
  ·exact .inr ⟨k,c,e,cellK x c e _ z⟩
 ·obtain ⟨v,z⟩:=I.cell x c e
  exact ⟨v,cellK x c e v z⟩
 ·obtain ⟨m,⟨o,_,_,ho,_⟩,_⟩:=I.loc
  exact free _ o (fun z=>(hch _ z).2.1 rfl) ho I.free
 ·obtain ⟨v,o,ho,hd⟩:=I.cell x c e
  exact free c o (fun z=>(hch c z).2.2.1 x c e rfl) ho (I.freeC x c e)
 ·obtain ⟨e,n,ne,nf,d⟩:=I.pin p hp
  have nch:p.1∉ch:=fun z=>(hch p.1 z).2.2.2 p hp rfl
  exact ⟨keep p.1 p.2 ne nf nch e n,free p.1 p.2 nch e n,ne,nf,d⟩
theorem Inv.un {t':Nat} (I:Inv X pins σ H s) (u:Un X.fs [] H H' s.heap h') (hok:HOk X.prog X.w H' h'):Inv X pins σ H' {s with heap:=h',toks:=t'}:=by
 obtain ⟨m,⟨o,es,ep,ho,r⟩,_⟩:=id I.loc
 obtain ⟨sl,hL⟩:=u.any ho I.free (by simp)
 exact I.step (g':=s.gens) (d':=s.drawn) (ch:= []) (fun _ z=>nomatch z) (fun b o _ hb _ e n=>u.keep b o e n hb (by simp)) (fun b o _ hb _ e n=>u.slot b o e n hb (by simp)) (fun b o _ e n=>u.free b o e n (by simp)) (fun b o _ e=>u.there b o e (by simp)) u.tups u.frzs u.tbls (fun m' hm=>by
  obtain ⟨o',es',ep',ho',r'⟩:=hm
  rw [ho] at ho';cases ho'
  exact ⟨_,es',ep',hL,r'⟩) hok I.bare
theorem Inv.call {g':Array GenState} {t':Nat} {d':Drawn} {ch:List Addr} (I:Inv X pins σ H s) (u:Un (frs X.stack) ch H H' s.heap h') (hok:HOk X.prog X.w H' h') (hg:AllBare g')
  (hch:∀ b∈ch,(b∈X.ex∨X.s₀.heap.objs.size≤b)∧b≠X.env.locals∧(∀ x c,X.env.cells.lookup x=some c→c≠b)∧∀ p∈X.pn++pins,p.1≠b):
  Inv X pins σ H' {s with heap:=h',gens:=g',drawn:=d',toks:=t'}:=by
 obtain ⟨m,⟨o,es,ep,ho,r⟩,_⟩:=id I.loc
 obtain ⟨sl,hL⟩:=u.any ho I.free fun z=>(hch _ z).2.1 rfl
 exact I.step (ch:=ch) hch (fun b o hL hb hc e n=>u.keep b o e n (fun z=>(List.mem_cons.mp (I.stkSub b z)).elim hL hb) hc) (fun b o _ _ hc e n=>u.any e n hc) (fun b o hc e n=>u.free b o e n hc) (fun b o hc e=>u.there b o e hc) u.tups u.frzs u.tbls (fun m' hm=>by
  obtain ⟨o',es',ep',ho',r'⟩:=hm
  rw [ho] at ho';cases ho'
  exact ⟨_,es',ep',hL,r'⟩) hok hg
theorem Inv.turned {t':Nat} {it:Addr} (I:Inv X pins σ H s) (k:∀ b o,b≠it→s.heap.get? b=some o→h'.get? b=some o) (hn:H it=none) (hL:it≠X.env.locals)
  (h1:it∈X.ex∨X.s₀.heap.objs.size≤it) (h2:∀ x c,X.env.cells.lookup x=some c→c≠it) (h3:∀ p∈X.pn++pins,p.1≠it):Inv X pins σ H {s with heap:=h',toks:=t'}:=by
 have nit:∀ b u,H b=some u→b≠it:=fun b u e z=>by rw [z,hn] at e;cases e
 refine I.step (g':=s.gens) (d':=s.drawn) (ch:= [it]) (fun b hb=> ?_) (fun b o _ _ hc e _=>k b o (fun z=>hc (by simp [z])) e) (fun b o _ _ hc e _=>⟨o.slots,k b o (fun z=>hc (by simp [z])) e⟩) (fun _ _ _ _ n=>n)
  (fun b o hc e=>⟨o,k b o (fun z=>hc (by simp [z])) e⟩) (fun _ _ e=>e) (fun _ _ _ e=>e) (fun b ps e=>⟨#[],by rw [e];simp⟩) (fun m hm=> ?_) (fun b u e=> ?_) I.bare
 ·have e:b=it:=by simpa using hb
  subst e
  exact ⟨h1,hL,h2,h3⟩
 ·obtain ⟨o,es,ep,ho,r⟩:=hm
  exact ⟨o,es,ep,k _ o (Ne.symm hL) ho,r⟩
 ·refine (I.hok b u e).stay (fun c v hc q=>k c v ?_ q) (fun _ q=>q) fun _ _ q=>q
  rcases hc with z|z
  ·rw [z];exact nit b u e
  ·exact nit c _ z
theorem Inv.tok (I:Inv X pins σ H s) (t:Nat):Inv X pins σ H {s with toks:=t}:=I.un (h':=s.heap) (t':=t) Un.refl I.hok
theorem Inv.kept {t':Nat} (I:Inv X pins σ H s) (k:∀ b u,s.heap.get? b=some u→h'.get? b=some u):Inv X pins σ H {s with heap:=h',toks:=t'}:=I.un (Un.kept k) (I.hok.kept k)
theorem Inv.laid {a:Addr} {o:HO} {t':Nat} (I:Inv X pins σ H s) (k:∀ b u,s.heap.get? b=some u→h'.get? b=some u) (hp:s.heap.objs.size≤a) (new:ObjOk X.prog X.w (upd H a o) h' a o):
  Inv X pins σ (upd H a o) {s with heap:=h',toks:=t'}:=I.un (Un.laid k hp (I.hok.fresh hp)) (I.hok.laid k hp new)
theorem Inv.write {x e:Addr} {o:HO} {t':Nat} (I:Inv X pins σ H s) (mu:Mut (H x)) (he:e=x∨H e=some (.own x)) (k:∀ b u,b≠e→s.heap.get? b=some u→h'.get? b=some u) (heo:∃ u,h'.get? e=some u)
  (new:ObjOk X.prog X.w (upd H x o) h' x o):Inv X pins σ (upd H x o) {s with heap:=h',toks:=t'}:=I.un (Un.write mu he k heo) (I.hok.write mu he k heo new)
theorem Inv.weak {σ':List (Option V)} (I:Inv X pins σ H s) (hl:σ'.length=σ.length) (w:∀ (i:Nat) v,σ'[i]? =some (some v)→σ[i]? =some (some v)):Inv X pins σ' H s:=
 ⟨I.ok,I.os,I.bare,I.base,let ⟨m,hn,hl'⟩:=I.loc;⟨m,hn,fun i x v e1 e2 e3=>hl' i x v e1 (w i v e2) e3⟩,I.cell,I.free,I.freeC,I.pin,I.hok,hl.trans I.len⟩
theorem Inv.pins_of {pins':List (Addr×Obj)} (I:Inv X pins σ H s) (h:∀ p∈pins',s.heap.get? p.1=some p.2∧H p.1=none∧p.1≠X.env.locals∧p.1∉X.fs∧∀ v,p.2.data≠ .cell v):Inv X pins' σ H s:=
 ⟨I.ok,I.os,I.bare,I.base,I.loc,I.cell,I.free,I.freeC,fun p hp=>(List.mem_append.mp hp).elim (fun z=>I.pin p (List.mem_append_left _ z)) (h p),I.hok,I.len⟩
theorem nodup_ix {N:List Str} (hN:N.Nodup) {i j:Nat} {x:Str} (a:N[i]? =some x) (b:N[j]? =some x):i=j:=by
 obtain ⟨h1,e1⟩:=List.getElem?_eq_some_iff.mp a
 obtain ⟨h2,e2⟩:=List.getElem?_eq_some_iff.mp b
 exact (List.getElem_inj hN).mp (e1.trans e2.symm)
theorem store_ok2 {M:Model} {A:Around} {E:Value→Shared→Prop} {i:Nat} {x:Str} {v:V} {u:Value} {Q:Unit→Shared→Prop} (I:Inv X pins σ H s) (hN:X.N.Nodup) (hi:X.N[i]? =some x) (hx:Loc X.env.scope x) (r:RelV v u)
  (h:∀ s',Inv X pins (σ.set i (some v)) H s'→(∃ a,Heap.SameBut a s.heap s'.heap∧(a=X.env.locals∨X.env.cells.lookup x=some a))→Q () s') (hf:X.fn x=true∨X.env.scope.names.lookup x=some .local:=by first|exact .inl rfl|exact .inr rfl|assumption):wpAny M A (storeName X.env x u) Q E s:=by
 obtain ⟨m,hn,hl⟩:=id I.loc
 have hcls:(X.env.scope.kind== .class||(X.env.scope.kind== .module&&X.env.locals != X.env.globals))=false:=by rw [I.ok.kind];rfl
 have hiσ:i<σ.length:=by rw [I.len];exact (List.getElem?_eq_some_iff.mp hi).1
 have cne:=I.cne
 have tracked:∀ {a:Addr} {h':Heap},(∃ o,s.heap.get? a=some o∧H a=none)→Heap.SameBut a s.heap h'→HOk X.prog X.w H h':=fun {a h'} ha hs b ob e=>by
  obtain ⟨_,_,hfree⟩:=ha
  refine (I.hok b ob e).stay (fun c w' hc q=>(hs.2 c ?_).trans q) (fun _ q=>q) fun _ _ q=>q
  rintro rfl
  rcases hc with rfl|hc
  ·rw [hfree] at e;cases e
  ·rw [hfree] at hc;cases hc
 rcases hx with hk|hk
 ·refine wpAny_storeName_local hk hn (fun h' hn' hs=> ?_) hcls
  obtain ⟨oL,_,_,hoL,_⟩:=id hn
  refine h _ ⟨I.ok,I.os,I.bare,⟨fun b o e n hb hx=> ?_,fun b o e n hb hx=> ?_,I.base.free,fun b o e hx=> ?_,I.base.tups,I.base.frzs,I.base.tbls⟩,⟨_,hn',fun j y v' e1 e2 e3=> ?_⟩,fun y c e=> ?_,I.free,I.freeC,fun p hp=> ?_,tracked ⟨oL,hoL,I.free⟩ hs,by simpa using I.len⟩ ⟨_,hs, .inl rfl⟩
  ·exact (hs.2 b (Nat.ne_of_lt (Nat.lt_of_lt_of_le (Heap.lt_size e) I.ok.above))).trans (I.base.keep b o e n hb hx)
  ·obtain ⟨sl,e1⟩:=I.base.slot b o e n hb hx
   exact ⟨sl,(hs.2 b (Nat.ne_of_lt (Nat.lt_of_lt_of_le (Heap.lt_size e) I.ok.above))).trans e1⟩
  ·obtain ⟨o',e1⟩:=I.base.there b o e hx
   exact ⟨o',(hs.2 b (Nat.ne_of_lt (Nat.lt_of_lt_of_le (Heap.lt_size e) I.ok.above))).trans e1⟩
  ·by_cases hj:j=i
   ·subst hj
    rw [hi] at e1;cases e1
    rw [List.getElem?_set_self hiσ] at e2
    cases e2
    exact ⟨u,r, .inl ⟨hk,by simp⟩⟩
   ·rw [List.getElem?_set_ne (Ne.symm hj)] at e2
    obtain ⟨u',r',q⟩:=hl j y v' e1 e2 e3
    refine ⟨u',r',?_⟩
    rcases q with ⟨k,e⟩|⟨k,c,e,z⟩
    ·refine .inl ⟨k,?_⟩
     have:y≠x:=fun e=>hj (nodup_ix hN e1 (e▸hi))
     simp [this,e]
    ·exact .inr ⟨k,c,e,z.sameBut hs (cne y c e)⟩
  ·obtain ⟨w',z⟩:=I.cell y c e
   exact ⟨w',z.sameBut hs (cne y c e)⟩
  ·obtain ⟨e,n,ne,nf,d⟩:=I.pin p hp
   exact ⟨(hs.2 p.1 ne).trans e,n,ne,nf,d⟩
 ·have hfn:X.fn x=true:=by
   rcases hf with z|z
   ·exact z
   ·rw [z] at hk;cases hk
  obtain ⟨c,hc⟩:=I.ok.has x (.inl hk)
  obtain ⟨w',z⟩:=I.cell x c hc
  refine wpAny_storeName_cell I.ok.kind hk hc z (fun h' hc' hs=> ?_)
  obtain ⟨oc,hoc,hocd⟩:=id z
  refine h {s with heap:=h'} ⟨I.ok,I.os,I.bare,⟨fun b o e n hb hx=> ?_,fun b o e n hb hx=> ?_,I.base.free,fun b o e hx=> ?_,I.base.tups,I.base.frzs,I.base.tbls⟩,⟨m,hn.sameBut hs (Ne.symm (cne x c hc)),fun j y v' e1 e2 e3=> ?_⟩,fun y c' e=> ?_,I.free,I.freeC,fun p hp=> ?_,tracked ⟨oc,hoc,I.freeC x c hc⟩ hs,by simpa using I.len⟩ ⟨c,hs, .inr hc⟩
  ·exact (hs.2 b (Nat.ne_of_lt (Nat.lt_of_lt_of_le (Heap.lt_size e) (I.ok.cab x c hfn hc)))).trans (I.base.keep b o e n hb hx)
  ·obtain ⟨sl,e1⟩:=I.base.slot b o e n hb hx
   exact ⟨sl,(hs.2 b (Nat.ne_of_lt (Nat.lt_of_lt_of_le (Heap.lt_size e) (I.ok.cab x c hfn hc)))).trans e1⟩
  ·obtain ⟨o',e1⟩:=I.base.there b o e hx
   exact ⟨o',(hs.2 b (Nat.ne_of_lt (Nat.lt_of_lt_of_le (Heap.lt_size e) (I.ok.cab x c hfn hc)))).trans e1⟩
  ·by_cases hj:j=i
   ·subst hj
    rw [hi] at e1;cases e1
    rw [List.getElem?_set_self hiσ] at e2
    cases e2
    exact ⟨u,r, .inr ⟨.inl hk,c,hc,hc'⟩⟩
   ·rw [List.getElem?_set_ne (Ne.symm hj)] at e2
    obtain ⟨u',r',q⟩:=hl j y v' e1 e2 e3
    refine ⟨u',r',?_⟩
    rcases q with q|⟨k,c',e,z'⟩
    ·exact .inl q
    ·refine .inr ⟨k,c',e,z'.sameBut hs ?_⟩
     rintro rfl
     exact hj (nodup_ix hN e1 (I.ok.inj _ _ _ e hc▸hi))
  ·by_cases hcc:c'=c
   ·subst hcc;exact ⟨_,hc'⟩
   ·obtain ⟨w2,z2⟩:=I.cell y c' e
    exact ⟨w2,z2.sameBut hs hcc⟩
  ·obtain ⟨e,n,ne,nf,d⟩:=I.pin p hp
   refine ⟨(hs.2 p.1 ?_).trans e,n,ne,nf,d⟩
   intro q
   rw [q,hoc] at e
   have q':oc=p.2:=Option.some.inj e
   exact d w' (by rw [←q'];exact hocd)
theorem store_ok {M:Model} {A:Around} {E:Value→Shared→Prop} {i:Nat} {x:Str} {v:V} {u:Value} {Q:Unit→Shared→Prop} (I:Inv X pins σ H s) (hN:X.N.Nodup) (hi:X.N[i]? =some x) (hx:Loc X.env.scope x) (r:RelV v u)
  (h:∀ s',Inv X pins (σ.set i (some v)) H s'→Q () s') (hf:X.fn x=true∨X.env.scope.names.lookup x=some .local:=by first|exact .inl rfl|exact .inr rfl|assumption):wpAny M A (storeName X.env x u) Q E s:=
 store_ok2 I hN hi hx r (fun s' I' _=>h s' I') hf
theorem Inv.call' {s':Shared} {ch:List Addr} (I:Inv X pins σ H s) (ho:s'.os=s.os) (u:Un (frs X.stack) ch H H' s.heap s'.heap) (hok:HOk X.prog X.w H' s'.heap) (hg:AllBare s'.gens)
  (hch:∀ b∈ch,(b∈X.ex∨X.s₀.heap.objs.size≤b)∧b≠X.env.locals∧(∀ x c,X.env.cells.lookup x=some c→c≠b)∧∀ p∈X.pn++pins,p.1≠b):Inv X pins σ H' s':=by
 obtain ⟨h',g',d',t',o'⟩:=s'
 have e:o'=s.os:=ho
 subst e
 exact I.call (g':=g') (t':=t') (d':=d') u hok hg hch
end
abbrev XK:=Value→Option Addr×Bool→Hp→Prop
abbrev St:=List (Option V)
abbrev VK:=V→Hp→Prop
abbrev TE:=St→Hp→VK→Prop
abbrev TT:=St→Hp→(Bool→Hp→Prop)→Prop
abbrev TA:=St→Hp→(List V→Hp→Prop)→Prop
structure Ends where
 nx:St→Hp→Prop
 rt:VK
 bk:St→Hp→Prop:=fun _ _=>False
 ct:St→Hp→Prop:=fun _ _=>False
abbrev TS:=Ends→St→Hp→Prop
def EP (X:Cx) (pins:List (Addr×Obj)) (σ:St) (Q:VK) (u:Value) (s':Shared):Prop:=∃ v H',Inv X pins σ H' s'∧RelV v u∧Q v H'
def TP (X:Cx) (pins:List (Addr×Obj)) (σ:St) (Q:Bool→Hp→Prop) (b:Bool) (s':Shared):Prop:=∃ H',Inv X pins σ H' s'∧Q b H'
def AP (X:Cx) (pins:List (Addr×Obj)) (σ:St) (Q:List V→Hp→Prop) (us:List Value) (s':Shared):Prop:=∃ vs H',Inv X pins σ H' s'∧Vals vs us∧Q vs H'
def SP (X:Cx) (pins:List (Addr×Obj)) (D:Ends) (f:Flow) (s':Shared):Prop:=
 match f with
 | .next=>∃ σ' H',Inv X pins σ' H' s'∧D.nx σ' H'
 | .brk=>∃ σ' H',Inv X pins σ' H' s'∧D.bk σ' H'
 | .cont=>∃ σ' H',Inv X pins σ' H' s'∧D.ct σ' H'
 | .ret u=>∃ v σ' H',Inv X pins σ' H' s'∧RelV v u∧D.rt v H'
def PE (X:Cx) (e:Expr) (t:TE):Prop:=
 ∀ (pins:List (Addr×Obj)) (s:Shared) (σ:St) (H:Hp) (Q:VK),Inv X pins σ H s→t σ H Q→wpAny (model X.prog X.w) X.A (eval e X.env) (EP X pins σ Q) X.xe s
def PT (X:Cx) (e:Expr) (t:TT):Prop:=
 ∀ (pins:List (Addr×Obj)) (s:Shared) (σ:St) (H:Hp) (Q:Bool→Hp→Prop),Inv X pins σ H s→t σ H Q→wpAny (model X.prog X.w) X.A (isTrue e X.env (eval e X.env)) (TP X pins σ Q) X.xe s
def PW (X:Cx) (e:Expr) (t:TT):Prop:=
 ∀ (whole:Sem Value) (pins:List (Addr×Obj)) (s:Shared) (σ:St) (H:Hp) (Q:Bool→Hp→Prop),Inv X pins σ H s→t σ H Q→wpAny (model X.prog X.w) X.A (isTrue e X.env whole) (TP X pins σ Q) X.xe s
theorem PW.pt {X:Cx} {e:Expr} {t:TT} (h:PW X e t):PT X e t:=h _
def PA (X:Cx) (es:List Expr) (t:TA):Prop:=
 ∀ (pos:Pos) (pins:List (Addr×Obj)) (s:Shared) (σ:St) (H:Hp) (Q:List V→Hp→Prop),Inv X pins σ H s→t σ H Q→wpAny (model X.prog X.w) X.A (spliced (backTo pos (starEach es X.env))) (AP X pins σ Q) X.xe s
def PS (X:Cx) (st:Stmt) (t:TS):Prop:=
 ∀ (pins:List (Addr×Obj)) (s:Shared) (σ:St) (H:Hp) (D:Ends),Inv X pins σ H s→t D σ H→wpAny (model X.prog X.w) X.A (exec st X.env) (SP X pins D) X.xe s
def PSs (X:Cx) (st:List Stmt) (t:TS):Prop:=
 ∀ (pins:List (Addr×Obj)) (s:Shared) (σ:St) (H:Hp) (D:Ends),Inv X pins σ H s→t D σ H→wpAny (model X.prog X.w) X.A (execs st X.env) (SP X pins D) X.xe s
theorem thn {α:Type} {t:Sem α} {Q Q':α→Shared→Prop} {M:Model} {A:Around} {E:Value→Shared→Prop} {s:Shared} (h:wpAny M A t Q E s) (hQ:∀ a s,Q a s→Q' a s):wpAny M A t Q' E s:=wpAny_mono h hQ fun _ _ x=>x
end L2
namespace L2
open PySem PySem.Spec PyProof.Rows
section
variable {X:Cx}
def tVar (i:Nat):TE:=fun σ H Q=>∃ v,σ[i]? =some (some v)∧Q v H
def tC (v:V):TE:=fun _ H Q=>Q v H
theorem pe_var {i:Nat} {x:Str} {pos:Pos} (hN:X.N[i]? =some x) (hv:Vis X.env.scope x) (hd:(x==("__debug__":Str))=false:=by decide) (hcd:(x==("__classdict__":Str))=false:=by decide):PE X (.Name x pos) (tVar i):=by
 intro pins s σ H Q I h
 obtain ⟨v,e,h⟩:=h
 obtain ⟨m,hn,hl⟩:=I.loc
 obtain ⟨u,r,l⟩:=hl i x v hN e hv
 have fin:EP X pins σ Q u s:=⟨v,H,I,r,h⟩
 rcases l with ⟨hk,hm⟩|⟨hk,c,hc,hcell⟩
 ·exact wpAny_Name (wpAny_loadName_local I.ok.kind hk hn hm fin) hd
 ·rcases hk with hk|hk
  ·exact wpAny_Name (wpAny_loadName_cell I.ok.kind hk hc hcell fin) hd
  ·exact wpAny_Name (wpAny_loadName_free I.ok.kind hk hc hcell fin hcd) hd
theorem pe_int {i j pos}:PE X (.Constant (.int i) j pos) (tC (.int i)):=fun _ _ _ H _ I h=>wpAny_Constant_int ⟨.int i,H,I.tok _,⟨_,rfl⟩,h⟩
theorem pe_bl {b j pos}:PE X (.Constant (.bool b) j pos) (tC (.bl b)):=fun _ _ _ H _ I h=>Constant_bool ⟨.bl b,H,I,rfl,h⟩
theorem pe_non {j pos}:PE X (.Constant .none j pos) (tC .non):=fun _ _ _ H _ I h=>Constant_none ⟨.non,H,I,rfl,h⟩
theorem pe_str {x j pos}:PE X (.Constant (.str x) j pos) (tC (.str x)):=fun _ _ _ H _ I h=>Calls.Constant_str ⟨.str x,H,I.tok _,⟨_,rfl⟩,h⟩
def Gl (X:Cx) (x:Str):Prop:=X.env.kindOf x=some .globalImplicit
theorem ld_glob {E:Value→Shared→Prop} {pins:List (Addr×Obj)} {s:Shared} {σ:St} {H:Hp} {x:Str} {u:Value} {pos:Pos} {Q:Value→Shared→Prop} (I:Inv X pins σ H s) (hg:Gl X x) (hm:X.mg x=some u) (h:Q u s)
  (hd:(x==("__debug__":Str))=false:=by decide):wpAny (model X.prog X.w) X.A (eval (.Name x pos) X.env) Q E s:=
 Calls.Name_function_global I.ok.kind hg (Calls.loadGlobal_global (by rw [I.ok.glob];exact I.mod.glob.keeps I.bk) hm h) hd
theorem ld_blt {E:Value→Shared→Prop} {pins:List (Addr×Obj)} {s:Shared} {σ:St} {H:Hp} {x:Str} {u:Value} {pos:Pos} {Q:Value→Shared→Prop} (I:Inv X pins σ H s) (hg:Gl X x) (hm:X.mg x=none) (hv:bootBuiltins x=some u) (h:Q u s)
  (hn:x≠"__name__":=by decide) (hd:(x==("__debug__":Str))=false:=by decide):wpAny (model X.prog X.w) X.A (eval (.Name x pos) X.env) Q E s:=by
 obtain ⟨mb,h1,h2⟩:=I.mod.blt
 exact Calls.Name_function_global I.ok.kind hg (Calls.loadGlobal_builtin (by rw [I.ok.glob];exact I.mod.glob.keeps I.bk) hm (by rw [I.ok.blt];exact h1.keeps I.bk) ((h2 x hn).trans hv) h) hd
theorem pe_glob {x:Str} {v:V} {u:Value} {pos:Pos} (hg:Gl X x) (hm:X.mg x=some u) (r:RelV v u) (hd:(x==("__debug__":Str))=false:=by decide):PE X (.Name x pos) (tC v):=
 fun _ _ _ H _ I h=>ld_glob I hg hm ⟨v,H,I,r,h⟩ hd
theorem pe_bltn {x:Str} {v:V} {u:Value} {pos:Pos} (hg:Gl X x) (hm:X.mg x=none) (hv:bootBuiltins x=some u) (r:RelV v u) (hn:x≠"__name__":=by decide) (hd:(x==("__debug__":Str))=false:=by decide):PE X (.Name x pos) (tC v):=
 fun _ _ _ H _ I h=>ld_blt I hg hm hv ⟨v,H,I,r,h⟩ hn hd
variable {a b:Expr} {ta tb:TE} {pos:Pos}
def PC (X:Cx) (op:CmpOp) (a b:Expr) (t:TE):Prop:=
 ∀ (pins:List (Addr×Obj)) (s:Shared) (σ:St) (H:Hp) (Q:VK),Inv X pins σ H s→t σ H Q→
  wpAny (model X.prog X.w) X.A (eval a X.env) (fun v s₁=>wpAny (model X.prog X.w) X.A (eval b X.env) (fun u s₂=>wpAny (model X.prog X.w) X.A (compareOp op v u) (EP X pins σ Q) X.xe s₂) X.xe s₁) X.xe s
theorem nobehind (b:Expr) {op:CmpOp} (h:op≠ .In) (h2:op≠ .NotIn):behindInMarks op b=false:=by
 have e1:(op==CmpOp.In)=false:=by cases op<;>first|rfl|exact absurd rfl h
 have e2:(op==CmpOp.NotIn)=false:=by cases op<;>first|rfl|exact absurd rfl h2
 cases b<;>simp [behindInMarks,e1,e2]
def tIsN (ta:TE):TE:=fun σ H Q=>ta σ H fun x H1=>Q (.bl (decide (x= .non))) H1
theorem RelV.none_iff {x:V} {v:Value} (r:RelV x v):(v==Value.none)=decide (x= .non):=by
 cases x with
 |non=>cases r;rfl
 |bl _=>cases r;rfl
 |int _=>obtain ⟨t,rfl⟩:=r;rfl
 |str _=>obtain ⟨t,rfl⟩:=r;rfl
 |byt _=>obtain ⟨t,rfl⟩:=r;rfl
 |flt _=>obtain ⟨t,rfl⟩:=r;rfl
 |ref _=>cases r;rfl
 |ty _=>cases r;rfl
theorem pc_isN {j pos'} (ha:PE X a ta):PC X .Is a (.Constant .none j pos') (tIsN ta):=by
 intro pins s σ H Q I h
 refine thn (ha pins s σ H _ I h) fun v s1 ⟨x,H1,I1,r1,q1⟩=> ?_
 exact Constant_none (is_none_gen ⟨.bl _,H1,I1,by rw [r1.none_iff];rfl,q1⟩)
def tB (t:TE):TT:=fun σ H Q=>t σ H fun x H1=>∃ c,x= .bl c∧Q c H1
theorem pt_cmp {op:CmpOp} {t:TE} (h:PC X op a b t) (h1:behindInMarks op b=false:=by first|exact nobehind _ (by decide) (by decide)|rfl):PT X (.Compare a [op] [b] pos) (tB t):=by
 intro pins s σ H Q I hw
 refine wpAny_isTrue_Compare1 (thn (h pins s σ H _ I hw) fun v s1 h1=>thn h1 fun u s2 h2=>thn h2 fun c s3 ⟨x,H1,I1,r1,q1⟩=> ?_) h1
 obtain ⟨d,rfl,q⟩:=q1
 cases r1
 exact wpAny_truthy_bool ⟨H1,I1,q⟩
theorem pt_val {e:Expr} {t:TE} (h:PE X e t) (he:∀ whole,isTrue e X.env whole=(do let v ←whole;standAt e.pos;holding [v] (truthy v)):=by intro _;rfl):PT X e (tB t):=by
 intro pins s σ H Q I hw
 refine isTrue_plain (thn (h pins s σ H _ I hw) fun v s1 ⟨x,H1,I1,r1,q1⟩=> ?_) (he _)
 obtain ⟨d,rfl,q⟩:=q1
 cases r1
 exact wpAny_truthy_bool ⟨H1,I1,q⟩
variable {tA tB':TT} {rest:List Expr}
def tAnd (t u:TT):TT:=fun σ H Q=>t σ H fun c H1=>if c=true then u σ H1 Q else Q false H1
def tOr (t u:TT):TT:=fun σ H Q=>t σ H fun c H1=>if c=true then Q true H1 else u σ H1 Q
def tNot (t:TT):TT:=fun σ H Q=>t σ H fun c H1=>Q (!c) H1
theorem pw_and1 (ha:PT X a tA):PW X (.BoolOp .And [a] pos) tA:=by
 intro wh pins s σ H Q I h
 refine isTrue_and (thn (ha pins s σ H Q I h) fun c s1 e=> ?_)
 cases c with
 |true=>exact isTrue_and_nil e
 |false=>exact e
theorem pw_or1 (ha:PT X a tA):PW X (.BoolOp .Or [a] pos) tA:=by
 intro wh pins s σ H Q I h
 refine isTrue_or (thn (ha pins s σ H Q I h) fun c s1 e=> ?_)
 cases c with
 |false=>exact isTrue_or_nil e
 |true=>exact e
theorem pw_and (ha:PT X a tA) (hb:PW X (.BoolOp .And (b::rest) pos) tB'):PW X (.BoolOp .And (a::b::rest) pos) (tAnd tA tB'):=by
 intro wh pins s σ H Q I h
 refine isTrue_and (thn (ha pins s σ H _ I h) fun c s1 ⟨H1,I1,q1⟩=> ?_)
 cases c with
 |true=>exact hb wh pins s1 σ H1 Q I1 q1
 |false=>exact ⟨H1,I1,q1⟩
theorem pw_or (ha:PT X a tA) (hb:PW X (.BoolOp .Or (b::rest) pos) tB'):PW X (.BoolOp .Or (a::b::rest) pos) (tOr tA tB'):=by
 intro wh pins s σ H Q I h
 refine isTrue_or (thn (ha pins s σ H _ I h) fun c s1 ⟨H1,I1,q1⟩=> ?_)
 cases c with
 |true=>exact ⟨H1,I1,q1⟩
 |false=>exact hb wh pins s1 σ H1 Q I1 q1
theorem pt_not (ha:PT X a tA):PT X (.UnaryOp .Not a pos) (tNot tA):=by
 intro pins s σ H Q I h
 exact isTrue_not (ha pins s σ H (fun c H1=>Q (!c) H1) I h)
def tAndV (ta tb:TE):TE:=fun σ H Q=>ta σ H fun x H1=>∃ c,x= .bl c∧if c=true then tb σ H1 Q else Q (.bl false) H1
def tOrV (ta tb:TE):TE:=fun σ H Q=>ta σ H fun x H1=>∃ c,x= .bl c∧if c=true then Q (.bl true) H1 else tb σ H1 Q
def tNotV (ta:TE):TE:=fun σ H Q=>ta σ H fun x H1=>∃ c,x= .bl c∧Q (.bl (!c)) H1
theorem pe_one {op} {t:TE} (h:PE X a t):PE X (.BoolOp op [a] pos) t:=fun pins s σ H Q I hw=>BoolOp_one (h pins s σ H Q I hw)
theorem pe_and (ha:PE X a ta) (hb:PE X (.BoolOp .And (b::rest) pos) tb):PE X (.BoolOp .And (a::b::rest) pos) (tAndV ta tb):=by
 intro pins s σ H Q I h
 refine BoolOp_and (thn (ha pins s σ H _ I h) fun v s1 ⟨x,H1,I1,r1,q1⟩=> ?_)
 obtain ⟨c,rfl,q1⟩:=q1
 cases r1
 refine wpAny_truthy_bool ?_
 cases c with
 |true=>exact hb pins s1 σ H1 Q I1 q1
 |false=>exact ⟨.bl false,H1,I1,rfl,q1⟩
theorem pe_or (ha:PE X a ta) (hb:PE X (.BoolOp .Or (b::rest) pos) tb):PE X (.BoolOp .Or (a::b::rest) pos) (tOrV ta tb):=by
 intro pins s σ H Q I h
 refine BoolOp_or (thn (ha pins s σ H _ I h) fun v s1 ⟨x,H1,I1,r1,q1⟩=> ?_)
 obtain ⟨c,rfl,q1⟩:=q1
 cases r1
 refine wpAny_truthy_bool ?_
 cases c with
 |false=>exact hb pins s1 σ H1 Q I1 q1
 |true=>exact ⟨.bl true,H1,I1,rfl,q1⟩
theorem pe_not (ha:PE X a ta):PE X (.UnaryOp .Not a pos) (tNotV ta):=by
 intro pins s σ H Q I h
 refine UnaryOp_ (thn (ha pins s σ H _ I h) fun v s1 ⟨x,H1,I1,r1,q1⟩=> ?_)
 obtain ⟨c,rfl,q1⟩:=q1
 cases r1
 exact not_of (wpAny_truthy_bool ⟨.bl (!c),H1,I1,rfl,q1⟩)
def tIf (t:TT) (ta tb:TE):TE:=fun σ H Q=>t σ H fun c H1=>if c=true then ta σ H1 Q else tb σ H1 Q
theorem pe_ifExp {c:Expr} (hc:PT X c tA) (ha:PE X a ta) (hb:PE X b tb):PE X (.IfExp c a b pos) (tIf tA ta tb):=by
 intro pins s σ H Q I h
 refine wpAny_IfExp (thn (hc pins s σ H _ I h) fun d s1 ⟨H1,I1,q1⟩=> ?_)
 cases d with
 |true=>exact ha pins s1 σ H1 Q I1 q1
 |false=>exact hb pins s1 σ H1 Q I1 q1
end
end L2
namespace L2
open PySem PySem.Spec PyProof.Rows
def SqL (K:PySem.W.Frag) (H:Hp) (a:Addr) (xs:List V):Prop:=
 Rd H a (.lst xs)∨
  ∃ (o:Obj) (its:Array Value) (n:Nat),K.lookup a=some o∧o.cls= .type "list"∧o.dict=none∧o.data= .seq its n∧its.size≤sizeLine∧Vals xs its.toList
def SqT (K:PySem.W.Frag) (H:Hp) (a:Addr) (xs:List V):Prop:=
 Rd H a (.tup xs)∨
  ∃ (o:Obj) (its:Array Value) (n:Nat),K.lookup a=some o∧o.cls= .type "tuple"∧o.data= .seq its n∧its.size≤sizeLine∧Vals xs its.toList
def absV:Value→Option V
 | .none=>some .non
 | .bool b=>some (.bl b)
 | .int i _=>some (.int i)
 | .str x _=>some (.str x)
 | .bytes b _=>some (.byt b)
 | .float b _=>some (.flt b)
 | .ref a=>some (.ref a)
 | .type n=>some (.ty n)
 |_=>none
theorem RelV.abs {x:V} {u:Value} (r:RelV x u):absV u=some x:=by
 cases x with
 |non=>cases r;rfl
 |bl _=>cases r;rfl
 |int _=>obtain ⟨t,rfl⟩:=r;rfl
 |str _=>obtain ⟨t,rfl⟩:=r;rfl
 |byt _=>obtain ⟨t,rfl⟩:=r;rfl
 |flt _=>obtain ⟨t,rfl⟩:=r;rfl
 |ref _=>cases r;rfl
 |ty _=>cases r;rfl
theorem RelV.inj {x y:V} {u:Value} (r:RelV x u) (q:RelV y u):x=y:=Option.some.inj (r.abs.symm.trans q.abs)
theorem Vals.inj:∀ {xs ys:List V} {us:List Value},Vals xs us→Vals ys us→xs=ys
 |_,_,_, .nil, .nil=>rfl
 |_,_,_, .cons r t, .cons r' t'=>by rw [r.inj r',Vals.inj t t']
section
variable {X:Cx} {pins:List (Addr×Obj)} {σ:St} {H:Hp} {s:Shared} {a:Addr} {xs ys:List V}
theorem SqL.of {K:PySem.W.Frag} (h:H a=some (.lst xs)):SqL K H a xs:= .inl (.inl h)
theorem SqT.of {K:PySem.W.Frag} (h:H a=some (.tup xs)):SqT K H a xs:= .inl (.inl h)
theorem Inv.list (I:Inv X pins σ H s) (h:SqL X.K H a xs):∃ its:List Value,Vals xs its∧PlainL s.heap a its.toArray∧xs.length≤sizeLine:=by
 rcases h with h|⟨o,its,n,hk,hc,hd,hs,hz,r⟩
 ·obtain ⟨z,its,n,r,e⟩:=h.ok I.hok
  exact ⟨its,r,⟨_,n,e,rfl,rfl,rfl⟩,z⟩
 ·refine ⟨its.toList,r,⟨o,n,I.kIn a o hk,hc,hd,by simpa using hs⟩,?_⟩
  have e:=r.length
  simp only [Array.length_toList] at e
  omega
theorem Inv.tuple (I:Inv X pins σ H s) (h:SqT X.K H a xs):∃ its:List Value,Vals xs its∧IsTup s.heap a its.toArray∧xs.length≤sizeLine:=by
 rcases h with h|⟨o,its,n,hk,hc,hs,hz,r⟩
 ·obtain ⟨z,its,r,p⟩:=h.ok I.hok
  exact ⟨its,r,p,z⟩
 ·refine ⟨its.toList,r,⟨o,I.kIn a o hk,hc,n,by simpa using hs⟩,?_⟩
  have e:=r.length
  simp only [Array.length_toList] at e
  omega
theorem Inv.list_inj (I:Inv X pins σ H s) (h:SqL X.K H a xs) (h':SqL X.K H a ys):xs=ys:=by
 obtain ⟨its,r,⟨o,n,e,_,_,d⟩,_⟩:=I.list h
 obtain ⟨its',r',⟨o',n',e',_,_,d'⟩,_⟩:=I.list h'
 rw [e] at e';cases e'
 rw [d] at d'
 injection d' with d1 _
 have:its=its':=by simpa using congrArg Array.toList d1
 subst this
 exact r.inj r'
theorem Inv.tuple_inj (I:Inv X pins σ H s) (h:SqT X.K H a xs) (h':SqT X.K H a ys):xs=ys:=by
 obtain ⟨its,r,⟨o,e,_,n,d⟩,_⟩:=I.tuple h
 obtain ⟨its',r',⟨o',e',_,n',d'⟩,_⟩:=I.tuple h'
 rw [e] at e';cases e'
 rw [d] at d'
 injection d' with d1 _
 have:its=its':=by simpa using congrArg Array.toList d1
 subst this
 exact r.inj r'
end
abbrev Cx.wish (X:Cx) (E:Value→Shared→Prop):Cx:= {X with xe:=E}
abbrev Cx.nox (X:Cx):Cx:=X.wish fun _ _=>False
theorem Cx.Ok.wish {X:Cx} (ok:X.Ok) (E:Value→Shared→Prop):(X.wish E).Ok:=
 ⟨ok.mod,ok.kind,ok.glob,ok.blt,ok.above,ok.inj,ok.has,ok.cab,ok.hd,ok.frames,ok.stk,ok.exf,ok.bs,ok.bsz,ok.noex,ok.exfs,ok.funs,ok.frf⟩
theorem Cx.Ok.unwish {X:Cx} {E:Value→Shared→Prop} (ok:(X.wish E).Ok):X.Ok:=
 ⟨ok.mod,ok.kind,ok.glob,ok.blt,ok.above,ok.inj,ok.has,ok.cab,ok.hd,ok.frames,ok.stk,ok.exf,ok.bs,ok.bsz,ok.noex,ok.exfs,ok.funs,ok.frf⟩
section
variable {X:Cx} {pins:List (Addr×Obj)} {σ:St} {H:Hp} {s:Shared} {E:Value→Shared→Prop}
theorem Inv.wish (I:Inv X pins σ H s) (E:Value→Shared→Prop):Inv (X.wish E) pins σ H s:=⟨I.ok.wish E,I.os,I.bare,I.base,I.loc,I.cell,I.free,I.freeC,I.pin,I.hok,I.len⟩
theorem Inv.unwish (I:Inv (X.wish E) pins σ H s):Inv X pins σ H s:=⟨I.ok.unwish,I.os,I.bare,I.base,I.loc,I.cell,I.free,I.freeC,I.pin,I.hok,I.len⟩
theorem SP.unwish {D:Ends} {f:Flow} {s':Shared} (h:SP (X.wish E) pins D f s'):SP X pins D f s':=by
 cases f with
 |next=>obtain ⟨σ',H',I,q⟩:=h;exact ⟨σ',H',I.unwish,q⟩
 |brk=>obtain ⟨σ',H',I,q⟩:=h;exact ⟨σ',H',I.unwish,q⟩
 |cont=>obtain ⟨σ',H',I,q⟩:=h;exact ⟨σ',H',I.unwish,q⟩
 |ret u=>obtain ⟨v,σ',H',I,r,q⟩:=h;exact ⟨v,σ',H',I.unwish,r,q⟩
theorem PE.nox {e:Expr} {t:TE} (h:PE X.nox e t):PE X e t:=fun pins s σ H Q I hw=>
 wpAny_mono (h pins s σ H Q (I.wish _) hw) (fun _ _ ⟨v,H',I',r,q⟩=>⟨v,H',I'.unwish,r,q⟩) fun _ _ z=>False.elim z
theorem PT.nox {e:Expr} {t:TT} (h:PT X.nox e t):PT X e t:=fun pins s σ H Q I hw=>
 wpAny_mono (h pins s σ H Q (I.wish _) hw) (fun _ _ ⟨H',I',q⟩=>⟨H',I'.unwish,q⟩) fun _ _ z=>False.elim z
theorem PSs.nox {st:List Stmt} {t:TS} (h:PSs X.nox st t):PSs X st t:=fun pins s σ H D I hw=>
 wpAny_mono (h pins s σ H D (I.wish _) hw) (fun _ _ q=>q.unwish) fun _ _ z=>False.elim z
end
section
variable {X:Cx} {st:Stmt} {rest:List Stmt} {t u:TS} {e:Expr} {te:TE} {pos:Pos}
def tNext:TS:=fun D σ H=>D.nx σ H
def tSeq (t u:TS):TS:=fun D σ H=>t {D with nx:=u D} σ H
theorem pss_nil:PSs X [] tNext:=fun _ _ σ H _ I h=>wpAny_execs_nil ⟨σ,H,I,h⟩
theorem pss_cons (h1:PS X st t) (h2:PSs X rest u):PSs X (st::rest) (tSeq t u):=by
 intro pins s σ H D I h
 refine wpAny_execs_cons (thn (h1 pins s σ H {D with nx:=u D} I h) fun f s1 q=> ?_)
 cases f with
 |next=>
  obtain ⟨σ',H',I',q⟩:=q
  exact h2 pins s1 σ' H' D I' q
 |ret v=>exact q
 |brk=>exact q
 |cont=>exact q
theorem pss_one (h1:PS X st t):PSs X [st] t:=by
 intro pins s σ H D I h
 refine wpAny_execs_cons (thn (h1 pins s σ H D I h) fun f s1 q=> ?_)
 cases f with
 |next=>exact wpAny_execs_nil q
 |ret v=>exact q
 |brk=>exact q
 |cont=>exact q
theorem Inv.quiet {pins:List (Addr×Obj)} {σ:St} {H:Hp} {s:Shared} (I:Inv X pins σ H s):interactive X.env=false:=by simp [interactive,I.ok.kind]
def tDrop (te:TE):TS:=fun D σ H=>te σ H fun _ H1=>D.nx σ H1
theorem ps_expr (he:PE X e te) (hs:swapsWith e none pos.line X.env=pure false:=by rfl):PS X (.Expr e pos) (tDrop te):=by
 intro pins s σ H D I h
 exact wpAny_Expr_any (thn (he pins s σ H _ I h) fun v s1 ⟨x,H1,I1,r1,q1⟩=>⟨σ,H1,I1,q1⟩) I.quiet hs
def tRet (te:TE):TS:=fun D σ H=>te σ H D.rt
theorem ps_ret (he:PE X e te):PS X (.Return (some e) pos) (tRet te):=by
 intro pins s σ H D I h
 exact wpAny_Return_some (thn (he pins s σ H _ I h) fun v s1 ⟨x,H1,I1,r1,q1⟩=>⟨x,σ,H1,I1,r1,q1⟩)
def tIfS (c:TT) (t u:TS):TS:=fun D σ H=>c σ H fun b H1=>if b=true then t D σ H1 else u D σ H1
theorem ps_if {c:Expr} {a b:List Stmt} {tc:TT} (hc:PT X c tc) (ha:PSs X a t) (hb:PSs X b u):PS X (.If c a b pos) (tIfS tc t u):=by
 intro pins s σ H D I h
 refine wpAny_If (thn (hc pins s σ H _ I h) fun d s1 ⟨H1,I1,q1⟩=> ?_)
 cases d with
 |true=>exact ha pins s1 σ H1 D I1 q1
 |false=>exact hb pins s1 σ H1 D I1 q1
def tNever:TS:=fun _ _ _=>False
theorem ps_never:PS X st tNever:=fun _ _ _ _ _ _ h=>h.elim
end
abbrev TG:=V→St→Hp→(St→Hp→Prop)→Prop
abbrev TGs:=List V→St→Hp→(St→Hp→Prop)→Prop
def PG (X:Cx) (target:Expr) (t:TG):Prop:=
 ∀ (pins:List (Addr×Obj)) (s:Shared) (σ:St) (H:Hp) (v:V) (u:Value) (Q:St→Hp→Prop),Inv X pins σ H s→RelV v u→t v σ H Q→
  wpAny (model X.prog X.w) X.A (assign target X.env u) (fun _ s'=>∃ σ' H',Inv X pins σ' H' s'∧Q σ' H') X.xe s
def PGs (X:Cx) (ts:List Expr) (t:TGs):Prop:=
 ∀ (pins:List (Addr×Obj)) (s:Shared) (σ:St) (H:Hp) (vs:List V) (us:List Value) (Q:St→Hp→Prop),Inv X pins σ H s→Vals vs us→t vs σ H Q→
  wpAny (model X.prog X.w) X.A (assignInOrder ((assignEach ts X.env).map (·.2)) us) (fun _ s'=>∃ σ' H',Inv X pins σ' H' s'∧Q σ' H') X.xe s
section
variable {X:Cx} {pos:Pos}
def gName (i:Nat):TG:=fun v σ H Q=>Q (σ.set i (some v)) H
theorem pg_name {i:Nat} {x:Str} (hN:X.N.Nodup) (hi:X.N[i]? =some x) (hx:Loc X.env.scope x) (hf:X.fn x=true∨X.env.scope.names.lookup x=some .local:=by first|exact .inl rfl|exact .inr rfl|assumption):PG X (.Name x pos) (gName i):=by
 intro pins s σ H v u Q I r h
 exact wpAny_assign_Name (store_ok I hN hi hx r (fun s' I'=>⟨_,H,I',h⟩) hf)
def gNil:TGs:=fun vs σ H Q=>vs= []∧Q σ H
def gCons (t:TG) (u:TGs):TGs:=fun vs σ H Q=>∃ v r,vs=v::r∧t v σ H fun σ' H'=>u r σ' H' Q
theorem pgs_nil:PGs X [] gNil:=by
 intro pins s σ H vs us Q I r h
 obtain ⟨e,h⟩:=h
 subst e
 cases r
 exact assignInOrder_nil ⟨σ,H,I,h⟩
theorem pgs_cons {e:Expr} {es:List Expr} {t:TG} {u:TGs} (h1:PG X e t) (h2:PGs X es u)
  (hs:(assignEach (e::es) X.env).map (·.2)=assign e X.env::(assignEach es X.env).map (·.2):=by rfl):PGs X (e::es) (gCons t u):=by
 intro pins s σ H vs us Q I r h
 obtain ⟨v,vr,e1,h⟩:=h
 subst e1
 cases r with
 |cons r rr=>
  rw [hs]
  refine assignInOrder_cons (thn (h1 pins s σ H _ _ _ I r h) fun _ s1 ⟨σ1,H1,I1,q1⟩=> ?_)
  exact h2 pins s1 σ1 H1 _ _ Q I1 rr q1
def gTup (K:PySem.W.Frag) (n:Nat) (t:TGs):TG:=fun v σ H Q=>∃ a xs,v= .ref a∧SqT K H a xs∧xs.length=n∧t xs σ H Q
theorem pg_tup {es:List Expr} {k:Nat} {t:TGs} {n:Nat} (hc:X.calm=true) (h:PGs X es t)
  (hn:(assignEach es X.env).length=n:=by rfl) (hst:(assignEach es X.env).findIdx? (·.1)=none:=by rfl):PG X (.Tuple es k pos) (gTup X.K n t):=by
 intro pins s σ H v u Q I r hw
 obtain ⟨a,xs,e1,hq,hl,hw⟩:=hw
 subst e1
 cases r
 obtain ⟨its,rv,ht,hz⟩:=I.tuple hq
 refine assign_Tuple_tuple (I.ok.hd hc) ht (by simp [hn,←hl,rv.length]) hst fun h' hx=> ?_
 have I1:Inv X pins σ H {s with heap:=h'}:=I.kept (t':=s.toks) fun b o e=>hx b o (Nat.ne_of_lt (Heap.lt_size e)) e
 exact h pins _ σ H xs _ Q I1 (by simpa using rv) hw
def tAsg (te:TE) (g:TG):TS:=fun D σ H=>te σ H fun x H1=>g x σ H1 D.nx
theorem ps_set {i:Nat} {x:Str} {e:Expr} {te:TE} {pos':Pos} (hN:X.N.Nodup) (hi:X.N[i]? =some x) (hx:Loc X.env.scope x) (he:PE X e te) (hs:swapsWith e (some (.Name x pos')) pos.line X.env=pure false:=by rfl) (hf:X.fn x=true∨X.env.scope.names.lookup x=some .local:=by first|exact .inl rfl|exact .inr rfl|assumption):
  PS X (.Assign [.Name x pos'] e pos) (tAsg te (gName i)):=by
 intro pins s σ H D I h
 refine wpAny_Assign_Name (thn (he pins s σ H _ I h) fun v s1 ⟨y,H1,I1,r1,q1⟩=> ?_) hs
 exact store_ok I1 hN hi hx r1 (fun s2 I2=>⟨_,H1,I2,q1⟩) hf
end
section
variable {X:Cx} {pos:Pos}
end
structure It where
 go:Nat→Hp→Prop
 yld:Nat→Hp→V→Hp→Prop
 stop:Nat→Hp→Prop
def FpOk (X:Cx) (pins:List (Addr×Obj)) (H:Hp) (b:Addr):Prop:=
 H b=none∧b≠X.env.locals∧b∉X.fs∧(b∈X.ex∨X.s₀.heap.objs.size≤b)∧(∀ x c,X.env.cells.lookup x=some c→c≠b)∧∀ p∈X.pn++pins,p.1≠b
theorem Inv.fpOk {X:Cx} {pins:List (Addr×Obj)} {σ:St} {H H':Hp} {s:Shared} {b:Addr} (I:Inv X pins σ H s) (hb:s.heap.objs.size≤b) (hn:H' b=none):FpOk X pins H' b:=by
 refine ⟨hn,Nat.ne_of_gt (Nat.lt_of_lt_of_le I.lt hb),I.nofs hb, .inr (Nat.le_trans I.sz hb),fun x c e z=> ?_,fun p hp z=> ?_⟩
 ·obtain ⟨v,q⟩:=I.cell x c e
  exact absurd (Nat.lt_of_lt_of_le q.lt (by rw [z];exact hb)) (Nat.lt_irrefl _)
 ·exact absurd (Nat.lt_of_lt_of_le (Heap.lt_size (I.pin p hp).1) (by rw [z];exact hb)) (Nat.lt_irrefl _)
structure Turn (P:Program) (w:World) (K:PySem.W.Frag) (tg:Expr) (J:It) (fp:List Addr) (it:Addr) (tn:Nat→Heap→Prop):Prop where
 mem:it∈fp
 obj:∀ i h,tn i h→∀ b∈fp,∃ o,h.get? b=some o∧∀ v,o.data≠ .cell v
 keep:∀ i h h',tn i h→(∀ b∈fp,∀ o,h.get? b=some o→h'.get? b=some o)→tn i h'
 item:∀ (X:Cx),X.prog=P→X.w=w→X.K=K→X.calm=true→∀ (i:Nat) (pins:List (Addr×Obj)) (s:Shared) (σ:St) (H:Hp) (E:Value→Shared→Prop),Inv X pins σ H s→(∀ b∈fp,FpOk X pins H b)→tn i s.heap→J.go i H→
  wpAny (model P w) X.A (pyNext (.ref it)) (fun r s1=>∃ u,r=some u∧
   wpAny (model P w) X.A (letOwnedTupleGo tg (.ref it) u) (fun _ s2=>∃ x H',Inv X pins σ H' s2∧RelV x u∧J.yld i H x H'∧tn (i+1) s2.heap∧∀ b∈fp,H' b=none) E s1) E s
 done:∀ (X:Cx),X.prog=P→X.w=w→X.K=K→X.calm=true→∀ (i:Nat) (pins:List (Addr×Obj)) (s:Shared) (σ:St) (H:Hp) (E:Value→Shared→Prop),Inv X pins σ H s→(∀ b∈fp,FpOk X pins H b)→tn i s.heap→J.stop i H→
  wpAny (model P w) X.A (pyNext (.ref it)) (fun r s1=>r=none∧Inv X pins σ H s1) E s
 self:∀ (A:Around) (i:Nat) (s:Shared) (Q:Value→Shared→Prop) (E:Value→Shared→Prop),tn i s.heap→Q (.ref it) s→wpAny (model P w) A (pyIter (.ref it)) Q E s
abbrev TI:=St→Hp→(It→Hp→Prop)→Prop
def PIE (X:Cx) (pins:List (Addr×Obj)) (σ:St) (tg:Expr) (R:It→Hp→Prop) (itv:Value) (s2:Shared):Prop:=
 ∃ (it:Addr) (fp:List Addr) (tn:Nat→Heap→Prop) (J:It) (H':Hp),itv= .ref it∧Inv X pins σ H' s2∧Turn X.prog X.w X.K tg J fp it tn∧tn 0 s2.heap∧(∀ b∈fp,FpOk X pins H' b)∧R J H'
def PI (X:Cx) (tg iter:Expr) (wi:TI):Prop:=
 ∀ (pins:List (Addr×Obj)) (s:Shared) (σ:St) (H:Hp) (R:It→Hp→Prop),Inv X pins σ H s→wi σ H R→
  wpAny (model X.prog X.w) X.A (eval iter X.env) (fun v s1=>wpAny (model X.prog X.w) X.A (pyIter v) (PIE X pins σ tg R) X.xe s1) X.xe s
theorem go_of {M : Model} {A : Around} {E : Value → Shared → Prop} {s : Shared} {tg : Expr} {it : Addr} {u : Value} {o : Obj} {n : String} {vs : Array Value} {Q : Unit → Shared → Prop} (ho : s.heap.get? it = some o) (hc : o.cls = .type n) (hd : o.data = .fields vs)
    (hn : ["enumerate", "zip", "dict_itemiterator", "dict_reverseitemiterator", "odict_iterator", "itertools.zip_longest", "itertools.pairwise"].contains n = false) (hQ : Q () s) : wpAny M A (letOwnedTupleGo tg (.ref it) u) Q E s := by
  unfold letOwnedTupleGo
  cases tg <;> first
    | exact wpAny_pure hQ
    | (cases u <;> first
        | exact wpAny_pure hQ
        | (refine wpAny_bind (wpAny_load ho ?_)
           rw [hc, hd]
           show wpAny M A (if (["enumerate", "zip", "dict_itemiterator", "dict_reverseitemiterator", "odict_iterator", "itertools.zip_longest", "itertools.pairwise"].contains n && vs[0]? == some (rawInt _)) = true then _ else _) Q E s
           rw [if_neg (by intro h; rw [hn, Bool.false_and] at h; cases h)]
           exact wpAny_pure hQ))
def Itl (K:PySem.W.Frag) (a:Addr):It:=
 ⟨fun i H=>∃ xs x,SqL K H a xs∧xs[i]? =some x,fun i H x H'=>H'=H∧∀ xs,SqL K H a xs→xs[i]? =some x,fun i H=>∃ xs,SqL K H a xs∧xs.length≤i⟩
def Itt (K:PySem.W.Frag) (a:Addr):It:=
 ⟨fun i H=>∃ xs x,SqT K H a xs∧xs[i]? =some x,fun i H x H'=>H'=H∧∀ xs,SqT K H a xs→xs[i]? =some x,fun i H=>∃ xs,SqT K H a xs∧xs.length≤i⟩
def Itr (lo:Int) (n:Nat):It:=⟨fun i _=>i<n,fun i H x H'=>H'=H∧x= .int (lo+i),fun i _=>n≤i⟩
theorem turn_list {P:Program} {w:World} {K:PySem.W.Frag} {tg:Expr} (a it:Addr):Turn P w K tg (Itl K a) [it] it (fun i h=>h.IsListIter it a i) where
 mem:=by simp
 obj:=fun i h st b hb=>by
  have e:b=it:=by simpa using hb
  subst e
  obtain ⟨o,e,c,d⟩:=st
  exact ⟨o,e,fun v z=>by rw [d] at z;cases z⟩
 keep:=fun i h h' st k=>st.at fun o e=>k it (by simp) o e
 item:=by
  intro X hP hw hK hc i pins s σ H E I hf st hg
  subst hP hw hK
  obtain ⟨xs,x,hq,hx⟩:=hg
  obtain ⟨its,rv,p,hz⟩:=I.list hq
  obtain ⟨u,hu,ru⟩:=rv.get hx
  obtain ⟨f0,f1,f2,f3,f4,f5⟩:=hf it (by simp)
  refine wpAny_pyNext_list_item st p.isList (x:=u) (by simpa using hu) fun h' st' sb=> ?_
  have I1:Inv X pins σ H {s with heap:=h'}:=I.turned (t':=s.toks) (fun b o hb e=>(sb.2 b hb).trans e) f0 f1 f3 f4 f5
  obtain ⟨o,e,c,d⟩:=id st'
  exact ⟨u,rfl,go_of (s:= {s with heap:=h'}) e c d (by decide) ⟨x,H,I1,ru,⟨rfl,fun ys hy=>by rw [I.list_inj hy hq];exact hx⟩,st',fun b hb=>(hf b hb).1⟩⟩
 done:=by
  intro X hP hw hK hc i pins s σ H E I hf st hg
  subst hP hw hK
  obtain ⟨xs,hq,hx⟩:=hg
  obtain ⟨its,rv,p,hz⟩:=I.list hq
  obtain ⟨f0,f1,f2,f3,f4,f5⟩:=hf it (by simp)
  have hl:=rv.length
  exact wpAny_pyNext_list_end (I.ok.hd hc) st p.isList (by simp;omega) fun h' eb=>⟨rfl,I.turned (t':=s.toks) (fun b o hb e=>eb b o hb e) f0 f1 f3 f4 f5⟩
 self:=fun _ _ _ _ _ st h=>wpAny_pyIter_listiter st h
theorem turn_tuple {P:Program} {w:World} {K:PySem.W.Frag} {tg:Expr} (a it:Addr):Turn P w K tg (Itt K a) [it] it (fun i h=>h.IsTupleIter it a i) where
 mem:=by simp
 obj:=fun i h st b hb=>by
  have e:b=it:=by simpa using hb
  subst e
  obtain ⟨o,e,c,d⟩:=st
  exact ⟨o,e,fun v z=>by rw [d] at z;cases z⟩
 keep:=fun i h h' st k=>st.at fun o e=>k it (by simp) o e
 item:=by
  intro X hP hw hK hc i pins s σ H E I hf st hg
  subst hP hw hK
  obtain ⟨xs,x,hq,hx⟩:=hg
  obtain ⟨its,rv,p,hz⟩:=I.tuple hq
  obtain ⟨u,hu,ru⟩:=rv.get hx
  obtain ⟨f0,f1,f2,f3,f4,f5⟩:=hf it (by simp)
  refine wpAny_pyNext_tuple_item st (show s.heap.IsTuple a its.toArray from p) (x:=u) (by simpa using hu) fun h' st' sb=> ?_
  have I1:Inv X pins σ H {s with heap:=h'}:=I.turned (t':=s.toks) (fun b o hb e=>(sb.2 b hb).trans e) f0 f1 f3 f4 f5
  obtain ⟨o,e,c,d⟩:=id st'
  exact ⟨u,rfl,go_of (s:= {s with heap:=h'}) e c d (by decide) ⟨x,H,I1,ru,⟨rfl,fun ys hy=>by rw [I.tuple_inj hy hq];exact hx⟩,st',fun b hb=>(hf b hb).1⟩⟩
 done:=by
  intro X hP hw hK hc i pins s σ H E I hf st hg
  subst hP hw hK
  obtain ⟨xs,hq,hx⟩:=hg
  obtain ⟨its,rv,p,hz⟩:=I.tuple hq
  obtain ⟨f0,f1,f2,f3,f4,f5⟩:=hf it (by simp)
  have hl:=rv.length
  exact wpAny_pyNext_tuple_end (I.ok.hd hc) st (show s.heap.IsTuple a its.toArray from p) (by simp;omega) fun h' eb=>⟨rfl,I.turned (t':=s.toks) (fun b o hb e=>eb b o hb e) f0 f1 f3 f4 f5⟩
 self:=fun _ _ _ _ _ st h=>wpAny_pyIter_tupleiter st h
theorem turn_range {P:Program} {w:World} {K:PySem.W.Frag} {tg:Expr} (it:Addr) (lo:Int) (n:Nat):Turn P w K tg (Itr lo n) [it] it (fun i h=>IsRangeIter h it (lo+(i:Nat)*1) ((n:Int)-(i:Nat)) 1) where
 mem:=by simp
 obj:=fun i h st b hb=>by
  have e:b=it:=by simpa using hb
  subst e
  exact ⟨_,st,fun v z=>by
   have z':Data.fields _=Data.cell v:=z
   cases z'⟩
 keep:=fun i h h' st k=>k it (by simp) _ st
 item:=by
  intro X hP hw hK hc i pins s σ H E I hf st hg
  subst hP hw hK
  obtain ⟨f0,f1,f2,f3,f4,f5⟩:=hf it (by simp)
  have W:=Walks.range (prog:=X.prog) (w:=X.w) (I.ok.hd hc) it lo 1 n
  refine W.item i s _ _ hg st fun v h' tk hv st' kk=> ?_
  obtain ⟨t,rfl⟩:=hv
  have I1:Inv X pins σ H {s with heap:=h',toks:=tk}:=I.turned (fun b o hb e=>kk b o (by simpa using hb) e) f0 f1 f3 f4 f5
  refine ⟨_,rfl,go_of (s:= {s with heap:=h',toks:=tk}) (n:="range_iterator") st' rfl rfl (by decide) ⟨.int (lo+i),H,I1,⟨t,?_⟩,⟨rfl,rfl⟩,st',fun b hb=>(hf b hb).1⟩⟩
  rw [Int.mul_one]
 done:=by
  intro X hP hw hK hc i pins s σ H E I hf st hg
  subst hP hw hK
  obtain ⟨f0,f1,f2,f3,f4,f5⟩:=hf it (by simp)
  exact wpAny_pyNext_range_end (I.ok.hd hc) st (by have:n≤i:=hg;omega) fun h' eb=>⟨rfl,I.turned (t':=s.toks) (fun b o hb e=>eb b o hb e) f0 f1 f3 f4 f5⟩
 self:=fun _ _ _ _ _ st h=>wpAny_pyIter_rangeiter st h
end L2
namespace L2
open PySem PySem.Spec PyProof.Rows
section
variable {X:Cx} {tg:Expr}
theorem range_it {pins:List (Addr×Obj)} {σ:St} {H:Hp} {s:Shared} {R:It→Hp→Prop} {E:Value→Shared→Prop} {lo hi:Int} {t u v:Tok} {tk:Nat} (I:Inv X pins σ H s) (h1: -(2^62)≤lo) (h2:lo<2^62) (h3: -(2^62)≤hi) (h4:hi<2^62)
  (q:R (Itr lo (hi-lo).toNat) H):wpAny (model X.prog X.w) X.A (pyIter (.ref s.heap.objs.size)) (PIE X pins σ tg R) E {s with heap:=s.heap.push {cls:= .type "range",data:= .fields #[.int lo t, .int hi u, .int 1 v]},toks:=tk}:=by
 refine wpAny_pyIter_range (IsRange.new ..) (small_one h1 h2 h3 h4) ?_
 have I1:Inv X pins σ H {s with heap:=s.heap.push {cls:= .type "range",data:= .fields #[.int lo t, .int hi u, .int 1 v]},toks:=tk}:=I.kept fun b o e=>Heap.get?_push_of_some _ e
 refine ⟨(s.heap.push {cls:= .type "range",data:= .fields #[.int lo t, .int hi u, .int 1 v]}).objs.size,[(s.heap.push {cls:= .type "range",data:= .fields #[.int lo t, .int hi u, .int 1 v]}).objs.size],_,_,H,rfl,
  I1.kept (t':=tk) fun b o e=>Heap.get?_push_of_some _ e,turn_range _ lo (hi-lo).toNat,?_,fun b hb=> ?_,q⟩
 ·have e1:lo+((0:Nat):Int)*1=lo:=by simp
  have e2:(((hi-lo).toNat:Nat):Int)-((0:Nat):Int)=Builtin.Range.rangeSize lo hi 1:=by rw [rangeSize_one];split<;>omega
  show IsRangeIter _ _ (lo+((0:Nat):Int)*1) ((((hi-lo).toNat:Nat):Int)-((0:Nat):Int)) 1
  rw [e1,e2]
  exact Heap.get?_push_size _ rfl
 ·have e:b=(s.heap.push {cls:= .type "range",data:= .fields #[.int lo t, .int hi u, .int 1 v]}).objs.size:=by simpa using hb
  subst e
  exact I1.fpOk (Nat.le_refl _) (I1.hok.fresh (Nat.le_refl _))
def iRng1 (ta:TA):TI:=fun σ H R=>ta σ H fun vs H1=>∃ j:Int,vs= [.int j]∧ -(2^62)≤j∧j<2^62∧R (Itr 0 j.toNat) H1
theorem pi_range1 {a:Expr} {ta:TA} {p pos:Pos} (hg:Gl X "range") (hm:X.mg "range"=none) (ha:PA X [a] ta) (hs:starEach [a] X.env= [(false,eval a X.env)]:=by rfl):PI X tg (.Call (.Name "range" p) [a] [] pos) (iRng1 ta):=by
 intro pins s σ H R I h
 refine Call_ (ld_blt I hg hm boot_range (PyProof.Rows.callWith_type1 (thn (ha pos pins s σ H _ I h) fun us s1 ⟨vs,H1,I1,r1,q1⟩=> ?_) hs rfl))
 obtain ⟨j,e,q1,q2,q⟩:=q1
 subst e
 cases r1 with
 |cons r rr=>
  cases rr
  obtain ⟨t,rfl⟩:=r
  exact call_range_1 (range_it I1 (by omega) (by omega) q1 q2 (by simpa using q))
def tFor (wi:TI) (g:TG) (tb:TS):TS:=fun D σ H=>wi σ H fun J H1=>∃ W:Nat→Nat→St→Hp→Prop,(∃ m,W 0 m σ H1)∧∀ i m σ H,W i m σ H→
 (J.stop i H∧D.nx σ H)∨(J.go i H∧∃ N:St→Hp→Prop,(∀ σ' H',N σ' H'→∃ m',m'<m∧W (i+1) m' σ' H')∧∀ x H',J.yld i H x H'→g x σ H' fun σ2 H2=>tb {D with nx:=N,ct:=N,bk:=D.nx} σ2 H2)
def pinsAt (fp:List Addr) (h:Heap):List (Addr×Obj):=fp.filterMap fun b=>(h.get? b).map fun o=>(b,o)
theorem mem_pinsAt {fp:List Addr} {h:Heap} {b:Addr} {o:Obj} (hb:b∈fp) (e:h.get? b=some o):(b,o)∈pinsAt fp h:=List.mem_filterMap.mpr ⟨b,hb,by rw [e];rfl⟩
theorem of_pinsAt {fp:List Addr} {h:Heap} {p:Addr×Obj} (hp:p∈pinsAt fp h):p.1∈fp∧h.get? p.1=some p.2:=by
 obtain ⟨b,hb,e⟩:=List.mem_filterMap.mp hp
 cases q:h.get? b with
 |none=>rw [q] at e;cases e
 |some o=>
  rw [q] at e
  have e':(b,o)=p:=Option.some.inj e
  subst e'
  exact ⟨hb,q⟩
theorem Inv.pinned {pins:List (Addr×Obj)} {σ:St} {H:Hp} {s:Shared} {fp:List Addr} (I:Inv X pins σ H s) (hf:∀ b∈fp,FpOk X pins H b) (ho:∀ b∈fp,∃ o,s.heap.get? b=some o∧∀ v,o.data≠ .cell v):Inv X (pins++pinsAt fp s.heap) σ H s:=
 I.pins_of fun p hp=>(List.mem_append.mp hp).elim (fun z=>I.pin p (List.mem_append_right _ z)) fun z=>by
  obtain ⟨hb,e⟩:=of_pinsAt z
  obtain ⟨f0,f1,f2,_⟩:=hf p.1 hb
  obtain ⟨o,e',d⟩:=ho p.1 hb
  rw [e] at e';cases e'
  exact ⟨e,f0,f1,f2,d⟩
theorem Inv.unpinned {pins pl:List (Addr×Obj)} {σ:St} {H:Hp} {s:Shared} (I:Inv X (pins++pl) σ H s):Inv X pins σ H s:=I.pins_of fun p hp=>I.pin p (List.mem_append_right _ (List.mem_append_left _ hp))
theorem ps_for {iter:Expr} {body:List Stmt} {wi:TI} {g:TG} {tb:TS} {pos:Pos} (hp:PassesOwn (model X.prog X.w) X.A X.env X.xe) (hc:X.calm=true) (hi:PI X tg iter wi) (hg:PG X tg g) (hb:PSs X body tb)
  (hs:∀ x,foldedSetIterable iter X.env x=pure x:=by intro _;rfl):PS X (.For tg iter body [] pos) (tFor wi g tb):=by
 intro pins s σ H D I h
 refine wpAny_For (thn (hi pins s σ H _ I h) fun v s1 h1=>thn h1 fun itv s2 h2=> ?_) hs
 obtain ⟨it,fp,tn,J,H2,e,I2,T,st2,f2,W,⟨m0,w0⟩,turn⟩:=h2
 subst e
 have stat:∀ {H':Hp},(∀ b∈fp,H' b=none)→∀ b∈fp,FpOk X pins H' b:=fun hn b hb=>⟨hn b hb,(f2 b hb).2⟩
 refine codeAny_forLoop_any (fun n s'=>∃ i σ' H',Inv X pins σ' H' s'∧tn i s'.heap∧(∀ b∈fp,H' b=none)∧W i n σ' H') ?_ m0 ⟨0,σ,H2,I2,st2,fun b hb=>(f2 b hb).1,w0⟩
 rintro n s3 ⟨i,σ3,H3,I3,st3,fr3,w3⟩
 rcases turn i n σ3 H3 w3 with ⟨stop,qn⟩|⟨go,N,hN,step⟩
 ·refine wpAny_passesOwn hp (thn (T.done X rfl rfl rfl hc i pins s3 σ3 H3 X.xe I3 (stat fr3) st3 stop) fun r s4 ⟨hr,I4⟩=> ?_)
  subst hr
  exact wpAny_execs_nil ⟨σ3,H3,I4,qn⟩
 ·refine wpAny_passesOwn hp (thn (T.item X rfl rfl rfl hc i pins s3 σ3 H3 X.xe I3 (stat fr3) st3 go) fun r s4 ⟨u,hr,h4⟩=> ?_)
  subst hr
  refine wpAny_passesOwn hp (thn h4 fun _ s5 ⟨x,H5,I5,r5,y5,st5,fr5⟩=> ?_)
  have I5':=I5.pinned (stat fr5) (T.obj _ _ st5)
  refine wpAny_passesOwn hp (thn (hg _ s5 σ3 H5 x u _ I5' r5 (step x H5 y5)) fun _ s6 ⟨σ6,H6,I6,q6⟩=> ?_)
  refine wpAny_passesOwn hp (thn (hb _ s6 σ6 H6 _ I6 q6) fun f s7 q7=> ?_)
  have again:∀ {σ7:St} {H7:Hp},Inv X (pins++pinsAt fp s5.heap) σ7 H7 s7→N σ7 H7→∃ m,m<n∧∃ i σ' H',Inv X pins σ' H' s7∧tn i s7.heap∧(∀ b∈fp,H' b=none)∧W i m σ' H':=fun {σ7 H7} I7 n7=>by
   obtain ⟨m',hm,w7⟩:=hN σ7 H7 n7
   refine ⟨m',hm,i+1,σ7,H7,I7.unpinned,T.keep _ _ _ st5 fun b hb o e=>(I7.pin (b,o) (List.mem_append_right _ (List.mem_append_right _ (mem_pinsAt hb e)))).1,fun b hb=> ?_,w7⟩
   obtain ⟨o,e,d⟩:=T.obj _ _ st5 b hb
   exact (I7.pin (b,o) (List.mem_append_right _ (List.mem_append_right _ (mem_pinsAt hb e)))).2.1
  cases f with
  |next=>obtain ⟨σ7,H7,I7,n7⟩:=q7;exact again I7 n7
  |cont=>obtain ⟨σ7,H7,I7,n7⟩:=q7;exact again I7 n7
  |brk=>obtain ⟨σ7,H7,I7,q7⟩:=q7;exact ⟨σ7,H7,I7.unpinned,q7⟩
  |ret v=>obtain ⟨x7,σ7,H7,I7,r7,q7⟩:=q7;exact ⟨x7,σ7,H7,I7.unpinned,r7,q7⟩
end
end L2
namespace L2
open PySem PySem.Spec PyProof.Rows
abbrev R2:=V→V→Hp→VK→Prop
def OpR (X:Cx) (f:Value→Value→Sem Value) (r:R2):Prop:=
 ∀ (pins:List (Addr×Obj)) (s:Shared) (σ:St) (H:Hp) (x y:V) (v u:Value) (Q:VK),Inv X pins σ H s→RelV x v→RelV y u→r x y H Q→
  wpAny (model X.prog X.w) X.A (f v u) (EP X pins σ Q) X.xe s
def CallR (X:Cx) (f:Value) (r:List V→Hp→VK→Prop):Prop:=
 ∀ (pins:List (Addr×Obj)) (s:Shared) (σ:St) (H:Hp) (xs:List V) (us:List Value) (Q:VK),Inv X pins σ H s→Vals xs us→r xs H Q→
  wpAny (model X.prog X.w) X.A (call f us) (EP X pins σ Q) X.xe s
def tOp (r:R2) (ta tb:TE):TE:=fun σ H Q=>ta σ H fun x H1=>tb σ H1 fun y H2=>r x y H2 Q
def rI (C:Int→Int→Prop) (g:Int→Int→V):R2:=fun x y H Q=>∃ i j,x= .int i∧y= .int j∧C i j∧Q (g i j) H
def rI0 (g:Int→Int→V):R2:=fun x y H Q=>∃ i j,x= .int i∧y= .int j∧Q (g i j) H
section
variable {X:Cx} {a b c:Expr} {ta tb tc:TE} {pos:Pos}
theorem binT (ha:PE X a ta) (hb:PE X b tb) {pins:List (Addr×Obj)} {s:Shared} {σ:St} {H:Hp} {R:V→V→Hp→Prop} (I:Inv X pins σ H s)
  (h:ta σ H fun x H1=>tb σ H1 fun y H2=>R x y H2) {Q:Value→Shared→Prop} {f:Value→Value→Sem Value}
  (hf:∀ v u s2 x y H2,Inv X pins σ H2 s2→RelV x v→RelV y u→R x y H2→wpAny (model X.prog X.w) X.A (f v u) Q X.xe s2):
  wpAny (model X.prog X.w) X.A (eval a X.env) (fun v s₁=>wpAny (model X.prog X.w) X.A (eval b X.env) (fun u s₂=>wpAny (model X.prog X.w) X.A (f v u) Q X.xe s₂) X.xe s₁) X.xe s:=by
 refine thn (ha pins s σ H _ I h) fun v s1 ⟨x,H1,I1,r1,q1⟩=> ?_
 refine thn (hb pins s1 σ H1 _ I1 q1) fun u s2 ⟨y,H2,I2,r2,q2⟩=> ?_
 exact hf v u s2 x y H2 I2 r1 r2 q2
theorem pe_op {op:Operator} {r:R2} (ho:OpR X (binaryOp op) r) (ha:PE X a ta) (hb:PE X b tb):PE X (.BinOp a op b pos) (tOp r ta tb):=by
 intro pins s σ H Q I h
 exact wpAny_BinOp (binT ha hb I h fun v u s2 x y H2 I2 rx ry q=>ho pins s2 σ H2 x y v u Q I2 rx ry q)
theorem opI {f:Value→Value→Sem Value} {C:Int→Int→Prop} {g:Int→Int→Int}
  (rule:∀ (i j:Int) (t u:Tok) (s:Shared) (Q:Value→Shared→Prop) (E:Value→Shared→Prop),C i j→Q (.int (g i j) s.toks) {s with toks:=s.toks+1}→wpAny (model X.prog X.w) X.A (f (.int i t) (.int j u)) Q E s):
  OpR X f (rI C fun i j=> .int (g i j)):=by
 intro pins s σ H x y v u Q I rx ry h
 obtain ⟨i,j,rfl,rfl,hc,q⟩:=h
 obtain ⟨t,rfl⟩:=rx
 obtain ⟨t',rfl⟩:=ry
 exact rule i j t t' s _ _ hc ⟨.int (g i j),H,I.tok _,⟨_,rfl⟩,q⟩
theorem opI0 {f:Value→Value→Sem Value} {g:Int→Int→Int}
  (rule:∀ (i j:Int) (t u:Tok) (s:Shared) (Q:Value→Shared→Prop) (E:Value→Shared→Prop),Q (.int (g i j) s.toks) {s with toks:=s.toks+1}→wpAny (model X.prog X.w) X.A (f (.int i t) (.int j u)) Q E s):
  OpR X f (rI0 fun i j=> .int (g i j)):=by
 intro pins s σ H x y v u Q I rx ry h
 obtain ⟨i,j,rfl,rfl,q⟩:=h
 obtain ⟨t,rfl⟩:=rx
 obtain ⟨t',rfl⟩:=ry
 exact rule i j t t' s _ _ ⟨.int (g i j),H,I.tok _,⟨_,rfl⟩,q⟩
theorem opB0 {f:Value→Value→Sem Value} {g:Int→Int→Bool}
  (rule:∀ (i j:Int) (t u:Tok) (s:Shared) (Q:Value→Shared→Prop) (E:Value→Shared→Prop),Q (.bool (g i j)) s→wpAny (model X.prog X.w) X.A (f (.int i t) (.int j u)) Q E s):
  OpR X f (rI0 fun i j=> .bl (g i j)):=by
 intro pins s σ H x y v u Q I rx ry h
 obtain ⟨i,j,rfl,rfl,q⟩:=h
 obtain ⟨t,rfl⟩:=rx
 obtain ⟨t',rfl⟩:=ry
 exact rule i j t t' s _ _ ⟨.bl (g i j),H,I,rfl,q⟩
def CDiv (i j:Int):Prop:=0<j∧j<1073741824
def CPow (i j:Int):Prop:=0≤j∧j≤1000000∧i.natAbs<2^64
def CMul (i j:Int):Prop:=(-(2^64)<i∧i<2^64)∨(-(2^64)<j∧j<2^64)
theorem CMul.ok {i j:Int} (h:CMul i j):IntMulOk i j:=by
 rcases h with ⟨h1,h2⟩|⟨h1,h2⟩
 ·exact .of_left (intBits_le_64 h1 h2)
 ·exact .of_right (intBits_le_64 h1 h2)
theorem op_add:OpR X (binaryOp .Add) (rI0 fun i j=> .int (i+j)):=opI0 fun _ _ _ _ _ _ _ q=>add_int q
theorem op_sub:OpR X (binaryOp .Sub) (rI0 fun i j=> .int (i-j)):=opI0 fun _ _ _ _ _ _ _ q=>sub_int q
theorem op_mul:OpR X (binaryOp .Mult) (rI CMul fun i j=> .int (i*j)):=opI fun _ _ _ _ _ _ _ hc q=>mul_int q hc.ok
theorem op_fdiv:OpR X (binaryOp .FloorDiv) (rI CDiv fun i j=> .int (i / j)):=opI fun i j _ _ _ _ _ hc q=>by
 have h1:(0:Int)<j:=hc.1
 have h2:j<1073741824:=hc.2
 exact floordiv_int (by omega) (by rw [Int.fdiv_eq_ediv_of_nonneg i (by omega)];exact q) (.inl (PyProof.noPylong_small (by omega)))
theorem op_mod:OpR X (binaryOp .Mod) (rI (fun _ j=>0<j) fun i j=> .int (i%j)):=opI fun i j _ _ _ _ _ hc q=>by
 have h1:(0:Int)<j:=hc
 exact mod_int' (by omega) (by rw [Int.fmod_eq_emod_of_nonneg i (by omega)];exact q)
theorem op_pow:OpR X (binaryOp .Pow) (rI CPow fun i j=> .int (i^j.toNat)):=opI fun _ _ _ _ _ _ _ hc q=>pow_int_small hc.1 hc.2.1 hc.2.2 q
end
section
variable {X:Cx} {a b c:Expr} {ta tb tc:TE} {pos:Pos}
theorem fin_bl {pins:List (Addr×Obj)} {σ:St} {H:Hp} {s:Shared} {Q:VK} {k k':Bool} (I:Inv X pins σ H s) (q:Q (.bl k) H) (e:k=k'):EP X pins σ Q (.bool k') s:=by
 subst e
 exact ⟨.bl k,H,I,rfl,q⟩
theorem op_lt:OpR X (compareOp .Lt) (rI0 fun i j=> .bl (decide (i<j))):=opB0 fun _ _ _ _ _ _ _ q=>lt_int q
theorem op_le:OpR X (compareOp .LtE) (rI0 fun i j=> .bl (decide (i≤j))):=opB0 fun _ _ _ _ _ _ _ q=>le_int q
theorem op_gt:OpR X (compareOp .Gt) (rI0 fun i j=> .bl (decide (j<i))):=opB0 fun _ _ _ _ _ _ _ q=>gt_int q
theorem op_ge:OpR X (compareOp .GtE) (rI0 fun i j=> .bl (decide (j≤i))):=opB0 fun _ _ _ _ _ _ _ q=>ge_int q
theorem op_in_str:OpR X (compareOp .In) (fun x y H Q=>∃ i j,x= .str i∧y= .str j∧Q (.bl (!(Builtin.Str.occurrences j i 0 j.length 1).isEmpty)) H):=by
 intro pins s σ H x y v u Q I rx ry h
 obtain ⟨i,j,rfl,rfl,q⟩:=h
 obtain ⟨t,rfl⟩:=rx
 obtain ⟨t',rfl⟩:=ry
 exact in_str (fin_bl I q rfl)
theorem OpR.or {f:Value→Value→Sem Value} {r r':R2} (h:OpR X f r) (h':OpR X f r'):OpR X f (fun x y H Q=>r x y H Q∨r' x y H Q):=by
 intro pins s σ H x y v u Q I rx ry q
 rcases q with q|q
 ·exact h pins s σ H x y v u Q I rx ry q
 ·exact h' pins s σ H x y v u Q I rx ry q
theorem nomark (b:Expr) {op:CmpOp} (h:op≠ .In:=by decide) (h2:op≠ .NotIn:=by decide):behindInMarks op b=false:=by
 have e1:(op==CmpOp.In)=false:=by cases op<;>first|rfl|exact absurd rfl h
 have e2:(op==CmpOp.NotIn)=false:=by cases op<;>first|rfl|exact absurd rfl h2
 cases b<;>simp [behindInMarks,e1,e2]
theorem pe_cmpR {op:CmpOp} {r:R2} (ho:OpR X (compareOp op) r) (ha:PE X a ta) (hb:PE X b tb) (hm:behindInMarks op b=false):PE X (.Compare a [op] [b] pos) (tOp r ta tb):=by
 intro pins s σ H Q I h
 exact wpAny_Compare1 (binT ha hb I h fun v u s2 x y H2 I2 rx ry q=>ho pins s2 σ H2 x y v u Q I2 rx ry q) hm
def tTest (t:TE):TT:=fun σ H Q=>t σ H fun x H'=>∃ k,x= .bl k∧Q k H'
theorem pt_cmpR {op:CmpOp} {r:R2} (ho:OpR X (compareOp op) r) (ha:PE X a ta) (hb:PE X b tb) (hm:behindInMarks op b=false):PT X (.Compare a [op] [b] pos) (tTest (tOp r ta tb)):=by
 intro pins s σ H Q I h
 refine wpAny_isTrue_Compare1 (thn (ha pins s σ H _ I h) fun v s1 ⟨x,H1,I1,r1,q1⟩=>thn (hb pins s1 σ H1 _ I1 q1) fun u s2 ⟨y,H2,I2,r2,q2⟩=>
  thn (ho pins s2 σ H2 x y v u _ I2 r1 r2 q2) fun c s3 ⟨z,H3,I3,r3,k,e,q3⟩=> ?_) hm
 subst e
 cases r3
 exact wpAny_truthy_bool ⟨H3,I3,q3⟩
def tChain (r r':R2) (ta tb tc:TE):TE:=fun σ H Q=>ta σ H fun x H1=>tb σ H1 fun y H2=>r x y H2 fun z H3=>∃ k,z= .bl k∧
 (if k=true then tc σ H3 fun w' H4=>r' y w' H4 Q else Q (.bl false) H3)
theorem pe_chain {op op':CmpOp} {r r':R2} (ho:OpR X (compareOp op) r) (ho':OpR X (compareOp op') r') (ha:PE X a ta) (hb:PE X b tb) (hc:PE X c tc)
  (hm:lastMarks [op,op'] [b,c]=false:=by with_unfolding_all rfl):PE X (.Compare a [op,op'] [b,c] pos) (tChain r r' ta tb tc):=by
 intro pins s σ H Q I h
 refine Compare_chain (thn (ha pins s σ H _ I h) fun v s1 ⟨x,H1,I1,r1,q1⟩=>chain_link (thn (hb pins s1 σ H1 _ I1 q1) fun u s2 ⟨y,H2,I2,r2,q2⟩=>
  thn (ho pins s2 σ H2 x y v u _ I2 r1 r2 q2) fun d s3 ⟨z,H3,I3,r3,k,e,q3⟩=> ?_)) hm
 subst e
 cases r3
 refine wpAny_truthy_bool ?_
 cases k with
 |false=>exact ite_ff ⟨.bl false,H3,I3,rfl,q3⟩
 |true=>exact ite_tt (chain_last (thn (hc pins s3 σ H3 _ I3 q3) fun w' s4 ⟨z',H4,I4,r4,q4⟩=>ho' pins s4 σ H4 y z' u w' Q I4 r2 r4 q4))
theorem pt_chain {op op':CmpOp} {r r':R2} (ho:OpR X (compareOp op) r) (ho':OpR X (compareOp op') r') (ha:PE X a ta) (hb:PE X b tb) (hc:PE X c tc)
  (hm:lastMarks [op,op'] [b,c]=false:=by with_unfolding_all rfl):PT X (.Compare a [op,op'] [b,c] pos) (tTest (tChain r r' ta tb tc)):=by
 intro pins s σ H Q I h
 refine isTrue_chain (thn (ha pins s σ H _ I h) fun v s1 ⟨x,H1,I1,r1,q1⟩=>test_link (thn (hb pins s1 σ H1 _ I1 q1) fun u s2 ⟨y,H2,I2,r2,q2⟩=>
  thn (ho pins s2 σ H2 x y v u _ I2 r1 r2 q2) fun d s3 ⟨z,H3,I3,r3,k,e,q3⟩=> ?_)) hm
 subst e
 cases r3
 refine wpAny_truthy_bool ?_
 cases k with
 |false=>
  obtain ⟨k',e',q'⟩:=q3
  cases e'
  exact ite_ff ⟨H3,I3,q'⟩
 |true=>
  refine ite_tt (test_last (thn (hc pins s3 σ H3 _ I3 q3) fun w' s4 ⟨z',H4,I4,r4,q4⟩=>thn (ho' pins s4 σ H4 y z' u w' _ I4 r2 r4 q4) fun d' s5 ⟨z2,H5,I5,r5,k2,e2,q5⟩=> ?_))
  subst e2
  cases r5
  exact wpAny_truthy_bool ⟨H5,I5,q5⟩
theorem line63:(sizeLine:Nat)<2^63:=by rw [sizeLine_eq];decide
theorem op_add_str:OpR X (binaryOp .Add) (fun x y H Q=>∃ i j,x= .str i∧y= .str j∧i.length+j.length≤sizeLine∧Q (.str (i++j)) H):=by
 intro pins s σ H x y v u Q I rx ry h
 obtain ⟨i,j,rfl,rfl,hz,q⟩:=h
 obtain ⟨t,rfl⟩:=rx
 obtain ⟨t',rfl⟩:=ry
 exact add_str (fun t' tk=>⟨.str (i++j),H,I.tok _,⟨_,rfl⟩,q⟩) hz
theorem vals1 {x:V} {us:List Value} (r:Vals [x] us):∃ u,us= [u]∧RelV x u:=by
 cases r with
 |cons r1 r2=>cases r2;exact ⟨_,rfl,r1⟩
theorem call_int1:CallR X (.type "int") (fun xs H Q=>(∃ i,xs= [.int i]∧Q (.int i) H)∨∃ k,xs= [.bl k]∧Q (.int (if k then 1 else 0)) H):=by
 intro pins s σ H xs us Q I r h
 rcases h with ⟨i,rfl,q⟩|⟨k,rfl,q⟩
 ·obtain ⟨u,rfl,t,rfl⟩:=vals1 r
  exact call_int_int ⟨.int i,H,I,⟨_,rfl⟩,q⟩
 ·obtain ⟨u,rfl,r1⟩:=vals1 r
  cases r1
  exact call_int_bool ⟨.int (if k then 1 else 0),H,I.tok _,⟨_,rfl⟩,q⟩
theorem call_str_int:CallR X (.type "str") (fun xs H Q=>∃ i,xs= [.int i]∧i.natAbs.log2<1920∧Q (.str (toString i)) H):=by
 intro pins s σ H xs us Q I r h
 obtain ⟨i,rfl,hz,q⟩:=h
 obtain ⟨u,rfl,t,rfl⟩:=vals1 r
 exact PySem.P.str_of_int hz ⟨.str _,H,I.tok _,⟨_,rfl⟩,q⟩
def LenV (K:PySem.W.Frag) (x:V) (H:Hp) (n:Nat):Prop:=
 match x with
 | .str y=>y.length≤sizeLine∧n=y.length
 | .byt y=>y.size≤sizeLine∧n=y.size
 | .ref p=>(∃ xs,SqL K H p xs∧n=xs.length)∨∃ xs,SqT K H p xs∧n=xs.length
 |_=>False
theorem call_len:CallR X (.builtin "len") (fun xs H Q=>∃ x n,xs= [x]∧LenV X.K x H n∧Q (.int n) H):=by
 intro pins s σ H xs us Q I r h
 obtain ⟨x,n,rfl,e,q⟩:=h
 obtain ⟨u,rfl,rx⟩:=vals1 r
 have hl:=line63
 have hs:sizeLine=16777216:=sizeLine_eq
 cases x with
 |str y=>
  obtain ⟨t,rfl⟩:=rx
  obtain ⟨hy,e'⟩:y.length≤sizeLine∧n=y.length:=e
  subst e'
  exact len_str (by omega) ⟨.int _,H,I.tok _,⟨_,rfl⟩,q⟩
 |byt y=>
  obtain ⟨t,rfl⟩:=rx
  obtain ⟨hy,e'⟩:y.size≤sizeLine∧n=y.size:=e
  subst e'
  exact PySem.W.len_bytes (by omega) ⟨.int _,H,I.tok _,⟨_,rfl⟩,q⟩
 |ref p=>
  cases rx
  have e':(∃ xs,SqL X.K H p xs∧n=xs.length)∨∃ xs,SqT X.K H p xs∧n=xs.length:=e
  rcases e' with ⟨xs,hx,e'⟩|⟨xs,hx,e'⟩
  ·subst e'
   obtain ⟨its,r',pl,hz⟩:=I.list hx
   have hlen:=r'.length
   exact Calls.call_len_list pl.isList (by simp only [List.size_toArray];omega) ⟨.int xs.length,H,I.tok _,⟨_,by simp only [List.size_toArray];rw [hlen]⟩,q⟩
  ·subst e'
   obtain ⟨its,r',pl,hz⟩:=I.tuple hx
   have hlen:=r'.length
   exact len_tuple pl (by simp only [List.size_toArray];omega) ⟨.int xs.length,H,I.tok _,⟨_,by simp only [List.size_toArray];rw [hlen]⟩,q⟩
 |_=>exact (show False from e).elim
end
end L2
namespace L2
open PySem PySem.Spec PyProof.Rows
structure ObjM (h:Heap) (x dx C:Addr) (mA:Str→Option Value):Prop where
 obj:h.get? x=some (PySem.W.instObj C dx)
 ns:h.Ns1 dx mA
 ne:dx≠x
theorem lookIn_ns {h:Heap} {dx:Addr} {mA:Str→Option Value} (n:h.Ns1 dx mA):∃ od,h.get? dx=some od∧∀ name,PySem.W.lookIn name od=some (mA name):=by
 obtain ⟨o,es,ep,ho,hd,hk,_,hm⟩:=n
 refine ⟨o,ho,fun name=> ?_⟩
 have e:=hm name
 unfold nsFind findBy at e
 rw [←Array.find?_toList] at e
 unfold PySem.W.lookIn
 rw [hd]
 dsimp only
 split
 ·rename_i y q
  rw [q] at e
  exact congrArg some e
 ·rename_i q
  rw [q] at e
  have a:es.toList.any (·.refKey)=false:=by
   rw [List.any_eq_false]
   intro y hy
   obtain ⟨z,t,hkey⟩:=hk y (Array.mem_toList_iff.mp hy)
   simp [DictEntry.refKey,hkey]
  have a':¬ es.toList.any (·.refKey)=true:=by rw [a];exact Bool.false_ne_true
  rw [if_neg a']
  exact congrArg some e
theorem ObjM.look {h:Heap} {x dx C:Addr} {mA:Str→Option Value} (I:ObjM h x dx C mA):∃ od,PySem.W.InstAt h x (PySem.W.instObj C dx) C (some od)∧∀ name,PySem.W.lookIn name od=some (mA name):=
 let ⟨od,ho,hl⟩:=lookIn_ns I.ns
 ⟨od,⟨I.obj,rfl,rfl,ho⟩,hl⟩
section
variable {prog:Program} {w:World} {A:Around} {E:Value→Shared→Prop} {s:Shared} {K:PySem.W.Frag} {x dx C f:Addr} {mA:Str→Option Value} {name:Str} {v:Value}
theorem get_map {expr:Bool} {Q:Value→Shared→Prop} (X:K.In s.heap) (I:ObjM s.heap x dx C mA) (hg:PySem.W.plainGet K C name=true) (hh:PySem.W.hasDictIn K C=true)
  (ha:PySem.W.findIn K (.ref C) name=some none) (hv:mA name=some v) (hv':PySem.W.handedIn v=true) (h:Q v {s with toks:=s.toks+1}):
  wpAny (model prog w) A (getAttr (.ref x) name expr) Q E s:=by
 obtain ⟨od,J,hl⟩:=I.look
 exact PySem.W.get_value X J (PySem.W.plainGet_of hg).1 (PySem.W.findObj_own hh ha rfl (by rw [hl,hv])) hv' h
theorem set_map {ns:List Str} {Q:Unit→Shared→Prop} (X:K.In s.heap) (I:ObjM s.heap x dx C mA)
  (hs:PySem.W.findIn K (.ref C) "__setattr__"=some (some (.builtin "object.__setattr__"))) (hp:PySem.W.plainOver K C=true) (ht:PySem.W.takerIn K C name=some none) (hh:PySem.W.hasDictIn K C=true)
  (hw:PySem.Within mA ns) (hsz:ns.length≤sizeLine)
  (h:∀ h',ObjM h' x dx C (fun y=>if y=name then some v else mA y)→Heap.SameBut dx s.heap h'→Q () {s with heap:=h',toks:=s.toks+2}):
  wpAny (model prog w) A (setAttr (.ref x) name v) Q E s:=by
 obtain ⟨od,J,hl⟩:=I.look
 refine PySem.W.set_plain X J hs (PySem.W.osa_open (s:= {s with toks:=s.toks+1}) (r:=none) X J hp ht fun b=> ?_)
 obtain ⟨cd,hc,hd'⟩:=PySem.W.any_some hh
 have hx:s.heap.get? x=some ⟨.ref C,some dx, .plain,#[]⟩:=I.obj
 refine wpAny_bind (wpAny_pure (wpAny_bind (wpAny_bind (wpAny_loadPart hx (wpAny_bind (PySem.W.Looks.here (s:= {s with toks:=s.toks+1}) (PySem.W.looks_clsIn X hc) ?_))))))
 rw [hd']
 refine wpAny_pure (a:=some dx) (wpAny_bind (wpAny_pure (wpAny_bind ?_)))
 refine wpAny_nsSet1 (s:= {s with toks:=s.toks+1}) I.ns fun h' hn2 hs2=> ?_
 obtain ⟨oD,esD,epD,hoD,hdD,hcD⟩:=hn2.count (PySem.Within.cons name v hw)
 refine wpAny_bind (wpAny_lookBehind hoD (by rw [hdD];exact pastItsLine_dict (Nat.le_trans hcD (by rw [List.length_cons];omega))) ?_)
 exact wpAny_pure (h _ ⟨(hs2.2 _ (Ne.symm I.ne)).trans I.obj,hn2,I.ne⟩ hs2)
theorem make_map {R:Result→Shared→Prop} {vs:List Value} {kw:List (Str×Value)} (X:K.In s.heap) (hm:PySem.W.makesIn K C=true)
  (hi:PySem.W.findIn K (.ref C) "__init__"=some (some (.ref f))) (hf:PySem.W.typeIn K (.ref f)=some (.type "function"))
  (h:codeAny (model prog w) (A.under (.builtin "type.__call__" ⟨.ref C::vs,kw⟩)) (.call (.ref f) ⟨.ref (s.heap.objs.size+1)::vs,kw⟩) (PySem.W.InitBack (s.heap.objs.size+1) R)
   {s with heap:=(s.heap.push PySem.W.emptyDict).push (PySem.W.instObj C s.heap.objs.size)}):
  codeAny (model prog w) A (.call (.ref C) ⟨vs,kw⟩) R s:=by
 obtain ⟨hh,g,d,t,os⟩:=s
 exact PySem.W.make_core (PySem.W.makes_of X hm) (PySem.W.looks_findIn X hi) (fun self=>PySem.W.bind_fn X self hf) (.inl rfl) h
end
def putF (f:Str) (v:V):List (Str×V)→List (Str×V)
 | []=> [(f,v)]
 |(g,x)::r=>if g=f then (g,v)::r else (g,x)::putF f v r
theorem lookup_putF (f g:Str) (v:V):∀ fs:List (Str×V),(putF f v fs).lookup g=if g=f then some v else fs.lookup g
 | []=>by
  show List.lookup g [(f,v)]=_
  by_cases h:g=f
  ·have hb:(g==f)=true:=beq_iff_eq.mpr h
   simp only [List.lookup,hb,if_pos h]
  ·have hb:(g==f)=false:=beq_eq_false_iff_ne.mpr h
   simp only [List.lookup,hb,if_neg h]
 |(k,x)::r=>by
  have ih:=lookup_putF f g v r
  rw [show putF f v ((k,x)::r)=(if k=f then (k,v)::r else (k,x)::putF f v r) from rfl]
  by_cases hk:k=f
  ·rw [if_pos hk]
   by_cases h:g=k
   ·have hb:(g==k)=true:=beq_iff_eq.mpr h
    simp only [List.lookup,hb,if_pos (h.trans hk)]
   ·have hb:(g==k)=false:=beq_eq_false_iff_ne.mpr h
    simp only [List.lookup,hb,if_neg (fun e:g=f=>h (e.trans hk.symm))]
  ·rw [if_neg hk]
   by_cases h:g=k
   ·have hb:(g==k)=true:=beq_iff_eq.mpr h
    simp only [List.lookup,hb,if_neg (fun e:g=f=>hk (h.symm.trans e))]
   ·have hb:(g==k)=false:=beq_eq_false_iff_ne.mpr h
    simp only [List.lookup,hb]
    exact ih
theorem keys_putF (f:Str) (v:V):∀ fs:List (Str×V),f∈(putF f v fs).map (·.1)∧∀ g,g∈fs.map (·.1)→g∈(putF f v fs).map (·.1)
 | []=>⟨by simp [putF],fun g h=>by simp at h⟩
 |(k,x)::r=>by
  obtain ⟨i1,i2⟩:=keys_putF f v r
  rw [show putF f v ((k,x)::r)=(if k=f then (k,v)::r else (k,x)::putF f v r) from rfl]
  by_cases hk:k=f
  ·rw [if_pos hk]
   subst hk
   exact ⟨by simp,fun g h=>by simpa using h⟩
  ·rw [if_neg hk]
   refine ⟨?_,fun g h=> ?_⟩
   ·rw [List.map_cons]
    exact List.mem_cons_of_mem _ i1
   ·rw [List.map_cons] at h ⊢
    rcases List.mem_cons.mp h with e|e
    ·exact List.mem_cons.mpr (.inl e)
    ·exact List.mem_cons_of_mem _ (i2 g e)
theorem length_putF (f:Str) (v:V):∀ fs:List (Str×V),(putF f v fs).length≤fs.length+1
 | []=>by simp [putF]
 |(k,x)::r=>by
  have ih:=length_putF f v r
  rw [show putF f v ((k,x)::r)=(if k=f then (k,v)::r else (k,x)::putF f v r) from rfl]
  by_cases hk:k=f
  ·rw [if_pos hk,List.length_cons,List.length_cons];omega
  ·rw [if_neg hk,List.length_cons,List.length_cons];omega
theorem RelO.some_of {v:V} {o:Option Value} (r:RelO (some v) o):∃ u,o=some u∧RelV v u:=by
 cases o with
 |none=>exact (show False from r).elim
 |some u=>exact ⟨u,rfl,r⟩
theorem handed_of {v:V} {u:Value} (r:RelV v u):PySem.W.handedIn u=true:=by
 cases v with
 |non=>cases (show u=Value.none from r);rfl
 |bl b=>cases (show u=Value.bool b from r);rfl
 |int i=>obtain ⟨t,e⟩:=(show ∃ t,u=Value.int i t from r);cases e;rfl
 |str x=>obtain ⟨t,e⟩:=(show ∃ t,u=Value.str x t from r);cases e;rfl
 |byt b=>obtain ⟨t,e⟩:=(show ∃ t,u=Value.bytes b t from r);cases e;rfl
 |flt b=>obtain ⟨t,e⟩:=(show ∃ t,u=Value.float b t from r);cases e;rfl
 |ref a=>cases (show u=Value.ref a from r);rfl
 |ty n=>cases (show u=Value.type n from r);rfl
section
variable {P:Program} {w:World} {H H':Hp} {h h':Heap} {a C dx:Addr} {fs fs':List (Str×V)}
theorem ins_get (hok:HOk P w H h) (e:H a=some (.ins C dx fs)):∃ mA,ObjM h a dx C mA∧(∀ f,RelO (fs.lookup f) (mA f))∧PySem.Within mA (fs.map (·.1))∧fs.length≤1000∧H dx=some (.own a):=by
 obtain ⟨d,z,ne,ob,mA,n,r,q⟩:=(show ObjOk P w H h a (.ins C dx fs) from hok a _ e)
 exact ⟨mA,⟨ob,n,ne⟩,r,q,z,d⟩
end
structure Cls (K:PySem.W.Frag) (C:Addr):Prop where
 pg:PySem.W.plainGet K C Str.empty=true
 hd:PySem.W.hasDictIn K C=true
 po:PySem.W.plainOver K C=true
 sa:PySem.W.findIn K (.ref C) "__setattr__"=some (some (.builtin "object.__setattr__"))
theorem Cls.get {K:PySem.W.Frag} {C:Addr} (c:Cls K C) (f:Str):PySem.W.plainGet K C f=true:=c.pg
def NoAttr (K:PySem.W.Frag) (C:Addr) (f:Str):Prop:=PySem.W.findIn K (.ref C) f=some none
theorem NoAttr.taker {K:PySem.W.Frag} {C:Addr} {f:Str} (n:NoAttr K C f):PySem.W.takerIn K C f=some none:=by
 unfold PySem.W.takerIn
 rw [show PySem.W.findIn K (.ref C) f=some none from n]
 rfl
structure Con (K:PySem.W.Frag) (C:Addr) (f:Str) (v:V) (u:Value):Prop where
 at_:PySem.W.findIn K (.ref C) f=some (some u)
 rel:RelV v u
 get:PySem.W.specialIn K u "__get__"=some none
 cp:PySem.W.copiedNames.contains f=false
structure Meth (K:PySem.W.Frag) (C:Addr) (m:Str) (f:Addr):Prop where
 at_:PySem.W.findIn K (.ref C) m=some (some (.ref f))
 fn:PySem.W.isFn K (.ref f)=true
 kp:PySem.W.keepIn K (.ref f)=true
section
variable {X:Cx} {pins:List (Addr×Obj)} {σ:St} {H:Hp} {s:Shared} {a C dx:Addr} {fs:List (Str×V)} {f:Str} {v:V} {A:Around} {E:Value→Shared→Prop}
theorem getattr_ok {b:Bool} {Q:Value→Shared→Prop} (I:Inv X pins σ H s) (e:H a=some (.ins C dx fs)) (c:Cls X.K C) (n:NoAttr X.K C f) (l:fs.lookup f=some v)
  (h:∀ u s',Inv X pins σ H s'→RelV v u→Q u s'):wpAny (model X.prog X.w) A (getAttr (.ref a) f b) Q E s:=by
 obtain ⟨mA,O,r,_,_,_⟩:=ins_get I.hok e
 obtain ⟨u,hu,ru⟩:=RelO.some_of (v:=v) (o:=mA f) (by rw [←l];exact r f)
 exact get_map I.kIn O (c.get f) c.hd n hu (handed_of ru) (h u _ (I.tok _) ru)
theorem setattr_ok {y:V} {u:Value} {Q:Unit→Shared→Prop} (I:Inv X pins σ H s) (e:H a=some (.ins C dx fs)) (c:Cls X.K C) (n:NoAttr X.K C f) (hl:fs.length<1000) (ry:RelV y u)
  (h:∀ s',Inv X pins σ (upd H a (.ins C dx (putF f y fs))) s'→Q () s'):wpAny (model X.prog X.w) A (setAttr (.ref a) f u) Q E s:=by
 obtain ⟨mA,O,r,wi,_,ho⟩:=ins_get I.hok e
 have hz:(fs.map (·.1)).length≤sizeLine:=by rw [List.length_map,sizeLine_eq];omega
 refine set_map I.kIn O c.sa c.po n.taker c.hd wi hz fun h' O' sb=>h _ ?_
 have hd:∃ o,h'.get? dx=some o:=let ⟨o,_,_,e',_⟩:=O'.ns;⟨o,e'⟩
 refine I.write (x:=a) (e:=dx) (by rw [e];exact True.intro) (.inr ho) (fun b q hb z=>(sb.2 b hb).trans z) hd ?_
 refine ⟨by rw [upd_ne O.ne];exact ho,?_,O.ne,O'.obj,_,O'.ns,fun g=> ?_,fun g hg=> ?_⟩
 ·have:=length_putF f y fs;omega
 ·show RelO ((putF f y fs).lookup g) (if g=f then some u else mA g)
  rw [lookup_putF]
  by_cases q:g=f
  ·rw [if_pos q,if_pos q];exact ry
  ·rw [if_neg q,if_neg q];exact r g
 ·by_cases q:g=f
  ·rw [q];exact (keys_putF f y fs).1
  ·refine (keys_putF f y fs).2 g (wi g fun z=>hg ?_)
   show (if g=f then some u else mA g)=none
   rw [if_neg q];exact z
theorem Inv.made (I:Inv X pins σ H s):Inv X pins σ (upd (upd H s.heap.objs.size (.own (s.heap.objs.size+1))) (s.heap.objs.size+1) (.ins C s.heap.objs.size []))
  {s with heap:=(s.heap.push PySem.W.emptyDict).push (PySem.W.instObj C s.heap.objs.size)}:=by
 have e1:(s.heap.push PySem.W.emptyDict).get? s.heap.objs.size=some PySem.W.emptyDict:=Heap.get?_push_size s.heap rfl
 have e2:((s.heap.push PySem.W.emptyDict).push (PySem.W.instObj C s.heap.objs.size)).get? (s.heap.objs.size+1)=some (PySem.W.instObj C s.heap.objs.size):=by
  have:=Heap.get?_push_size (s.heap.push PySem.W.emptyDict) (o:=PySem.W.instObj C s.heap.objs.size) rfl
  rwa [Heap.size_push] at this
 have e3:(s.heap.push PySem.W.emptyDict).Ns s.heap.objs.size (fun _=>none):=⟨PySem.W.emptyDict,#[],_,e1,rfl,(fun e he=>absurd he (by simp)),fun _=>rfl⟩
 have I1:=I.laid (a:=s.heap.objs.size) (o:= .own (s.heap.objs.size+1)) (h':=s.heap.push PySem.W.emptyDict) (t':=s.toks) (fun b u q=>Heap.get?_push_of_some _ q) (Nat.le_refl _) ⟨_,e1⟩
 refine I1.laid (a:=s.heap.objs.size+1) (o:= .ins C s.heap.objs.size []) (t':=s.toks) (fun b u q=>Heap.get?_push_of_some _ q) (Nat.le_of_eq (Heap.size_push _ _)) ?_
 have ne:s.heap.objs.size≠s.heap.objs.size+1:=Nat.ne_of_lt (Nat.lt_succ_self _)
 refine ⟨by rw [upd_ne ne,upd_same],Nat.zero_le _,ne,e2,fun _=>none,(Heap.Ns1.of_empty e3).at fun o q=>Heap.get?_push_of_some _ q,fun _=>True.intro,fun y hy=>absurd rfl hy⟩
theorem attr_of {prog:Program} {w:World} {env:Env} {e:Expr} {f:Str} {pos:Pos} {s:Shared} {Q:Value→Shared→Prop} (hb:attributeBase e f env (eval e env)=eval e env)
  (h:wpAny (model prog w) A (eval e env) (fun o s₁=>wpAny (model prog w) A (getAttr o f true) Q E s₁) E s):wpAny (model prog w) A (eval (.Attribute e f pos) env) Q E s:=
 Attribute_any_ h (by rw [arm_eval_Attribute,hb])
end
def tFld (K:PySem.W.Frag) (ta:TE) (f:Str):TE:=fun σ H Q=>ta σ H fun x H1=>∃ a C dx fs v,x= .ref a∧H1 a=some (.ins C dx fs)∧Cls K C∧NoAttr K C f∧fs.lookup f=some v∧Q v H1
def sFld (K:PySem.W.Frag) (ta tv:TE) (f:Str):TS:=fun D σ H=>tv σ H fun y H1=>ta σ H1 fun x H2=>∃ a C dx fs,x= .ref a∧H2 a=some (.ins C dx fs)∧Cls K C∧NoAttr K C f∧fs.length<1000∧
 D.nx σ (upd H2 a (.ins C dx (putF f y fs)))
section
variable {X:Cx} {o e value:Expr} {f:Str} {pos pos' tpos:Pos} {ta tv:TE}
theorem pe_fld (he:PE X e ta) (hb:attributeBase e f X.env (eval e X.env)=eval e X.env):PE X (.Attribute e f pos) (tFld X.K ta f):=by
 intro pins s σ H Q I h
 refine attr_of hb (thn (he pins s σ H _ I h) fun u s1 ⟨x,H1,I1,rx,a,C,dx,fs,v,ex,ea,c,n,l,q⟩=> ?_)
 subst ex
 obtain rfl:u=Value.ref a:=rx
 exact getattr_ok I1 ea c n l fun u' s2 I2 ru=>⟨v,H1,I2,ru,q⟩
theorem ps_fld (ha:PE X o ta) (hv:PE X value tv) (hs:swapsWith value (some (.Attribute o f pos')) pos.line X.env=pure false):PS X (.Assign [.Attribute o f pos'] value pos) (sFld X.K ta tv f):=by
 intro pins s σ H D I h
 refine plainObj_wpAny_Assign_Attribute (thn (hv pins s σ H _ I h) fun u s1 ⟨y,H1,I1,ry,q⟩=>thn (ha pins s1 σ H1 _ I1 q) fun ov s2 ⟨x,H2,I2,rx,a,C,dx,fs,ex,ea,c,n,l,q2⟩=> ?_) hs
 subst ex
 obtain rfl:ov=Value.ref a:=rx
 exact setattr_ok I2 ea c n l ry fun s3 I3=>⟨σ,_,I3,q2⟩
end
section
variable {X:Cx} {pins:List (Addr×Obj)} {σ:St} {H:Hp} {s:Shared} {A:Around} {E:Value→Shared→Prop} {Q:Value→Shared→Prop} {c:Value} {b:Bool}
inductive TyOf (K:PySem.W.Frag) (H:Hp):V→Value→Prop where
 |non:TyOf K H .non (.type "NoneType")
 |bl (x:Bool):TyOf K H (.bl x) (.type "bool")
 |int (i:Int):TyOf K H (.int i) (.type "int")
 |str (x:Str):TyOf K H (.str x) (.type "str")
 |flt (x:UInt64):TyOf K H (.flt x) (.type "float")
 |lst {a:Addr} {xs:List V} (e:H a=some (.lst xs)):TyOf K H (.ref a) (.type "list")
 |frz {a:Addr} {o:Obj} {xs:List V} (e:H a=some (.frz o (.lst xs))):TyOf K H (.ref a) (.type "list")
 |tup {a:Addr} {xs:List V} (e:H a=some (.tup xs)):TyOf K H (.ref a) (.type "tuple")
 |dK {a:Addr} {kvs:List (Key×V)} (e:H a=some (.dK kvs)):TyOf K H (.ref a) (.type "dict")
 |dT {a:Addr} {kvs:List (List Key×V)} (e:H a=some (.dT kvs)):TyOf K H (.ref a) (.type "dict")
 |ins {a C dx:Addr} {fs:List (Str×V)} (e:H a=some (.ins C dx fs)) (cl:Cls K C) (ha:PySem.W.findIn K (.ref C) "__class__"=some (some (.builtin "object.__class__")))
   (hn:PySem.W.specialIn K (.builtin "object.__class__") "__get__"=some (some (.builtin "getset_descriptor.__get__"))) (htk:PySem.W.takesIn K (.builtin "object.__class__")=some true)
   (hm:PySem.W.mroIn K C (.type "object")=some true):TyOf K H (.ref a) (.ref C)
end
end L2
namespace L2
open PySem PySem.Spec PyProof.Rows
structure Room (k:Nat) (A:Around):Prop where
 hd:A.handled=none
 dp:A.depth+3*k+5<recursionLimit
 un:A.units+16*k+200<cLine
 gd:A.guards=some []
theorem Room.mono {j k:Nat} {A:Around} (r:Room k A) (h:j≤k):Room j A:=⟨r.hd,by have:=r.dp;omega,by have:=r.un;omega,r.gd⟩
theorem Room.deeper {k:Nat} {A:Around} (r:Room (k+1) A) (env:Env):Room k (A.deeper env):=
 ⟨r.hd,by have:=r.dp;show A.depth+1+3*k+5<_;omega,by have:=r.un;show A.units+3+16*k+200<_;omega,r.gd⟩
theorem Room.in1 {k:Nat} {A:Around} (r:Room (k+1) A):Room k A.in1:=
 ⟨r.hd,by have:=r.dp;show A.depth+3*k+5<_;omega,by have:=r.un;show A.units+1+16*k+200<_;omega,r.gd⟩
theorem make_depth {A:Around} {C:Addr} {us:List Value} {kw:List (Str×Value)}:(A.under (.builtin "type.__call__" ⟨.ref C::us,kw⟩)).depth=A.depth+1:=by
 first|rfl|simp [Around.under,Code.weight,Code.isCreation,Code.isGuard,Code.isCaller,Code.frames,Code.isFrame,guardIds]
theorem make_units {A:Around} {C:Addr} {us:List Value} {kw:List (Str×Value)}:(A.under (.builtin "type.__call__" ⟨.ref C::us,kw⟩)).units=A.units+1:=by
 first|rfl|simp [Around.under,Code.cUnits,Code.frames,Code.isFrame]
theorem Room.make {k:Nat} {A:Around} (r:Room (k+1) A) (C:Addr) (us:List Value) (kw:List (Str×Value)):Room k (A.under (.builtin "type.__call__" ⟨.ref C::us,kw⟩)):=
 ⟨r.hd,by have:=r.dp;rw [make_depth];omega,by have:=r.un;rw [make_units];omega,by first|exact r.gd|(simpa [Around.under,Code.guards,pushGuards] using r.gd)⟩
theorem Room.depth {k:Nat} {A:Around} (r:Room k A):A.depth<recursionLimit:=by have:=r.dp;omega
theorem Room.units {k:Nat} {A:Around} (r:Room k A):A.units+64<cLine:=by have:=r.un;omega
def tNil:TA:=fun _ H Q=>Q [] H
def tCons (ta:TE) (tr:TA):TA:=fun σ H Q=>ta σ H fun x H1=>tr σ H1 fun xs H2=>Q (x::xs) H2
section
variable {X:Cx} {e:Expr} {es:List Expr} {te:TE} {t:TA} {pos:Pos}
theorem pa_nil:PA X [] tNil:=fun _ _ _ _ H Q I h=>Calls.spliced_nil ⟨[],H,I, .nil,h⟩
theorem pa_cons (ha:PE X e te) (hr:PA X es t) (hs:starEach (e::es) X.env=(false,eval e X.env)::starEach es X.env:=by rfl):PA X (e::es) (tCons te t):=by
 intro pos pins s σ H Q I h
 rw [hs]
 show wpAny _ _ (spliced ((false,eval e X.env)::backTo pos (starEach es X.env))) _ _ s
 refine Calls.spliced_cons (thn (ha pins s σ H _ I h) fun u s1 ⟨x,H1,I1,r1,q1⟩=> ?_)
 exact thn (hr pos pins s1 σ H1 _ I1 q1) fun us s2 ⟨xs,H2,I2,r2,q2⟩=>⟨x::xs,H2,I2, .cons r1 r2,q2⟩
def tTup (t:TA):TE:=fun σ H Q=>t σ H fun xs H1=>xs.length≤sizeLine∧∀ p,H1 p=none→Q (.ref p) (upd H1 p (.tup xs))
def tLst (t:TA):TE:=fun σ H Q=>t σ H fun xs H1=>xs.length≤sizeLine∧∀ p,H1 p=none→Q (.ref p) (upd H1 p (.lst xs))
theorem pe_tup {x1} (h:PA X es t):PE X (.Tuple es x1 pos) (tTup t):=by
 intro pins s σ H Q I hq
 refine wpAny_Tuple_spliced (thn (h pos pins s σ H _ I hq) fun us s1 ⟨xs,H1,I1,r,z,q⟩=>⟨by rw [←r.length];exact z,?_⟩)
 have hf:H1 s1.heap.objs.size=none:=I1.hok.fresh (Nat.le_refl _)
 refine ⟨.ref s1.heap.objs.size,upd H1 s1.heap.objs.size (.tup xs),I1.laid (t':=s1.toks) (fun b u e=>Heap.get?_push_of_some _ e) (Nat.le_refl _) ?_,rfl,q _ hf⟩
 exact ⟨z,us,r,⟨_,Heap.get?_push_size _ rfl,rfl,_,rfl⟩⟩
theorem pe_lst (h:PA X es t):PE X (.List es pos) (tLst t):=by
 intro pins s σ H Q I hq
 refine wpAny_List_spliced (thn (h pos pins s σ H _ I hq) fun us s1 ⟨xs,H1,I1,r,z,q⟩=>⟨by rw [←r.length];exact z,?_⟩)
 have hf:H1 s1.heap.objs.size=none:=I1.hok.fresh (Nat.le_refl _)
 refine ⟨.ref s1.heap.objs.size,upd H1 s1.heap.objs.size (.lst xs),I1.laid (t':=s1.toks) (fun b u e=>Heap.get?_push_of_some _ e) (Nat.le_refl _) ?_,rfl,q _ hf⟩
 exact ⟨z,us,0,r,Heap.get?_push_size _ rfl⟩
end
abbrev Sp:=List V→Hp→VK→XK→Prop
abbrev CXT:=List Env→Hp→Shared→XK→Value→Shared→Prop
structure Env0 (P:Program) (w:World) (K:PySem.W.Frag) (mg:Str→Option Value) (base:Heap) (A:Around) (outer:List Env) (s:Shared) (H:Hp):Prop where
 frames:A.frames=some outer
 mod:Mod K mg base
 bs:∀ b o,base.get? b=some o→s.heap.get? b=some o∧H b=none
 bsz:base.objs.size≤s.heap.objs.size
 funs:s.heap.FunFrames base outer
 frf:∀ b∈frs outer,H b=none
 hok:HOk P w H s.heap
 bare:AllBare s.gens
def CE (outer:List Env) (P:Program) (w:World) (H:Hp) (s:Shared) (Q:VK) (u:Value) (s':Shared):Prop:=
 ∃ v H',s'.os=s.os∧AllBare s'.gens∧Un (frs outer) [] H H' s.heap s'.heap∧HOk P w H' s'.heap∧RelV v u∧Q v H'
def CR (CX:CXT) (outer:List Env) (P:Program) (w:World) (H:Hp) (s:Shared) (Q:VK) (E:XK) (r:Result) (s':Shared):Prop:=
 match r with
 | .ok (.ret u)=>CE outer P w H s Q u s'
 | .ok _=>False
 | .error e=>CX outer H s E e s'
structure FnOk (P:Program) (w:World) (K:PySem.W.Frag) (mg:Str→Option Value) (base:Heap) (CX:CXT) (k:Nat) (f:Addr) (fd:FuncData) (ps:List Str) (sp:Sp):Prop where
 len:∀ vs H Q E,sp vs H Q E→vs.length=ps.length
 run:∀ (A:Around) (outer:List Env) (s:Shared) (H:Hp) (args:Args) (us:List Value) (vs:List V) (Q:VK) (E:XK),Room k A→Env0 P w K mg base A outer s H→BindsTo s fd args (ps.zip us)→Vals vs us→sp vs H Q E→
  codeAny (model P w) A (.call (.ref f) args) (CR CX outer P w H s Q E) s
theorem FnOk.mono {P:Program} {w:World} {K:PySem.W.Frag} {mg:Str→Option Value} {base:Heap} {CX:CXT} {j k:Nat} {f:Addr} {fd:FuncData} {ps:List Str} {sp:Sp} (F:FnOk P w K mg base CX j f fd ps sp) (h:j≤k):
  FnOk P w K mg base CX k f fd ps sp:=⟨F.len,fun A outer s H args us vs Q E hr=>F.run A outer s H args us vs Q E (hr.mono h)⟩
theorem FnOk.imp {P:Program} {w:World} {K:PySem.W.Frag} {mg:Str→Option Value} {base:Heap} {CX:CXT} {k:Nat} {f:Addr} {fd:FuncData} {ps:List Str} {sp sp':Sp} (F:FnOk P w K mg base CX k f fd ps sp)
  (h:∀ vs H Q E,sp' vs H Q E→sp vs H Q E):FnOk P w K mg base CX k f fd ps sp':=
 ⟨fun vs H Q E q=>F.len vs H Q E (h _ _ _ _ q),fun A outer s H args us vs Q E hr he hb hv hs=>F.run A outer s H args us vs Q E hr he hb hv (h _ _ _ _ hs)⟩
theorem Env0.make {P:Program} {w:World} {K:PySem.W.Frag} {mg:Str→Option Value} {base:Heap} {A:Around} {outer:List Env} {s:Shared} {H:Hp} (e:Env0 P w K mg base A outer s H) (C:Addr) (us:List Value) (kw:List (Str×Value)):
  Env0 P w K mg base (A.under (.builtin "type.__call__" ⟨.ref C::us,kw⟩)) outer s H:=⟨by first|exact e.frames|(simpa [Around.under,Code.envs,Code.isFrame,pushEnvs] using e.frames),e.mod,e.bs,e.bsz,e.funs,e.frf,e.hok,e.bare⟩
theorem Env0.in1 {P:Program} {w:World} {K:PySem.W.Frag} {mg:Str→Option Value} {base:Heap} {A:Around} {outer:List Env} {s:Shared} {H:Hp} (e:Env0 P w K mg base A outer s H):
  Env0 P w K mg base A.in1 outer s H:=⟨e.frames,e.mod,e.bs,e.bsz,e.funs,e.frf,e.hok,e.bare⟩
section
variable {X:Cx} {pins:List (Addr×Obj)} {σ:St} {H:Hp} {s s':Shared}
theorem Inv.env0 (I:Inv X pins σ H s):Env0 X.prog X.w X.K X.mg X.base X.A X.stack s H:=
 ⟨I.ok.frames,I.ok.mod,I.bs,Nat.le_trans I.ok.bsz I.sz,I.stack,I.stkFree,I.hok,I.bare⟩
theorem Inv.after {Q:VK} {u:Value} (I:Inv X pins σ H s) (h:CE X.stack X.prog X.w H s Q u s'):EP X pins σ Q u s':=by
 obtain ⟨v,H',os,bare,un,hok,r,q⟩:=h
 obtain ⟨hh,g,d,t,os'⟩:=s'
 obtain rfl:os'=s.os:=os
 exact ⟨v,H',I.call (h':=hh) (g':=g) (d':=d) (t':=t) (ch:= []) un hok bare (fun b z=>absurd z (by simp)),r,q⟩
end
def tCall (sp:Sp) (dvs:List V) (E:XK) (t:TA):TE:=fun σ H Q=>t σ H fun vs H1=>sp (vs++dvs) H1 Q E
def tMake (C:Addr) (sp:Sp) (dvs:List V) (E:XK) (t:TA):TE:=fun σ H Q=>t σ H fun vs H1=>∀ x dx,H1 x=none→H1 dx=none→dx≠x→
 sp (.ref x::(vs++dvs)) (upd (upd H1 dx (.own x)) x (.ins C dx [])) (fun v H2=>v= .non∧Q (.ref x) H2) E
def Binds (K:PySem.W.Frag) (fd:FuncData) (ps:List Str) (ds:List Value):Prop:=
 ∀ (s:Shared) (us:List Value),K.In s.heap→(us++ds).length=ps.length→BindsTo s fd ⟨us,[]⟩ (ps.zip (us++ds))
theorem Binds.all {K:PySem.W.Frag} {fd:FuncData} {ps:List Str} (h:∀ us:List Value,us.length=ps.length→bindArgs fd ⟨us,[]⟩=pure (ps.zip us)):Binds K fd ps []:=fun s us _ hl=>by
 rw [List.append_nil] at hl ⊢
 exact .of_eq (h us hl)
def Passes (CX:CXT) (X:Cx) (E:XK):Prop:=∀ (pins:List (Addr×Obj)) (σ:St) (H:Hp) (s:Shared) (e:Value) (s':Shared),Inv X pins σ H s→CX X.stack H s E e s'→X.xe e s'
section
variable {X:Cx} {CX:CXT} {k:Nat} {f C:Addr} {fd:FuncData} {ps:List Str} {sp:Sp} {dvs:List V} {ds:List Value} {E:XK} {x m:Str} {p pos apos:Pos} {e o:Expr} {es:List Expr} {ta:TE} {t:TA}
theorem run_fn {pins:List (Addr×Obj)} {σ:St} {H:Hp} {s:Shared} {Q:VK} {us:List Value} {vs:List V} (F:FnOk X.prog X.w X.K X.mg X.base CX k f fd ps sp) (hr:Room k X.A) (hb:Binds X.K fd ps ds) (hd:Vals dvs ds) (hx:Passes CX X E)
  (I:Inv X pins σ H s) (r:Vals vs us) (h:sp (vs++dvs) H Q E):wpAny (model X.prog X.w) X.A (call (.ref f) us) (EP X pins σ Q) X.xe s:=by
 have r2:Vals (vs++dvs) (us++ds):=r.append hd
 have hl:(us++ds).length=ps.length:=by rw [←r2.length];exact F.len _ _ _ _ h
 refine wpAny_call (codeAny_mono (F.run X.A X.stack s H ⟨us,[]⟩ (us++ds) (vs++dvs) Q E hr I.env0 (hb s us I.kIn hl) r2 h) fun r s' hq=> ?_)
 cases r with
 |error e=>exact hx pins σ H s e s' I hq
 |ok fl=>
  cases fl with
  |ret u=>exact I.after hq
  |next=>exact False.elim hq
  |brk=>exact False.elim hq
  |cont=>exact False.elim hq
theorem pe_call (F:FnOk X.prog X.w X.K X.mg X.base CX k f fd ps sp) (hr:Room k X.A) (hg:Gl X x) (hm:X.mg x=some (.ref f)) (hk:PySem.W.keepIn X.K (.ref f)=true) (hb:Binds X.K fd ps ds) (hd:Vals dvs ds) (hx:Passes CX X E)
  (ha:PA X (e::es) t) (hdb:(x==("__debug__":Str))=false:=by decide) (he:starEach (e::es) X.env=(false,eval e X.env)::starEach es X.env:=by rfl) (hpl:(backTo pos (starEach es X.env)).any (·.1)=false:=by rfl):
  PE X (.Call (.Name x p) (e::es) [] pos) (tCall sp dvs E t):=by
 intro pins s σ H Q I h
 refine wpAny_Call_Name_kw (ld_glob I hg hm ?_ hdb)
 refine PySem.W.callWith_K (h₀:=X.base) I.ok.mod.kin hk (thn (ha pos pins s σ H _ I h) fun us s1 ⟨vs,H1,I1,r,q⟩=>⟨I1.kIn,?_⟩) he hpl
 exact run_fn F hr hb hd hx I1 r q
structure Mk (K:PySem.W.Frag) (C f:Addr):Prop where
 makes:PySem.W.makesIn K C=true
 init:PySem.W.findIn K (.ref C) "__init__"=some (some (.ref f))
 fn:PySem.W.isFn K (.ref f)=true
 kp:PySem.W.keepIn K (.ref C)=true
theorem run_make {pins:List (Addr×Obj)} {σ:St} {H:Hp} {s:Shared} {Q:VK} {us:List Value} {vs:List V} (M:Mk X.K C f) (F:FnOk X.prog X.w X.K X.mg X.base CX k f fd ps sp) (hr:Room (k+1) X.A) (hb:Binds X.K fd ps ds) (hd:Vals dvs ds)
  (hx:Passes CX X E) (I:Inv X pins σ H s) (r:Vals vs us)
  (h:∀ x dx,H x=none→H dx=none→dx≠x→sp (.ref x::(vs++dvs)) (upd (upd H dx (.own x)) x (.ins C dx [])) (fun v H2=>v= .non∧Q (.ref x) H2) E):
  wpAny (model X.prog X.w) X.A (call (.ref C) us) (EP X pins σ Q) X.xe s:=by
 have hq:=h (s.heap.objs.size+1) s.heap.objs.size (I.hok.fresh (Nat.le_succ _)) (I.hok.fresh (Nat.le_refl _)) (Nat.ne_of_lt (Nat.lt_succ_self _))
 have I2:=Inv.made (C:=C) I
 have r2:Vals (V.ref (s.heap.objs.size+1)::(vs++dvs)) (Value.ref (s.heap.objs.size+1)::(us++ds)):= .cons rfl (r.append hd)
 have hl:(Value.ref (s.heap.objs.size+1)::us++ds).length=ps.length:=by
  have e:=r2.length
  rw [F.len _ _ _ _ hq] at e
  exact e.symm
 refine wpAny_call (make_map (f:=f) I.kIn M.makes M.init (beq_iff_eq.mp M.fn) (codeAny_mono (F.run _ X.stack _ _ ⟨Value.ref (s.heap.objs.size+1)::us,[]⟩ (Value.ref (s.heap.objs.size+1)::(us++ds)) _ _ E (hr.make C us [])
  (I2.env0.make C us []) (hb _ (Value.ref (s.heap.objs.size+1)::us) I2.kIn hl) r2 hq) fun r s' hq'=> ?_))
 cases r with
 |error e=>exact hx pins σ _ _ e s' I2 hq'
 |ok fl=>
  cases fl with
  |ret u=>
   obtain ⟨v,H',I3,rv,ev,q3⟩:=I2.after hq'
   subst ev
   exact ⟨rv,⟨V.ref (s.heap.objs.size+1),H',I3,rfl,q3⟩⟩
  |next=>exact False.elim hq'
  |brk=>exact False.elim hq'
  |cont=>exact False.elim hq'
theorem pe_make (M:Mk X.K C f) (F:FnOk X.prog X.w X.K X.mg X.base CX k f fd ps sp) (hr:Room (k+1) X.A) (hg:Gl X x) (hm:X.mg x=some (.ref C)) (hb:Binds X.K fd ps ds) (hd:Vals dvs ds) (hx:Passes CX X E)
  (ha:PA X (e::es) t) (hdb:(x==("__debug__":Str))=false:=by decide) (he:starEach (e::es) X.env=(false,eval e X.env)::starEach es X.env:=by rfl) (hpl:(backTo pos (starEach es X.env)).any (·.1)=false:=by rfl):
  PE X (.Call (.Name x p) (e::es) [] pos) (tMake C sp dvs E t):=by
 intro pins s σ H Q I h
 refine wpAny_Call_Name_kw (ld_glob I hg hm ?_ hdb)
 refine PySem.W.callWith_K (h₀:=X.base) I.ok.mod.kin M.kp (thn (ha pos pins s σ H _ I h) fun us s1 ⟨vs,H1,I1,r,q⟩=>⟨I1.kIn,?_⟩) he hpl
 exact run_make M F hr hb hd hx I1 r q
end
section
variable {X:Cx} {CX:CXT} {k:Nat} {f C:Addr} {fd:FuncData} {ps ks:List Str} {sp:Sp} {E:XK} {x m:Str} {p pos apos kpos:Pos} {e o:Expr} {es:List Expr} {kws:List Keyword} {te ta:TE} {t tk:TA} {nm:Option Str}
structure KBinds (K:PySem.W.Frag) (fd:FuncData) (ps ks:List Str) (g:List Value→List Value→List Value) (gV:List V→List V→List V):Prop where
 to:∀ (s:Shared) (us ws:List Value),K.In s.heap→(g us ws).length=ps.length→BindsTo s fd ⟨us,ks.zip ws⟩ (ps.zip (g us ws))
 rel:∀ {vs:List V} {us:List Value} {zs:List V} {ws:List Value},Vals vs us→Vals zs ws→Vals (gV vs zs) (g us ws)
variable {g:List Value→List Value→List Value} {gV:List V→List V→List V}
end
structure FnScope (N P:List Str) (sc:Scope):Prop where
 kind:sc.kind= .function
 co:sc.isCoroutine=false
 gen:sc.isGenerator=false
 nd:N.Nodup
 pre:N.take P.length=P
 par:∀ x∈P,sc.names.lookup x=some .local∨sc.names.lookup x=some .cell
 nofree:∀ y∈sc.names,y.2≠ .free
theorem bindL_out {kindOf:Str→Option NameKind} {x:Str}:∀ {binds:List (Str×Value)} {m:Str→Option Value},(∀ v,(x,v)∉binds)→bindL kindOf binds m x=m x
 | [],_,_=>rfl
 |(n,v)::r,m,h=>by
  unfold bindL
  rw [bindL_out fun w hw=>h w (List.mem_cons_of_mem _ hw)]
  split
  ·have:x≠n:=by rintro rfl;exact h v List.mem_cons_self
   simp [this]
  ·rfl
theorem bindC_out {kindOf:Str→Option NameKind} {x:Str}:∀ {binds:List (Str×Value)} {m:Str→Option Value},(∀ v,(x,v)∉binds)→bindC kindOf binds m x=m x
 | [],_,_=>rfl
 |(n,v)::r,m,h=>by
  unfold bindC
  rw [bindC_out fun w hw=>h w (List.mem_cons_of_mem _ hw)]
  split
  ·rfl
  ·have:x≠n:=by rintro rfl;exact h v List.mem_cons_self
   simp [this]
theorem bindL_get {kindOf:Str→Option NameKind} {x:Str} {v:Value}:∀ {P:List Str} {vs:List Value} {i:Nat} {m:Str→Option Value},P.Nodup→P[i]? =some x→vs[i]? =some v→kindOf x=some .local→
  bindL kindOf (P.zip vs) m x=some v
 | [],_,_,_,_,h,_,_=>by simp at h
 |_::_,[],_,_,_,_,h,_=>by simp at h
 |p::P,w::vs,0,m,nd,h1,h2,hk=>by
  simp at h1 h2;subst h1;subst h2
  show bindL kindOf ((p,w)::P.zip vs) m p=_
  unfold bindL
  rw [bindL_out fun v hv=>(List.nodup_cons.mp nd).1 (List.of_mem_zip hv).1,if_pos hk]
  simp
 |p::P,w::vs,i+1,m,nd,h1,h2,hk=>by
  show bindL kindOf ((p,w)::P.zip vs) m x=_
  unfold bindL
  exact bindL_get (i:=i) (List.nodup_cons.mp nd).2 (by simpa using h1) (by simpa using h2) hk
theorem bindC_get {kindOf:Str→Option NameKind} {x:Str} {v:Value}:∀ {P:List Str} {vs:List Value} {i:Nat} {m:Str→Option Value},P.Nodup→P[i]? =some x→vs[i]? =some v→kindOf x≠some .local→
  bindC kindOf (P.zip vs) m x=some v
 | [],_,_,_,_,h,_,_=>by simp at h
 |_::_,[],_,_,_,_,h,_=>by simp at h
 |p::P,w::vs,0,m,nd,h1,h2,hk=>by
  simp at h1 h2;subst h1;subst h2
  show bindC kindOf ((p,w)::P.zip vs) m p=_
  unfold bindC
  rw [bindC_out fun v hv=>(List.nodup_cons.mp nd).1 (List.of_mem_zip hv).1,if_neg hk]
  simp
 |p::P,w::vs,i+1,m,nd,h1,h2,hk=>by
  show bindC kindOf ((p,w)::P.zip vs) m x=_
  unfold bindC
  exact bindC_get (i:=i) (List.nodup_cons.mp nd).2 (by simpa using h1) (by simpa using h2) hk
def start (N:List Str) (vs:List V):St:=vs.map some++List.replicate (N.length-vs.length) none
def cxOf (CX:CXT) (P:Program) (w:World) (K:PySem.W.Frag) (mg:Str→Option Value) (base:Heap) (N:List Str) (qual:Str) (scope:Scope) (f:Addr) (cd:Value) (A:Around) (outer:List Env) (s:Shared) (H:Hp) (E:XK):Cx where
 prog:=P
 w:=w
 K:=K
 mg:=mg
 base:=base
 A:=A.deeper (envOfC qual scope s.heap.objs.size f cd)
 N:=N
 s₀:=s
 H₀:=H
 env:=envOfC qual scope s.heap.objs.size f cd
 outer:=outer
 stack:=envOfC qual scope s.heap.objs.size f cd::outer
 ex:= []
 calm:=true
 fn:=fun _=>true
 pn:= []
 xe:=fun e s'=>wpAny (model P w) (A.deeper (envOfC qual scope s.heap.objs.size f cd)) (leaving (envOfC qual scope s.heap.objs.size f cd) e) (fun _ s''=>CX outer H s E e s'') (fun e' s''=>CX outer H s E e' s'') s'
theorem cell_has {sc:Scope} {n:Nat} {x:Str} (h:sc.names.lookup x=some .cell):∃ c,(cellsFrom n sc.names []).lookup x=some c:=by
 have q:=PySem.W.cellsFrom_some sc.names n [] (.inl h)
 exact Option.isSome_iff_exists.mp q
theorem inv_start {CX:CXT} {P:Program} {w:World} {K:PySem.W.Frag} {mg:Str→Option Value} {base:Heap} {N ps:List Str} {qual:Str} {scope:Scope} {f:Addr} {cd:Value} {A:Around} {outer:List Env} {s s1:Shared} {H:Hp} {E:XK} {us:List Value} {vs:List V}
  (S:FnScope N ps scope) (hd:A.handled=none) (e0:Env0 P w K mg base A outer s H) (hl:vs.length=ps.length) (r:Vals vs us)
  (x:InCallC s s.heap.objs.size (bindL (envOfC qual scope s.heap.objs.size f cd).kindOf (ps.zip us) fun _=>none) (cellsFrom (s.heap.objs.size+1) scope.names []) (bindC (envOfC qual scope s.heap.objs.size f cd).kindOf (ps.zip us) fun _=>none) s1):
  Inv (cxOf CX P w K mg base N qual scope f cd A outer s H E) [] (start N vs) H s1:=by
 have hpl:ps.length≤N.length:=by have:=congrArg List.length S.pre;rw [List.length_take] at this;omega
 obtain ⟨h1,tk,rfl,hk⟩:=x.done
 have noA:∀ b:Addr,b∉(cxOf CX P w K mg base N qual scope f cd A outer s H E).ex:=fun b z=>absurd (show b∈([]:List Addr) from z) (by simp)
 refine ⟨⟨e0.mod,S.kind,rfl,rfl,Nat.le_refl _,fun y z c h1 h2=> ?_,fun y hy=> ?_,fun y c _ h=> ?_,fun _=>hd,Around.frames_deeper e0.frames, .inr ⟨rfl,rfl⟩,fun b z=>absurd z (noA b),e0.bs,e0.bsz,fun b _ _=>noA b,fun b z=>absurd z (noA b),e0.funs,e0.frf⟩,
  rfl,e0.bare,Un.kept hk,⟨_,x.toInCall.ns,fun i y v h1 h2 h3=> ?_⟩,fun y c h=>⟨_,x.cell y c h⟩,e0.hok.fresh (Nat.le_refl _),fun y c h=> ?_,fun p hp=>absurd (show p∈([]:List (Addr×Obj)) from hp) (by simp),e0.hok.kept hk,?_⟩
 ·exact name_of_addr x.apart (PySem.mem_of_lookup h1) (PySem.mem_of_lookup h2)
 ·have hy:scope.names.lookup y=some .cell∨scope.names.lookup y=some .free:=hy
  rcases hy with hy|hy
  ·exact cell_has hy
  ·exact absurd rfl (S.nofree _ (PySem.mem_of_lookup hy))
 ·exact Nat.le_of_lt (x.above y c (PySem.mem_of_lookup h))
 ·have hi:i<vs.length:=by
   unfold start at h2
   by_cases hi:i<vs.length
   ·exact hi
   ·rw [List.getElem?_append_right (by simpa using hi)] at h2
    rw [List.getElem?_replicate] at h2
    split at h2<;>cases h2
  have ha:vs[i]? =some v:=by
   unfold start at h2
   rw [List.getElem?_append_left (by simpa using hi),List.getElem?_map] at h2
   cases e:vs[i]? with
   |none=>rw [e] at h2;cases h2
   |some a=>rw [e] at h2;cases h2;rfl
  obtain ⟨u,hu,rv⟩:=r.get ha
  have hp:ps[i]? =some y:=by
   rw [←S.pre,List.getElem?_take_of_lt (by omega)];exact h1
  have ndP:ps.Nodup:=by rw [←S.pre];exact S.nd.sublist (List.take_sublist _ _)
  refine ⟨u,rv,?_⟩
  rcases S.par y (List.mem_of_getElem? hp) with k|k
  ·exact .inl ⟨k,bindL_get ndP hp hu k⟩
  ·obtain ⟨c,e⟩:=cell_has (n:=s.heap.objs.size+1) k
   refine .inr ⟨.inl k,c,e,?_⟩
   have q:=x.cell y c e
   rw [bindC_get ndP hp hu (by show scope.names.lookup y≠_;rw [k];decide)] at q
   exact q
 ·exact e0.hok.fresh (Nat.le_of_lt (x.above y c (PySem.mem_of_lookup h)))
 ·unfold start
  show _=N.length
  rw [List.length_append,List.length_map,List.length_replicate]
  omega
theorem fn_of {CX:CXT} {P:Program} {w:World} {K:PySem.W.Frag} {mg:Str→Option Value} {base:Heap} {k:Nat} {f:Addr} {name qual:Str} {params:Arguments} {body:List Stmt} {scope:Scope} {dV kV doc pm cdv ct oc:Value} {an od:Option Addr}
  {osl:Array (Option Value)} {N ps:List Str} {sp:Sp} (lk:K.lookup f=some ⟨oc,od, .func (PySem.W.fnOf name qual params body scope dV kV doc pm an cdv ct),osl⟩) (hcd:PySem.W.codeIn K cdv qual=true) (S:FnScope N ps scope)
  (len:∀ vs H Q E,sp vs H Q E→vs.length=ps.length)
  (hbody:∀ (A:Around) (outer:List Env) (s:Shared) (H:Hp) (vs:List V) (Q:VK) (E:XK),Room k (A.deeper (envOfC qual scope s.heap.objs.size f cdv))→sp vs H Q E→
   ∃ t,PSs (cxOf CX P w K mg base N qual scope f cdv A outer s H E) body t∧t {nx:=fun _ H'=>Q .non H',rt:=Q} (start N vs) H):
  FnOk P w K mg base CX (k+1) f (PySem.W.fnOf name qual params body scope dV kV doc pm an cdv ct) ps sp:=by
 refine ⟨len,fun A outer s H args us vs Q E hr e0 hb r hsp=> ?_⟩
 have hl:=len _ _ _ _ hsp
 have KX:K.In s.heap:=e0.mod.kin.keeps fun b o e=>(e0.bs b o e).1
 have lim:s.heap.NoLimit:=e0.mod.nolimit.keeps fun b o e=>(e0.bs b o e).1
 have hkind:∀ y∈ps.zip us,scope.names.lookup y.1=some .local∨(scope.names.lookup y.1=some .cell∧((cellsFrom (s.heap.objs.size+1) scope.names []).lookup y.1).isSome=true):=fun ⟨n,v⟩ hy=>by
  rcases S.par n (List.of_mem_zip hy).1 with q|q
  ·exact .inl q
  ·exact .inr ⟨q,PySem.W.cellsFrom_some _ _ _ (.inl q)⟩
 refine codeAny_call_function hr.depth (KX _ _ lk) rfl S.co S.gen rfl (PySem.W.codeRec_of KX hcd) (hb _ _ _ _ ?_)
 refine wpAny_newFunctionEnv_cells S.kind hkind fun env he s1 x=> ?_
 subst he
 refine ⟨lim.keeps x.toInCall.keep,codeAny_func ?_⟩
 obtain ⟨t,ht,hq⟩:=hbody A outer s H vs Q E (hr.deeper _) hsp
 have I:Inv (cxOf CX P w K mg base N qual scope f cdv A outer s H E) [] (start N vs) H s1:=inv_start S hr.hd e0 hl r x
 refine wpAny_mono (ht [] s1 (start N vs) H _ I hq) (fun fl s' hs=> ?_) fun e s' hs=>hs
 have fin:∀ {σ':St} {H':Hp} {v:V} {u:Value},Inv (cxOf CX P w K mg base N qual scope f cdv A outer s H E) [] σ' H' s'→RelV v u→Q v H'→CE outer P w H s Q u s':=
  fun {σ' H' v u} J rv q=>⟨v,H',J.os,J.bare,J.base,J.hok,rv,q⟩
 cases fl with
 |ret u=>
  obtain ⟨v,σ',H',J,rv,q⟩:=hs
  exact fin J rv q
 |next=>
  obtain ⟨σ',H',J,q⟩:=hs
  exact fin (v:=V.non) (u:=Value.none) J rfl q
 |brk=>
  obtain ⟨_,_,_,q⟩:=hs
  exact False.elim q
 |cont=>
  obtain ⟨_,_,_,q⟩:=hs
  exact False.elim q
end L2
namespace L2
open PySem PySem.Spec PyProof.Rows
section
variable {X:Cx} {x:Str} {p pos:Pos} {e:Expr} {es:List Expr} {t:TA} {id T:String} {r:List V→Hp→VK→Prop}
def tCB (r:List V→Hp→VK→Prop) (t:TA):TE:=fun σ H Q=>t σ H fun vs H1=>r vs H1 Q
theorem pe_callB (hc:CallR X (.builtin id) r) (hg:Gl X x) (hm:X.mg x=none) (hv:bootBuiltins x=some (.builtin id)) (ha:PA X (e::es) t) (hn:x≠"__name__":=by decide) (hdb:(x==("__debug__":Str))=false:=by decide)
  (he:starEach (e::es) X.env=(false,eval e X.env)::starEach es X.env:=by rfl) (hpl:(backTo pos (starEach es X.env)).any (·.1)=false:=by rfl):PE X (.Call (.Name x p) (e::es) [] pos) (tCB r t):=by
 intro pins s σ H Q I h
 refine wpAny_Call_Name_kw (ld_blt I hg hm hv ?_ hn hdb)
 exact PyProof.Rows.callWith_builtin1 (thn (ha pos pins s σ H _ I h) fun us s1 ⟨vs,H1,I1,r1,q1⟩=>hc pins s1 σ H1 vs us Q I1 r1 q1) he hpl
theorem pe_callTy (hc:CallR X (.type T) r) (hg:Gl X x) (hm:X.mg x=none) (hv:bootBuiltins x=some (.type T)) (ha:PA X (e::es) t) (hn:x≠"__name__":=by decide) (hdb:(x==("__debug__":Str))=false:=by decide)
  (he:starEach (e::es) X.env=(false,eval e X.env)::starEach es X.env:=by rfl) (hpl:(backTo pos (starEach es X.env)).any (·.1)=false:=by rfl):PE X (.Call (.Name x p) (e::es) [] pos) (tCB r t):=by
 intro pins s σ H Q I h
 refine wpAny_Call_Name_kw (ld_blt I hg hm hv ?_ hn hdb)
 exact PyProof.Rows.callWith_type1 (thn (ha pos pins s σ H _ I h) fun us s1 ⟨vs,H1,I1,r1,q1⟩=>hc pins s1 σ H1 vs us Q I1 r1 q1) he hpl
end
end L2
namespace HT
open PySem PyProof.Rows
section
open PySem.SeqAt
open PySem.AutoSeq1 (wpAny_loadPart')
open PySem.MeetsSeq PySem.MeetsSeq2 PySem.MeetsSeq3
end
section
variable {prog:Program} {w:World} {A:Around} {E:Value→Shared→Prop} {s:Shared}
theorem cat_tup {t b:Addr} {vs ws:List Value} {Q:Value→Shared→Prop} (ht:IsTup s.heap t vs.toArray) (hb:IsTup s.heap b ws.toArray) (hv:vs≠ [])
  (h1:ws= []→Q (.ref t) s) (h2:ws≠ []→Q (.ref s.heap.objs.size) {s with heap:=s.heap.push {cls:= .type "tuple",data:= .seq (vs++ws).toArray}})
  (hsz:vs.length+ws.length≤sizeLine):wpAny (model prog w) A (binaryOp .Add (.ref t) (.ref b)) Q E s:=by
 obtain ⟨⟨cls,dd,data,sl⟩,ho,hc,n,hd⟩:=id ht
 obtain ⟨⟨cls2,dd2,data2,sl2⟩,ho2,hc2,n2,hd2⟩:=id hb
 simp only at hc hd hc2 hd2
 subst hc hd hc2 hd2
 have e:vs.toArray++ws.toArray=(vs++ws).toArray:=by simp
 by_cases hw:ws= []
 ·exact concat_meets ⟨_,ho,rfl⟩ ⟨_,ho2,rfl⟩ noFill_tuple_add seq_tuple_add PySem.F.slot_tuple_add PySem.F.entry_tuple_add (PySem.F.args_tuple_add_2 _ _)
   (tuple_addW1 t b vs.toArray ws.toArray n n2 dd dd2 sl sl2 (by simpa using hv) (by simp [hw])) ⟨ho,ho2,h1 hw⟩
 ·refine concat_meets ⟨_,ho,rfl⟩ ⟨_,ho2,rfl⟩ noFill_tuple_add seq_tuple_add PySem.F.slot_tuple_add PySem.F.entry_tuple_add (PySem.F.args_tuple_add_2 _ _)
   (tuple_addW2 t b vs.toArray ws.toArray n n2 dd dd2 sl sl2 (by simpa using hv) (by simpa using hw) (by rw [List.size_toArray,List.size_toArray];exact hsz)) ⟨ho,ho2,?_⟩
  rw [e]
  exact h2 hw
def sIx (n d:Nat):Option Int→Nat
 |none=>d
 |some v=>if v<0 then (v+(n:Int)).toNat else min v.toNat n
theorem sIx_nat (n d k:Nat):sIx n d (some (k:Int))=min k n:=by
 show (if (k:Int)<0 then ((k:Int)+(n:Int)).toNat else min (k:Int).toNat n)=min k n
 rw [if_neg (by omega),Int.toNat_natCast]
end
end HT
namespace L2
open PySem PySem.Spec PyProof.Rows
abbrev TO:=St→Hp→(Option Int→Hp→Prop)→Prop
def PO (X:Cx) (e:Option Expr) (t:TO):Prop:=
 ∀ (pins:List (Addr×Obj)) (s:Shared) (σ:St) (H:Hp) (Q:Option Int→Hp→Prop),Inv X pins σ H s→t σ H Q→
  wpAny (model X.prog X.w) X.A (evalPart e X.env) (fun u s'=>∃ o H',Inv X pins σ H' s'∧IsPart u o∧Q o H') X.xe s
def tNoPart:TO:=fun _ H Q=>Q none H
def tPart (t:TE):TO:=fun σ H Q=>t σ H fun x H1=>∃ i,x= .int i∧Q (some i) H1
theorem intsAre_of {ns:List Int}:∀ {us:List Value},Vals (ns.map V.int) us→IntsAre us ns:=by
 induction ns with
 |nil=>intro us r;rw [List.map_nil] at r;cases r;exact .nil
 |cons n ns ih=>
  intro us r
  rw [List.map_cons] at r
  cases r with
  |cons r1 r2=>
   obtain ⟨t,e⟩:=r1
   subst e
   exact .cons n t (ih r2)
section
variable {X:Cx} {e:Expr} {te:TE} {lo hi:Option Expr} {tl th:TO} {pos p2:Pos}
theorem po_none:PO X none tNoPart:=by
 intro pins s σ H Q I h
 rw [evalPart_none]
 exact wpAny_pure ⟨none,H,I, .none,h⟩
theorem po_some (h:PE X e te):PO X (some e) (tPart te):=by
 intro pins s σ H Q I hw
 rw [evalPart_some]
 refine thn (h pins s σ H _ I hw) fun u s1 ⟨x,H1,I1,r1,q1⟩=> ?_
 obtain ⟨i,rfl,q⟩:=q1
 obtain ⟨t,rfl⟩:=r1
 exact ⟨some i,H1,I1, .int i t,q⟩
def SlR (X:Cx) (r:V→Option Int→Option Int→Hp→VK→Prop):Prop:=
 ∀ (pins:List (Addr×Obj)) (s:Shared) (σ:St) (H:Hp) (x:V) (v vl vu:Value) (lo hi:Option Int) (sl:Addr) (Q:VK),Inv X pins σ H s→RelV x v→s.heap.IsSliceOf sl vl vu .none→IsPart vl lo→IsPart vu hi→r x lo hi H Q→
  ∃ T id,typeLookup (.type T) "__getitem__"=pure (some (.builtin id))∧s.TypeIs v T∧wpAny (model X.prog X.w) X.A (getItem v (.ref sl)) (EP X pins σ Q) X.xe s
theorem SlR.or {r r':V→Option Int→Option Int→Hp→VK→Prop} (h:SlR X r) (h':SlR X r'):SlR X (fun x lo hi H Q=>r x lo hi H Q∨r' x lo hi H Q):=by
 intro pins s σ H x v vl vu lo hi sl Q I rx hs pl pu q
 rcases q with q|q
 ·exact h pins s σ H x v vl vu lo hi sl Q I rx hs pl pu q
 ·exact h' pins s σ H x v vl vu lo hi sl Q I rx hs pl pu q
def tSl (r:V→Option Int→Option Int→Hp→VK→Prop) (te:TE) (tl th:TO):TE:=fun σ H Q=>te σ H fun x H1=>tl σ H1 fun l H2=>th σ H2 fun u H3=>r x l u H3 Q
theorem pe_slice {r:V→Option Int→Option Int→Hp→VK→Prop} (hr:SlR X r) (he:PE X e te) (hl:PO X lo tl) (hu:PO X hi th):PE X (.Subscript e (.Slice lo hi none p2) pos) (tSl r te tl th):=by
 intro pins s σ H Q I h
 refine Subscript_ (thn (he pins s σ H _ I h) fun v s1 ⟨x,H1,I1,r1,q1⟩=> ?_)
 refine wpAny_Slice (thn (hl pins s1 σ H1 _ I1 q1) fun vl s2 ⟨l,H2,I2,pl,q2⟩=>thn (hu pins s2 σ H2 _ I2 q2) fun vu s3 ⟨u,H3,I3,pu,q3⟩=> ?_)
 rw [evalPart_none]
 refine wpAny_pure ?_
 have I4:Inv X pins σ H3 {s3 with heap:=s3.heap.push {cls:= .type "slice",data:= .fields #[vl,vu, .none]}}:=I3.kept (t':=s3.toks) fun b ob q=>Heap.get?_push_of_some _ q
 obtain ⟨T,id,hT,ht,hg⟩:=hr pins {s3 with heap:=s3.heap.push {cls:= .type "slice",data:= .fields #[vl,vu, .none]}} σ H3 x v vl vu l u s3.heap.objs.size Q I4 r1 (Heap.IsSliceOf.new ..) pl pu q3
 show wpAny (model X.prog X.w) X.A (subscriptTail e (.Slice lo hi none p2) v (.ref s3.heap.objs.size)) (EP X pins σ Q) X.xe {s3 with heap:=s3.heap.push {cls:= .type "slice",data:= .fields #[vl,vu, .none]}}
 exact tail_any (ops:= [.ref s3.heap.objs.size,v]) ht hT hg (by with_unfolding_all rfl)
def cutV (xs:List V) (lo hi:Option Int):List V:=(xs.drop (HT.sIx xs.length 0 lo)).take (HT.sIx xs.length xs.length hi-HT.sIx xs.length 0 lo)
theorem cutV_length (xs:List V) (lo hi:Option Int):(cutV xs lo hi).length≤xs.length:=by
 unfold cutV
 rw [List.length_take,List.length_drop]
 omega
def rCatT (K:PySem.W.Frag):R2:=fun x y H Q=>∃ a b xs ys,x= .ref a∧y= .ref b∧SqT K H a xs∧SqT K H b ys∧xs≠ []∧xs.length+ys.length≤sizeLine∧
 (ys= []→Q (.ref a) H)∧(ys≠ []→∀ p,H p=none→Q (.ref p) (upd H p (.tup (xs++ys))))
theorem Vals.nil_iff {xs:List V} {us:List Value} (r:Vals xs us):us= []↔xs= []:=by
 cases r with
 |nil=>simp
 |cons _ _=>simp
theorem op_catT:OpR X (binaryOp .Add) (rCatT X.K):=by
 intro pins s σ H x y v u Q I rx ry h
 obtain ⟨a,b,xs,ys,rfl,rfl,ha,hb,hx,hz,q1,q2⟩:=h
 cases rx
 cases ry
 obtain ⟨its,r1,p1,_⟩:=I.tuple ha
 obtain ⟨its2,r2,p2,_⟩:=I.tuple hb
 refine HT.cat_tup p1 p2 (fun z=>hx (r1.nil_iff.mp z)) (fun z=>⟨.ref a,H,I,rfl,q1 (r2.nil_iff.mp z)⟩) (fun z=> ?_) (by rw [←r1.length,←r2.length];exact hz)
 refine ⟨.ref s.heap.objs.size,_,I.laid (t':=s.toks) (o:= .tup (xs++ys)) (fun b ob q=>Heap.get?_push_of_some _ q) (Nat.le_refl _) ?_,rfl,q2 (fun w=>z (r2.nil_iff.mpr w)) _ (I.hok.fresh (Nat.le_refl _))⟩
 exact ⟨by rw [List.length_append];exact hz,_,r1.append r2,IsTup.new _ _⟩
end
end L2
namespace L2
open PySem PySem.Spec PyProof.Rows
def ixN (n:Nat) (i:Int):Option Nat:=if 0≤i then (if i<n then some i.toNat else none) else if -(n:Int)≤i then some (i+n).toNat else none
def atI {α:Type} (xs:List α) (i:Int):Option α:=(ixN xs.length i).bind fun j=>xs[j]?
theorem ixN_seq {n:Nat} {i:Int} {j:Nat} (h:ixN n i=some j):seqIndex? i n=some j∧j<n∧ -(n:Int)≤i∧i<n:=by
 unfold ixN at h
 by_cases h0:0≤i
 ·rw [if_pos h0] at h
  by_cases h1:i<n
  ·rw [if_pos h1] at h
   have e:i.toNat=j:=Option.some.inj h
   exact ⟨by rw [seqIndex_of h0 h1,e],by omega,by omega,h1⟩
  ·rw [if_neg h1] at h;cases h
 ·rw [if_neg h0] at h
  by_cases h1: -(n:Int)≤i
  ·rw [if_pos h1] at h
   have e:(i+n).toNat=j:=Option.some.inj h
   exact ⟨by rw [seqIndex_neg (by omega) h1,e],by omega,h1,by omega⟩
  ·rw [if_neg h1] at h;cases h
theorem atI_get {α:Type} {xs:List α} {i:Int} {v:α} (h:atI xs i=some v):∃ j,seqIndex? i xs.length=some j∧xs[j]? =some v∧j<xs.length∧ -(xs.length:Int)≤i∧i<xs.length:=by
 unfold atI at h
 cases e:ixN xs.length i with
 |none=>rw [e] at h;cases h
 |some j=>
  rw [e] at h
  obtain ⟨h1,h2,h3,h4⟩:=ixN_seq e
  exact ⟨j,h1,h,h2,h3,h4⟩
def PlainIx (b:Expr):Prop:=∀ o i,subscripted b false o i=operate [o,i] (getItem o i)
def IxR (X:Cx) (r:R2):Prop:=
 ∀ (value slice:Expr) (pins:List (Addr×Obj)) (s:Shared) (σ:St) (H:Hp) (x y:V) (v u:Value) (Q:VK),Inv X pins σ H s→RelV x v→RelV y u→r x y H Q→
  subscripted slice false v u=operate [v,u] (getItem v u)→wpAny (model X.prog X.w) X.A (subscriptTail value slice v u) (EP X pins σ Q) X.xe s
def MtR (X:Cx) (id:String) (r:V→List V→Hp→VK→Prop):Prop:=
 ∀ (pins:List (Addr×Obj)) (s:Shared) (σ:St) (H:Hp) (x:V) (xs:List V) (v:Value) (us:List Value) (Q:VK),Inv X pins σ H s→RelV x v→Vals xs us→r x xs H Q→
  wpAny (model X.prog X.w) X.A (call (.builtin id) (v::us)) (EP X pins σ Q) X.xe s
section
variable {X:Cx} {a b:Expr} {ta tb:TE} {pos:Pos}
theorem IxR.or {r r':R2} (h:IxR X r) (h':IxR X r'):IxR X (fun x y H Q=>r x y H Q∨r' x y H Q):=by
 intro value slice pins s σ H x y v u Q I rx ry q hs
 rcases q with q|q
 ·exact h value slice pins s σ H x y v u Q I rx ry q hs
 ·exact h' value slice pins s σ H x y v u Q I rx ry q hs
theorem MtR.or {id:String} {r r':V→List V→Hp→VK→Prop} (h:MtR X id r) (h':MtR X id r'):MtR X id (fun x xs H Q=>r x xs H Q∨r' x xs H Q):=by
 intro pins s σ H x xs v us Q I rx rs q
 rcases q with q|q
 ·exact h pins s σ H x xs v us Q I rx rs q
 ·exact h' pins s σ H x xs v us Q I rx rs q
theorem pe_ix {r:R2} (hr:IxR X r) (ha:PE X a ta) (hb:PE X b tb) (hs:PlainIx b):PE X (.Subscript a b pos) (tOp r ta tb):=by
 intro pins s σ H Q I h
 exact Subscript_ (binT ha hb I h fun v u s2 x y H2 I2 rx ry q=>hr a b pins s2 σ H2 x y v u Q I2 rx ry q (hs _ _))
def rIxL (K:PySem.W.Frag):R2:=fun x y H Q=>∃ p xs i v,x= .ref p∧y= .int i∧SqL K H p xs∧atI xs i=some v∧Q v H
def rIxT (K:PySem.W.Frag):R2:=fun x y H Q=>∃ p xs i v,x= .ref p∧y= .int i∧SqT K H p xs∧atI xs i=some v∧Q v H
def rIxS:R2:=fun x y H Q=>∃ z i c,x= .str z∧y= .int i∧z.length≤sizeLine∧atI z.cps.toList i=some c∧Q (.str ⟨#[c]⟩) H
theorem ix_list:IxR X (rIxL X.K):=by
 intro value slice pins s σ H x y v u Q I rx ry h hs
 obtain ⟨p,xs,i,z,rfl,rfl,hq,he,q⟩:=h
 cases rx
 obtain ⟨t,rfl⟩:=ry
 obtain ⟨its,r,pl,hz⟩:=I.list hq
 obtain ⟨j,h1,h2,h3,h4,h5⟩:=atI_get he
 obtain ⟨w,ew,rw'⟩:=r.get h2
 have hl:=r.length
 have hn:=line63
 have fin:EP X pins σ Q w s:=⟨z,H,I,rw',q⟩
 by_cases h0:0≤i
 ·have hj:i.toNat=j:=by
   rw [seqIndex_of h0 h5] at h1
   exact Option.some.inj h1
  exact item_listR pl.isList h0 (by omega) (by rw [hj];simpa using ew) fin hs
 ·have hj:(i+(its.toArray.size:Int)).toNat=j:=by
   rw [seqIndex_neg (by omega) h4] at h1
   rw [List.size_toArray,←hl]
   exact Option.some.inj h1
  exact subscriptTail_builtinR (x:=w) pl.isList.typeIs slot_list_getitem.lookup
   (wpAny_getItem_list_neg (Q:=fun r s'=>r=w∧EP X pins σ Q r s') pl.isList (by omega) (by rw [List.size_toArray]<;>omega) (by omega) (by rw [hj];simpa using ew) ⟨rfl,fin⟩) hs
theorem ix_tup:IxR X (rIxT X.K):=by
 intro value slice pins s σ H x y v u Q I rx ry h hs
 obtain ⟨p,xs,i,z,rfl,rfl,hq,he,q⟩:=h
 cases rx
 obtain ⟨t,rfl⟩:=ry
 obtain ⟨its,r,pl,hz⟩:=I.tuple hq
 obtain ⟨j,h1,h2,h3,h4,h5⟩:=atI_get he
 obtain ⟨w,ew,rw'⟩:=r.get h2
 have hl:=r.length
 have hn:=line63
 have fin:EP X pins σ Q w s:=⟨z,H,I,rw',q⟩
 exact subscriptTail_builtinR (x:=w) pl.typeIs slot_tuple_getitem.lookup
  (getItem_tuple (j:=j) (Q:=fun r s'=>r=w∧EP X pins σ Q r s') pl (by omega) (by omega) (by rw [List.size_toArray,←hl];exact h1) (by simpa using ew) ⟨rfl,fin⟩) hs
theorem ix_str:IxR X rIxS:=by
 intro value slice pins s σ H x y v u Q I rx ry h hs
 obtain ⟨z,i,c,rfl,rfl,hz,he,q⟩:=h
 obtain ⟨t,rfl⟩:=rx
 obtain ⟨t',rfl⟩:=ry
 obtain ⟨j,h1,h2,h3,h4,h5⟩:=atI_get he
 have hl:z.cps.toList.length=z.length:=by simp [Str.length]
 rw [hl] at h1 h4 h5
 have hn:=line63
 exact tail_any (typeIs_str s z t) slot_str_getitem.lookup (getItem_str (c:=c) (by
  have e1:decide (i< -(2^63:Int))=false:=decide_eq_false (by omega)
  have e2:decide (i≥2^63)=false:=decide_eq_false (by omega)
  rw [e1,e2,Bool.or_false]) (by rw [h1];simpa using h2) ⟨.str ⟨#[c]⟩,H,I.tok _,⟨_,rfl⟩,q⟩) hs
def rIx (K:PySem.W.Frag):R2:=fun x y H Q=>rIxL K x y H Q∨rIxT K x y H Q∨rIxS x y H Q
theorem ix_seq:IxR X (rIx X.K):=ix_list.or (ix_tup.or ix_str)
theorem Inv.lst {pins:List (Addr×Obj)} {σ:St} {H:Hp} {s:Shared} {p:Addr} {xs:List V} (I:Inv X pins σ H s) (h:H p=some (.lst xs)):
  ∃ (its:List Value) (n:Nat),Vals xs its∧s.heap.get? p=some {cls:= .type "list",data:= .seq its.toArray n}∧xs.length≤sizeLine:=by
 obtain ⟨z,its,n,r,e⟩:=I.hok p _ h
 exact ⟨its,n,r,e,z⟩
theorem slice_bounds (lo hi:Option Int) (n:Nat):(sliceBounds lo hi none n).1=((HT.sIx n 0 lo:Nat):Int)∧(sliceBounds lo hi none n).2.1=((HT.sIx n n hi:Nat):Int)∧(sliceBounds lo hi none n).2.2=1:=by
 refine ⟨?_,?_,rfl⟩
 ·cases lo with
  |none=>simp [sliceBounds,HT.sIx]
  |some i=>
   simp only [sliceBounds,HT.sIx,Option.getD_none,show (1:Int)>0 by decide,if_true]
   by_cases h:i<0
   ·simp only [h,if_true]<;>omega
   ·simp only [h,if_false]<;>omega
 ·cases hi with
  |none=>simp [sliceBounds,HT.sIx]
  |some i=>
   simp only [sliceBounds,HT.sIx,Option.getD_none,show (1:Int)>0 by decide,if_true]
   by_cases h:i<0
   ·simp only [h,if_true]<;>omega
   ·simp only [h,if_false]<;>omega
theorem slicePick_cut (its:List Value) (lo hi:Option Int):slicePick its.toArray lo hi none=((its.drop (HT.sIx its.length 0 lo)).take (HT.sIx its.length its.length hi-HT.sIx its.length 0 lo)).toArray:=by
 obtain ⟨h1,h2,h3⟩:=slice_bounds lo hi its.toArray.size
 unfold slicePick
 rw [h1,h2,h3]
 simp only [sliceRange_one,pick_run,List.size_toArray]<;>rfl
def rSlL (K:PySem.W.Frag):V→Option Int→Option Int→Hp→VK→Prop:=fun x lo hi H Q=>∃ a xs,x= .ref a∧SqL K H a xs∧∀ p,H p=none→Q (.ref p) (upd H p (.lst (cutV xs lo hi)))
theorem sl_list:SlR X (rSlL X.K):=by
 intro pins s σ H x v vl vu lo hi sl Q I rx hs pl pu h
 obtain ⟨a,xs,rfl,hx,q⟩:=h
 cases rx
 obtain ⟨its,r,ht,hz⟩:=I.list hx
 have hlen:=r.length
 refine ⟨"list",_,slot_list_getitem.lookup,ht.isList.typeIs,?_⟩
 refine wpAny_getItem_list_slice ht.isList hs pl pu .none (by simp) ?_ (by rw [List.size_toArray]<;>omega)
 rw [slicePick_cut,←hlen]
 refine ⟨.ref s.heap.objs.size,_,I.laid (t':=s.toks) (o:= .lst (cutV xs lo hi)) (fun b ob q=>Heap.get?_push_of_some _ q) (Nat.le_refl _) ?_,rfl,q _ (I.hok.fresh (Nat.le_refl _))⟩
 exact ⟨Nat.le_trans (cutV_length xs lo hi) hz,_,0,(r.drop (HT.sIx xs.length 0 lo)).take (HT.sIx xs.length xs.length hi-HT.sIx xs.length 0 lo),Heap.get?_push_size _ rfl⟩
def flatV:V→Bool
 | .non=>true
 | .bl _=>true
 | .int _=>true
 | .str _=>true
 |_=>false
def eqV:V→V→Bool
 | .non, .non=>true
 | .bl a, .bl b=>a==b
 | .bl a, .int b=>(if a then 1 else 0)==b
 | .int a, .bl b=>a==(if b then 1 else 0)
 | .int a, .int b=>a==b
 | .str a, .str b=>a==b
 |_,_=>false
theorem eqAt_V {A:Around} {s:Shared} {y x:V} {u v:Value} (ry:RelV y u) (rx:RelV x v) (fy:flatV y=true) (fx:flatV x=true):SeqAt.EqAt A s u v (eqV y x):=by
 cases y with
 |non=>
  cases ry
  cases x with
  |non=>cases rx;exact SeqAt.EqAt.same _
  |bl b=>cases rx;exact SeqAt.EqAt.none_bool b
  |int b=>obtain ⟨t,rfl⟩:=rx;exact SeqAt.EqAt.none_int b t
  |str b=>obtain ⟨t,rfl⟩:=rx;exact SeqAt.EqAt.none_str b t
  |_=>exact absurd (show false=true from fx) Bool.false_ne_true
 |bl a=>
  cases ry
  cases x with
  |non=>cases rx;exact SeqAt.EqAt.bool_none a
  |bl b=>cases rx;exact SeqAt.EqAt.bool_bool a b
  |int b=>obtain ⟨t,rfl⟩:=rx;exact SeqAt.EqAt.bool_int a b t
  |str b=>obtain ⟨t,rfl⟩:=rx;exact SeqAt.EqAt.bool_str a b t
  |_=>exact absurd (show false=true from fx) Bool.false_ne_true
 |int a=>
  obtain ⟨t',rfl⟩:=ry
  cases x with
  |non=>cases rx;exact SeqAt.EqAt.int_none a t'
  |bl b=>cases rx;exact SeqAt.EqAt.int_bool a t' b
  |int b=>obtain ⟨t,rfl⟩:=rx;exact SeqAt.EqAt.int_int a t' b t
  |str b=>obtain ⟨t,rfl⟩:=rx;exact SeqAt.EqAt.int_str a t' b t
  |_=>exact absurd (show false=true from fx) Bool.false_ne_true
 |str a=>
  obtain ⟨t',rfl⟩:=ry
  cases x with
  |non=>cases rx;exact SeqAt.EqAt.str_none a t'
  |bl b=>cases rx;exact SeqAt.EqAt.str_bool a t' b
  |int b=>obtain ⟨t,rfl⟩:=rx;exact SeqAt.EqAt.str_int a t' b t
  |str b=>obtain ⟨t,rfl⟩:=rx;exact SeqAt.EqAt.str_str a t' b t
  |_=>exact absurd (show false=true from fx) Bool.false_ne_true
 |_=>exact absurd (show false=true from fy) Bool.false_ne_true
def eqU (x:V) (u:Value):Bool:=match u with
 | .none=>eqV .non x
 | .bool b=>eqV (.bl b) x
 | .int i _=>eqV (.int i) x
 | .str z _=>eqV (.str z) x
 |_=>false
theorem eqU_of {x y:V} {u:Value} (r:RelV y u) (f:flatV y=true):eqU x u=eqV y x:=by
 cases y with
 |non=>cases r;rfl
 |bl b=>cases r;rfl
 |int i=>obtain ⟨t,rfl⟩:=r;rfl
 |str z=>obtain ⟨t,rfl⟩:=r;rfl
 |_=>exact absurd (show false=true from f) Bool.false_ne_true
theorem any_eqU {x:V}:∀ {xs:List V} {us:List Value},Vals xs us→xs.all flatV=true→us.any (eqU x)=xs.any fun y=>eqV y x
 |_,_, .nil,_=>rfl
 |y::xs,u::us, .cons r t,f=>by
  rw [List.all_cons,Bool.and_eq_true] at f
  rw [List.any_cons,List.any_cons,eqU_of r f.1,any_eqU t f.2]
theorem mem_eqAt {A:Around} {s:Shared} {x:V} {v:Value} (rx:RelV x v) (fx:flatV x=true):∀ {xs:List V} {us:List Value},Vals xs us→xs.all flatV=true→∀ u∈us,SeqAt.EqAt A s u v (eqU x u)
 |_,_, .nil,_=>fun u hu=>by cases hu
 |y::xs,u::us, .cons r t,f=>fun u' hu=>by
  rw [List.all_cons,Bool.and_eq_true] at f
  rcases List.mem_cons.mp hu with rfl|hu
  ·rw [eqU_of r f.1];exact eqAt_V r rx f.1 fx
  ·exact mem_eqAt rx fx t f.2 u' hu
def inV (x:V) (xs:List V):Bool:=xs.any fun y=>eqV y x
def rIn (K:PySem.W.Frag) (neg:Bool):R2:=fun x y H Q=>∃ p xs,y= .ref p∧(SqL K H p xs∨SqT K H p xs)∧flatV x=true∧xs.all flatV=true∧Q (.bl (if neg then !inV x xs else inV x xs)) H
theorem op_in_seq:OpR X (compareOp .In) (rIn X.K false):=by
 intro pins s σ H x y v u Q I rx ry h
 obtain ⟨p,xs,rfl,hq,fx,fs,q⟩:=h
 cases ry
 rcases hq with hq|hq
 ·obtain ⟨its,r,pl,hz⟩:=I.list hq
  refine SeqAt.in_listAt (eqU x) pl.isList (fun w hw=>mem_eqAt rx fx r fs w (by simpa using hw)) ⟨.bl _,H,I,rfl,?_⟩
  rw [show its.toArray.any (eqU x)=its.any (eqU x) by simp,any_eqU r fs]
  exact q
 ·obtain ⟨its,r,pl,hz⟩:=I.tuple hq
  refine SeqAt.in_tupleAt (eqU x) pl (fun w hw=>mem_eqAt rx fx r fs w (by simpa using hw)) ⟨.bl _,H,I,rfl,?_⟩
  rw [show its.toArray.any (eqU x)=its.any (eqU x) by simp,any_eqU r fs]
  exact q
theorem CallR.or {f:Value} {r r':List V→Hp→VK→Prop} (h:CallR X f r) (h':CallR X f r'):CallR X f (fun xs H Q=>r xs H Q∨r' xs H Q):=by
 intro pins s σ H xs us Q I rs q
 rcases q with q|q
 ·exact h pins s σ H xs us Q I rs q
 ·exact h' pins s σ H xs us Q I rs q
theorem call_list_of:CallR X (.type "list") (fun xs H Q=>∃ p ys,xs= [.ref p]∧(SqL X.K H p ys∨SqT X.K H p ys)∧∀ l,H l=none→Q (.ref l) (upd H l (.lst ys))):=by
 intro pins s σ H xs us Q I r h
 obtain ⟨p,ys,rfl,hq,q⟩:=h
 obtain ⟨u,rfl,rx⟩:=vals1 r
 cases rx
 have fin:∀ (its:List Value),Vals ys its→ys.length≤sizeLine→∀ (h':Heap) (c':Nat),(∀ b o',s.heap.get? b=some o'→h'.get? b=some o')→
   h'.get? s.heap.objs.size=some {cls:= .type "list",dict:=none,data:= .seq its.toArray c',slots:= #[]}→EP X pins σ Q (.ref s.heap.objs.size) {s with heap:=h'}:=fun its r' hz h' c' kp e=>
  ⟨.ref s.heap.objs.size,_,I.laid (t':=s.toks) kp (Nat.le_refl _) (show ObjOk X.prog X.w _ h' _ (.lst ys) from ⟨hz,its,c',r',e⟩),rfl,q _ (I.hok.fresh (Nat.le_refl _))⟩
 rcases hq with hq|hq
 ·obtain ⟨its,r',pl,hz⟩:=I.list hq
  have hlen:=r'.length
  obtain ⟨o,ho,hc,n,hd⟩:=pl.isList
  exact call_list_seq p (.inl rfl) ho hc hd (fun h' c' kp e=>fin its r' hz h' c' kp e) (by simp only [List.size_toArray]<;>omega)
 ·obtain ⟨its,r',pl,hz⟩:=I.tuple hq
  have hlen:=r'.length
  obtain ⟨o,ho,hc,n,hd⟩:=pl
  exact call_list_seq p (.inr rfl) ho hc hd (fun h' c' kp e=>fin its r' hz h' c' kp e) (by simp only [List.size_toArray]<;>omega)
theorem call_tuple_of:CallR X (.type "tuple") (fun xs H Q=>∃ p ys,xs= [.ref p]∧((SqL X.K H p ys∧∀ l,H l=none→Q (.ref l) (upd H l (.tup ys)))∨(SqT X.K H p ys∧Q (.ref p) H))):=by
 intro pins s σ H xs us Q I r h
 obtain ⟨p,ys,rfl,h⟩:=h
 obtain ⟨u,rfl,rx⟩:=vals1 r
 cases rx
 rcases h with ⟨hq,q⟩|⟨hq,q⟩
 ·obtain ⟨its,r',pl,hz⟩:=I.list hq
  have hlen:=r'.length
  refine call_tuple_list pl.isList (fun h' kp=> ?_) (by simp only [List.size_toArray]<;>omega)
  have I1:Inv X pins σ H {s with heap:=h'}:=I.kept (t':=s.toks) kp
  have I2:Inv X pins σ (upd H h'.objs.size (.tup ys)) {s with heap:=h'.push {cls:= .type "tuple",data:= .seq its.toArray}}:=
   I1.laid (t':=s.toks) (fun b o e=>Heap.get?_push_of_some _ e) (Nat.le_refl _) (show ObjOk X.prog X.w _ _ _ (.tup ys) from ⟨hz,its,r',IsTup.new _ _⟩)
  exact ⟨.ref h'.objs.size,_,I2,rfl,q _ (I1.hok.fresh (Nat.le_refl _))⟩
 ·obtain ⟨its,r',pl,hz⟩:=I.tuple hq
  exact call_tuple_same pl ⟨.ref p,H,I,rfl,q⟩
def tyV (K:PySem.W.Frag) (T:String) (x:V) (H:Hp):Prop:=match x with
 | .str _=>T="str"
 | .int _=>T="int"
 | .ref p=>(T="list"∧∃ xs,SqL K H p xs)∨(T="tuple"∧∃ o,K.lookup p=some o∧o.cls= .type "tuple"∧o.dict=none)∨
   (T="dict"∧((∃ kvs,H p=some (.dK kvs))∨∃ kvs,H p=some (.dT kvs)))∨(T="set"∧∃ S n,H p=some (.set S n))
 |_=>False
theorem tyV_is {pins:List (Addr×Obj)} {σ:St} {H:Hp} {s:Shared} {T:String} {x:V} {v:Value} (I:Inv X pins σ H s) (r:RelV x v) (ty:tyV X.K T x H):
  s.TypeIs v T∧∀ a,v= .ref a→∃ ob,s.heap.get? a=some ob∧ob.dict=none:=by
 cases x with
 |str z=>
  obtain ⟨t,rfl⟩:=r
  cases (show T="str" from ty)
  exact ⟨typeIs_str s z t,fun _ e=>nomatch e⟩
 |int i=>
  obtain ⟨t,rfl⟩:=r
  cases (show T="int" from ty)
  exact ⟨typeIs_int s i t,fun _ e=>nomatch e⟩
 |ref p=>
  cases r
  rcases ty with ⟨rfl,xs,hq⟩|⟨rfl,o,hk,hc,hd⟩|⟨rfl,hk⟩|⟨rfl,S,n,hk⟩
  ·obtain ⟨its,_,pl,_⟩:=I.list hq
   refine ⟨pl.isList.typeIs,fun a e=> ?_⟩
   cases e
   obtain ⟨o,n,e,c,hd,_⟩:=pl
   exact ⟨o,e,hd⟩
  ·refine ⟨⟨o,I.kIn p o hk,hc⟩,fun a e=> ?_⟩
   cases e
   exact ⟨o,I.kIn _ o hk,hd⟩
  ·have z:∃ o,s.heap.get? p=some o∧o.ExactDict:=by
    rcases hk with ⟨kvs,hk⟩|⟨kvs,hk⟩
    ·obtain ⟨_,_,_,_,o,_,_,e,ex,_⟩:=I.hok p _ hk
     exact ⟨o,e,ex⟩
    ·obtain ⟨_,_,_,_,o,_,_,e,ex,_⟩:=I.hok p _ hk
     exact ⟨o,e,ex⟩
   obtain ⟨o,e,ex⟩:=z
   refine ⟨⟨o,e,ex.1⟩,fun a e2=> ?_⟩
   cases e2
   exact ⟨o,e,ex.2.1⟩
  ·obtain ⟨o,_,_,_,e,ex,_⟩:=I.hok p _ hk
   refine ⟨⟨o,e,ex.1⟩,fun a e2=> ?_⟩
   cases e2
   exact ⟨o,e,ex.2.1⟩
 |_=>exact False.elim ty
def tBM (K:PySem.W.Frag) (T:String) (r:V→List V→Hp→VK→Prop) (to:TE) (t:TA):TE:=fun σ H Q=>to σ H fun x H1=>tyV K T x H1∧t σ H1 fun xs H2=>r x xs H2 Q
variable {o e:Expr} {es:List Expr} {to:TE} {t:TA} {name:Str} {apos cpos:Pos} {T id:String} {r:V→List V→Hp→VK→Prop}
theorem pe_bm (pa:PlainAttrs T) (slot:Slot T name id) (hty:typeOf (.builtin id)=pure (.type "method_descriptor")) (hm:MtR X id r) (ho:PE X o to) (ha:PA X (e::es) t)
  (hbase:attributeBase o name X.env (eval o X.env)=eval o X.env:=by rfl)
  (hfew:((backTo cpos (starEach (e::es) X.env)).all (fun x=> !x.1)&&(backToKw cpos (keywordEach [] X.env)).all (fun x=>x.1.isSome)
   &&decide ((e::es).length+([]:List Keyword).length+(if ([]:List Keyword).isEmpty then 0 else 1)<30))=true:=by rfl)
  (hline:(apos.endLine==cpos.line)=true:=by rfl) (hs:starEach (e::es) X.env=(false,eval e X.env)::starEach es X.env:=by rfl) (hplain:(backTo cpos (starEach es X.env)).any (·.1)=false:=by rfl):
  PE X (.Call (.Attribute o name apos) (e::es) [] cpos) (tBM X.K T r to t):=by
 intro pins s σ H Q I h
 refine wpAny_Call_method_late hbase hfew hline rfl (thn (ho pins s σ H _ I h) fun v s1 ⟨x,H1,I1,r1,ty,q1⟩=> ?_)
 obtain ⟨h1,h2⟩:=tyV_is I1 r1 ty
 refine ⟨T,id,pa,slot,hty,h1,h2,?_⟩
 have hA:=ha cpos pins s1 σ H1 _ I1 q1
 rw [hs] at hA ⊢
 refine Calls.callWith_builtin (by show (false||(backTo cpos (starEach es X.env)).any (·.1))=false;rw [hplain]<;>rfl) (Calls.evalArgs_plain ?_)
 exact thn hA fun us s2 ⟨vs,H2,I2,r2,q2⟩=>hm pins s2 σ H2 x vs v us Q I2 r1 r2 q2
/- xs.append(e),list.index on a module's tuple .. are MtR facts of 06m -/
end
end L2
namespace L2
open PySem PySem.Spec PyProof.Rows
def MtM (X:Cx) (id:String) (r:V→List V→Hp→VK→Prop):Prop:=
 ∀ (pins:List (Addr×Obj)) (s:Shared) (σ:St) (H:Hp) (x:V) (xs:List V) (v:Value) (us:List Value) (Q:VK),Inv X pins σ H s→RelV x v→Vals xs us→r x xs H Q→
  wpAny (model X.prog X.w) X.A (call (.builtin id) (v::us)) (EP X pins σ Q) X.xe s
theorem Vals.one:∀ {x:V} {us:List Value},Vals [x] us→∃ u,us= [u]∧RelV x u
 |_,_, .cons r .nil=>⟨_,rfl,r⟩
theorem Vals.two:∀ {x y:V} {us:List Value},Vals [x,y] us→∃ u v,us= [u,v]∧RelV x u∧RelV y v
 |_,_,_, .cons r (.cons q .nil)=>⟨_,_,rfl,r,q⟩
theorem Vals.rep {xs:List V} {us:List Value} (h:Vals xs us):∀ k:Nat,Vals (List.replicate k xs).flatten (List.replicate k us).flatten
 |0=> .nil
 |k+1=>by
  rw [List.replicate_succ,List.replicate_succ,List.flatten_cons,List.flatten_cons]
  exact Vals.append h (Vals.rep h k)
theorem foldl_rep (its:List Value):∀ (k:Nat) (acc:List Value),
  List.foldl (fun x1 x2=>x1++x2) acc.toArray (List.replicate k its.toArray)=(acc++(List.replicate k its).flatten).toArray
 |0,acc=>by simp
 |k+1,acc=>by
  have e:acc.toArray++its.toArray=(acc++its).toArray:=by simp
  have e2:(acc++its)++(List.replicate k its).flatten=acc++(List.replicate (k+1) its).flatten:=by
   rw [List.replicate_succ,List.flatten_cons,List.append_assoc]
  rw [←e2,←foldl_rep its k (acc++its),←e,List.replicate_succ,List.foldl_cons]
section
variable {X:Cx} {pins:List (Addr×Obj)} {σ:St} {H:Hp} {s:Shared} {l b:Addr} {xs ys zs:List V}
theorem Inv.lset {its its':List Value} {n:Nat} {f:Array Value→Array Value} {t':Nat} (I:Inv X pins σ H s) (hH:H l=some (.lst xs))
  (e:s.heap.get? l=some {cls:= .type "list",data:= .seq its.toArray n}) (hf:f its.toArray=its'.toArray) (hv:Vals ys its') (hz:ys.length≤sizeLine):
  Inv X pins σ (upd H l (.lst ys)) {s with heap:=s.heap.update l (Obj.mapSeq f),toks:=t'}:=by
 have q:=PySem.IsL.update e f
 rw [hf] at q
 refine I.write (x:=l) (e:=l) (by rw [hH];exact trivial) (.inl rfl) (fun b' u hb hu=>(Heap.get?_update_other s.heap (Obj.mapSeq f) (Ne.symm hb)).trans hu) ⟨_,q⟩ ?_
 exact ⟨hz,its',_,hv,q⟩
theorem Inv.lnew {its:List Value} {t':Nat} (I:Inv X pins σ H s) (hv:Vals ys its) (hz:ys.length≤sizeLine):
  Inv X pins σ (upd H s.heap.objs.size (.lst ys)) {s with heap:=s.heap.push {cls:= .type "list",data:= .seq its.toArray},toks:=t'}:=
 I.laid (fun _ _ q=>Heap.get?_push_of_some _ q) (Nat.le_refl _) ⟨hz,its,0,hv,Heap.get?_push_size _ rfl⟩
theorem Inv.fresh (I:Inv X pins σ H s):H s.heap.objs.size=none:=I.hok.fresh (Nat.le_refl _)
theorem Inv.lstM (I:Inv X pins σ H s) (hH:H l=some (.lst xs)):xs.length≤sizeLine∧∃ (its:List Value) (n:Nat),Vals xs its∧xs.length=its.length∧s.heap.get? l=some {cls:= .type "list",data:= .seq its.toArray n}:=by
 obtain ⟨z,its,n,r,e⟩:=I.hok l _ hH
 exact ⟨z,its,n,r,r.length,e⟩
theorem notLongL {n:Nat} (h:n≤sizeLine):Builtin.List.listTooLong n=false:=by
 unfold Builtin.List.listTooLong
 exact decide_eq_false (by omega)
end
section
variable {X:Cx}
def rAppend:V→List V→Hp→VK→Prop:=fun x vs H Q=>∃ l xs y,x= .ref l∧vs= [y]∧H l=some (.lst xs)∧xs.length<sizeLine∧Q .non (upd H l (.lst (xs++ [y])))
theorem mt_append:MtM X "list.append" rAppend:=by
 intro pins s σ H x vs v us Q I rx rv h
 obtain ⟨l,xs,y,rfl,rfl,hH,hz,q⟩:=h
 cases rx
 obtain ⟨u,rfl,ru⟩:=rv.one
 obtain ⟨z,its,n,r,hl,e⟩:=I.lstM hH
 refine call_meets F.slot_list_append ⟨_,e,rfl⟩ F.entry_list_append (F.args_list_append_2 _ _) (PySem.list_append l its.toArray n u (by rw [List.size_toArray];omega)) ⟨e,?_⟩
 refine ⟨.non,_,I.lset (its':=its++ [u]) hH e (by simp) (r.append (.cons ru .nil)) ?_,rfl,q⟩
 rw [List.length_append,List.length_singleton]
 omega
def rExtend:V→List V→Hp→VK→Prop:=fun x vs H Q=>∃ l b xs zs,x= .ref l∧vs= [.ref b]∧H l=some (.lst xs)∧H b=some (.lst zs)∧xs.length+zs.length≤sizeLine∧Q .non (upd H l (.lst (xs++zs)))
theorem mt_extend:MtM X "list.extend" rExtend:=by
 intro pins s σ H x vs v us Q I rx rv h
 obtain ⟨l,b,xs,zs,rfl,rfl,hH,hB,hz,q⟩:=h
 cases rx
 obtain ⟨u,rfl,ru⟩:=rv.one
 cases ru
 obtain ⟨z,its,n,r,hl,e⟩:=I.lstM hH
 obtain ⟨z2,its2,n2,r2,hl2,e2⟩:=I.lstM hB
 have hsz:its.toArray.size+its2.toArray.size≤sizeLine:=by rw [List.size_toArray,List.size_toArray];omega
 have hlong:¬ (!its.toArray.isEmpty&&Builtin.List.listTooLong (its.toArray.size+its2.toArray.size))=true:=by
  rw [notLongL hsz,Bool.and_false]
  exact Bool.false_ne_true
 refine call_meets F.slot_list_extend ⟨_,e,rfl⟩ F.entry_list_extend (F.args_list_extend_2 _ _)
  (AutoSeq1.list_extend_list_list_0 l its.toArray n b its2.toArray n2 hlong (by rw [List.size_toArray];omega) (by omega)) ⟨e,e2,?_⟩
 refine ⟨.non,_,I.lset (its':=its++its2) hH e (by simp) (r.append r2) ?_,rfl,q⟩
 rw [List.length_append]
 omega
theorem len_rep {α:Type} (xs:List α) (k:Nat):(List.replicate k xs).flatten.length=k*xs.length:=by
 induction k with
 |zero=>simp
 |succ k ih=>rw [List.replicate_succ,List.flatten_cons,List.length_append,ih,Nat.succ_mul,Nat.add_comm]
end
section
variable {prog:Program} {w:World} {A:Around} {E:Value→Shared→Prop} {s:Shared}
end
section
variable {X:Cx}
end
end L2
namespace Att
open PySem PySem.W PySem.Calls PyProof.Rows
theorem ints_of_wellAll {P:Params} {h:Heap}:∀ (ns:List Int) (vs:List Value),WellAll P h vs (ns.map WData.int)→IntsAre vs ns:=by
 intro ns
 induction ns with
 |nil=>
  intro vs w
  rw [List.map_nil] at w
  cases w
  exact .nil
 |cons n ns ih=>
  intro vs w
  rw [List.map_cons] at w
  cases w with
  |cons a b=>
   cases a
   exact .cons _ _ (ih _ b)
theorem script_of {l:OpenLaw} {n:Nat} (hn:l.most=some n) {P:Params} {h:Heap} {args:List WData} {vals:List Value}
  (hpre:l.row.toRowW.claim.pre args=true) (hwl:WellAll P h vals args):
  ∃ a vs ns,vals= [Value.ref a]∧args= [WData.list (ns.map WData.int)]∧h.get? a=some {cls:= .type "list",data:= .seq vs.toArray}∧IntsAre vs ns∧ns.length≤n:=by
 have hsh:WShape.hasAll [] args [.list .int]=true:=(pre_splitW hpre).1
 have hc:l.pre.holds [] {args:=args}=true:=(pre_splitW hpre).2
 obtain ⟨d,r,rfl,h1,h2⟩:=hasAllW_cons hsh
 obtain rfl:=hasAllW_nil h2
 obtain ⟨xs,rfl,h3⟩:=hasW_list h1
 obtain ⟨ns,rfl⟩:=items_int h3
 have hlen:ns.length≤n:=by
  unfold OpenLaw.pre at hc
  have h4:(WTm.not (.lt (.lit (.int (n:Int))) (.len (.arg 0)))).holds [] {args:= [.list (ns.map .int)]}=true:=by
   have h4:=(holds_andW hc).1
   rw [hn] at h4
   exact h4
  have h5:=condW_of h4 (w_not (w_lt w_lit (w_len_list (w_arg rfl))))
  rw [List.length_map] at h5
  refine Nat.le_of_not_lt fun q=> ?_
  have q':(n:Int)<((ns.length:Nat):Int):=by omega
  first
   |(rw [decide_eq_true q'] at h5;exact absurd h5 (by decide))
   |(simp at h5;omega)
 cases hwl with
 |cons w1 w2=>
  cases w2
  cases w1 with
  |list ho hall=>exact ⟨_,_,ns,rfl,rfl,ho,ints_of_wellAll ns _ hall,hlen⟩
theorem post_true (l:OpenLaw) (args:List WData):l.row.toRowW.claim.post args (.bool true) args=true:=
 postW_of (r:=l.row.toRowW) (X:=(true==true))
  (show WShape.has [] (.bool true) .bool=true by first|rfl|decide|simp [WShape.has,WShape.arms,WShape.armsAll])
  (show (WTm.eq .res (.lit (.bool true))).value [] {args:=args,res:=some (.bool true),after:=args}=some (.bool (true==true)) from w_eq_bool (w_res rfl) w_lit) rfl
theorem attach_call {l:OpenLaw} {n:Nat} {q:Program} {loose:List Str} {XP:(Str→Option Value)→Heap→Prop} {YP:World→Heap→Prop} {d:DefRec}
  (hn:l.most=some n) (hdf:d.params.defaults= [])
  (call:∀ (w:World) (s₀ s₁:Shared) (mg mb:Str→Option Value) (fa:Addr) (o:Obj) (pm cd doc:Value) (a:Addr) (vs:List Value) (ns:List Int),
   Ground q loose [] XP w s₀ mg mb s₁.heap→YP w s₁.heap→
   s₁.heap.get? fa=some o→o.data= .func (docDef d.name d.params d.body d.scope pm cd doc)→s₁.heap.CodeRec cd d.name→mg d.name=some (.ref fa)→
   s₁.heap.get? a=some {cls:= .type "list",data:= .seq vs.toArray}→IntsAre vs ns→ns.length≤n→s₁.gens= #[]→
   codeAny (model l.prog w) callerA (.call (.ref fa) ⟨[.ref a],[]⟩) (fun r s'=>r= .ok (.ret (.bool true))∧OldK s₁.heap s'.heap∧s'.os=s₁.os∧AllBare s'.gens) s₁):
  WalkO q loose XP YP l.row.toRowW d [] (fun f vs=>PySem.call f vs):=by
 intro w s₀ s₁ mg mb G Y fa o pm cd doc dV kV ho hd hcd hD hmg hg args vals as hpre hlay hrd hwl hlo
 obtain rfl:dV= .none:=Dflts.none hD hdf
 obtain rfl:kV= .none:=Dflts.noKw hD
 obtain ⟨a,vs,ns,rfl,rfl,hobj,hints,hlen⟩:=script_of hn hpre hwl
 refine enter_call (codeAny_mono (call w s₀ s₁ mg mb fa o pm cd doc a vs ns G Y ho (fd_plain hd) hcd hmg hobj hints hlen hg) fun r s' hq=> ?_)
 obtain ⟨rfl,h2,h3,h4⟩:=hq
 exact ⟨.inl ⟨.bool true, .bool true,[],rfl,fun _=>rfl, .bool true,post_true l _,fun _=>⟨List.Pairwise.nil,fun _ hm=>(nomatch hm)⟩⟩,h2,h3,h4⟩
section
variable {prog:Program} {w:World} {A:Around} {E:Value→Shared→Prop} {s:Shared} {K:Frag}
end
end Att
namespace L2
open PySem PySem.Spec PyProof.Rows
theorem vals_ints:∀ {vs:List Value} {ns:List Int},IntsAre vs ns→Vals (ns.map V.int) vs
 |_,_, .nil=> .nil
 |_,_, .cons n t h=> .cons ⟨t,rfl⟩ (vals_ints h)
def Only (H:Hp):Prop:=∀ b,H b=none∨∃ o xs,H b=some (.frz o (.lst xs))
theorem law_call {P:Program} {w:World} {K:PySem.W.Frag} {mg mb:Str→Option Value} {CX:CXT} {k:Nat} {fa a:Addr} {fd:FuncData} {x:Str} {sp:Sp} {s₁:Shared} {vs:List Value} {ns:List Int}
  (KX:K.In s₁.heap) (hns:s₁.heap.Ns mainGlobals mg) (hb:s₁.heap.Ns builtinsNs mb) (hbb:∀ x:Str,x≠"__name__"→mb x=bootBuiltins x) (hlim:s₁.heap.NoLimit) (hg:s₁.gens= #[])
  (ha:s₁.heap.get? a=some {cls:= .type "list",data:= .seq vs.toArray}) (hi:IntsAre vs ns) (hl:ns.length≤sizeLine) (hr:Room k callerA)
  (F:∀ base:Heap,K.In base→base.Ns mainGlobals mg→FnOk P w K mg base CX k fa fd [x] sp) (hbind:∀ (s:Shared) (u:Value),BindsTo s fd ⟨[u],[]⟩ [(x,u)])
  (hsp:∀ H:Hp,Only H→SqL K H a (ns.map V.int)→sp [.ref a] H (fun v _=>v= .bl true) fun _ _ _=>False)
  (hCX:∀ H e s',CX [] H s₁ (fun _ _ _=>False) e s'→False):
  codeAny (model P w) callerA (.call (.ref fa) ⟨[.ref a],[]⟩) (fun r s'=>r= .ok (.ret (.bool true))∧OldK s₁.heap s'.heap∧s'.os=s₁.os∧AllBare s'.gens) s₁:=by
 have rv:=vals_ints hi
 have lenV:=hi.length
 have core:∀ H:Hp,Only H→SqL K H a (ns.map V.int)→HOk P w H s₁.heap→(∀ b,H b≠none→b=a)→(H a≠none→K.lookup a=none)→
   codeAny (model P w) callerA (.call (.ref fa) ⟨[.ref a],[]⟩) (fun r s'=>r= .ok (.ret (.bool true))∧OldK s₁.heap s'.heap∧s'.os=s₁.os∧AllBare s'.gens) s₁:=by
  intro H hO hS hok hA hK
  have base_of:∀ {b:Addr} {o:Obj},s₁.heap.get? b=some o→H b=none→(hidT s₁.heap H).get? b=some o:=fun e n=>hidT_get e n
  have noA:∀ {b:Addr} {o:Obj} {es:Array DictEntry} {ep:Nat},s₁.heap.get? b=some o→o.data= .dict es ep→H b=none:=fun {b o es ep} e d=>by
   cases q:H b with
   |none=>rfl
   |some u=>
    have e':b=a:=hA b (by rw [q];simp)
    subst e'
    rw [ha] at e;cases e
    have d':Data.seq vs.toArray _=Data.dict es ep:=d
    cases d'
  have nsK:∀ {b:Addr} {m:Str→Option Value},s₁.heap.Ns b m→(hidT s₁.heap H).Ns b m:=fun {b m} ⟨o,es,ep,e,d,r⟩=>⟨o,es,ep,base_of e (noA e d),d,r⟩
  have hKb:K.In (hidT s₁.heap H):=fun b o e=>base_of (KX b o e) (by
   cases q:H b with
   |none=>rfl
   |some u=>
    have e':b=a:=hA b (by rw [q];simp)
    subst e'
    rw [hK (by rw [q];simp)] at e;cases e)
  have hM:Mod K mg (hidT s₁.heap H):=⟨hKb,nsK hns,⟨mb,nsK hb,hbb⟩,let ⟨mc,h1,h2⟩:=hlim;⟨mc,nsK h1,h2⟩⟩
  have e0:Env0 P w K mg (hidT s₁.heap H) callerA [] s₁ H:=⟨rfl,hM,fun b o e=>of_hidT e,Nat.le_of_eq (hidT_size _ _),trivial,fun b hb=>absurd (show b∈([]:List Addr) from hb) (by simp),hok, .of_eq hg⟩
  refine codeAny_mono ((F _ hKb (nsK hns)).run callerA [] s₁ H ⟨[.ref a],[]⟩ [.ref a] [.ref a] _ _ hr e0 (hbind s₁ (.ref a)) (.cons rfl .nil) (hsp H hO hS)) fun r s' h=> ?_
  cases r with
  |error e=>exact (hCX H e s' h).elim
  |ok fl=>
   cases fl with
   |next=>exact False.elim h
   |brk=>exact False.elim h
   |cont=>exact False.elim h
   |ret u=>
    obtain ⟨v,H',os,bare,un,hok',r',q⟩:=h
    have q':v= .bl true:=q
    subst q'
    obtain rfl:u=Value.bool true:=r'
    refine ⟨rfl,OldK.of_keep fun b o e=> ?_,os,bare⟩
    cases q:H b with
    |none=>exact un.keep b o e q (by intro z;exact absurd (show b∈([]:List Addr) from z) (by simp)) (by simp)
    |some u=>
     rcases hO b with z|⟨ob,xs,z⟩
     ·rw [q] at z;cases z
     ·have z2:=un.frzs b ob _ z
      obtain ⟨e1,_⟩:=hok b _ z
      obtain ⟨e2,_⟩:=hok' b _ z2
      rw [e] at e1;cases e1
      exact e2
 cases hk:K.lookup a with
 |some o=>
  have e:=KX a o hk
  rw [ha] at e
  cases e
  refine core (fun _=>none) (fun _=> .inl rfl) (.inr ⟨_,vs.toArray,_,hk,rfl,rfl,rfl,by rw [List.size_toArray,lenV];exact hl,by simpa using rv⟩) (fun b u z=>by have z':(none:Option HO)=some u:=z;cases z') (fun b z=>absurd rfl z) fun z=>absurd rfl z
 |none=>
  refine core (fun b=>if b=a then some (.frz {cls:= .type "list",data:= .seq vs.toArray} (.lst (ns.map V.int))) else none) (fun b=> ?_) (.inl (.inr ⟨{cls:= .type "list",data:= .seq vs.toArray},if_pos rfl⟩)) (fun b u z=> ?_) (fun b z=> ?_) fun _=>hk
  ·by_cases hb:b=a
   ·exact .inr ⟨_,_,if_pos hb⟩
   ·exact .inl (if_neg hb)
  ·by_cases hb:b=a
   ·have z':=(if_pos hb).symm.trans z
    cases z'
    subst hb
    exact ⟨ha,by rw [List.length_map];exact hl,vs,_,rv,ha⟩
   ·have z':=(if_neg hb).symm.trans z
    cases z'
  ·by_cases hb:b=a
   ·exact hb
   ·exact absurd (if_neg hb) z
end L2
namespace L2
open PySem PySem.Spec PyProof.Rows
theorem walk_of {l:PySem.W.OpenLaw} {n k:Nat} {q:Program} {loose:List Str} {XP:(Str→Option Value)→Heap→Prop} {YP:World→Heap→Prop} {d:DefRec} {K:Params→PySem.W.Frag} {CX:World→CXT} {sp:World→Sp} {x:Str}
  (hn:l.most=some n) (hn2:n≤sizeLine) (hdf:d.params.defaults= []) (hr:Room k callerA)
  (hY:∀ (w:World) (h:Heap),YP w h→(K w.params).In h)
  (F:∀ (w:World) (mg:Str→Option Value) (fa:Addr) (h:Heap),(K w.params).In h→h.Ns mainGlobals mg→mg d.name=some (.ref fa)→
   ∃ fd:FuncData,(∀ (s:Shared) (u:Value),BindsTo s fd ⟨[u],[]⟩ [(x,u)])∧
    ∀ base:Heap,(K w.params).In base→base.Ns mainGlobals mg→FnOk l.prog w (K w.params) mg base (CX w) k fa fd [x] (sp w))
  (hsp:∀ (w:World) (H:Hp) (a:Addr) (ns:List Int),ns.length≤n→Only H→SqL (K w.params) H a (ns.map V.int)→sp w [.ref a] H (fun v _=>v= .bl true) fun _ _ _=>False)
  (hCX:∀ (w:World) (H:Hp) (s:Shared) (e:Value) (s':Shared),CX w [] H s (fun _ _ _=>False) e s'→False):
  PySem.W.WalkO q loose XP YP l.row.toRowW d [] (fun f vs=>PySem.call f vs):=by
 refine Att.attach_call hn hdf fun w s₀ s₁ mg mb fa o pm cd doc a vs ns G Y ho hd hcd hmg hobj hints hlen hg=> ?_
 have KX:=hY w _ Y
 obtain ⟨fd,hb,hF⟩:=F w mg fa _ KX G.T.g hmg
 exact law_call KX G.T.g G.T.b G.T.builtins G.T.nolimit hg hobj hints (Nat.le_trans hlen hn2) hr hF hb (fun H hO hS=>hsp w H a ns hlen hO hS) fun H e s'=>hCX w H s₁ e s'
end L2
/- THE LAST THEOREM (shape; LID, My.* are yours):
   My.Adr: a structure of the addresses that your layer names (classes, functions); My.Txt K t: a structure (Prop) of the equations over K;
   My.txt_mk : {K} {implicit addresses ..} (e1 : nsIn K mainGlobals "law" = some (some (.ref f))) (e2 : K.lookup f = some ⟨oc, od, .func (fnOf "law" "law" params body scope dV kV doc pm an cdv ct), sl⟩) (e3 : codeIn K cdv "law" = true) .. : ∃ t, My.Txt K t
(the tactic k_is has no namespace: write k_is) -/
namespace L2
open PySem PySem.Spec PyProof.Rows
def inClass (s:Stmt) (j:Nat):Stmt:=match s with
 | .ClassDef _ _ _ body _ _ _ _ _ _ _=>body.getD j (.Pass ⟨0,0,0,0⟩)
 |_=> .Pass ⟨0,0,0,0⟩
def defArgs (s:Stmt):Arguments:=match s with
 | .FunctionDef _ a _ _ _ _ _ _ _ _=>a
 |_=> {posonlyargs:= [],args:= [],vararg:=none,kwonlyargs:= [],kw_defaults:= [],kwarg:=none,defaults:= []}
def defBody (s:Stmt):List Stmt:=match s with
 | .FunctionDef _ _ b _ _ _ _ _ _ _=>b
 |_=> []
def defScope (s:Stmt):Scope:=match s with
 | .FunctionDef _ _ _ _ _ _ sc _ _ _=>sc
 |_=> {kind:= .function,names:= [],isGenerator:=false,isCoroutine:=false}
abbrev CX0:CXT:=fun _ _ _ _ _ _=>False
abbrev E0:XK:=fun _ _ _=>False
theorem pass0 {X:Cx}:Passes CX0 X E0:=fun _ _ _ _ _ _ _ h=>h.elim
structure Fun (K:PySem.W.Frag) (x qual:Str) (st:Stmt) (f:Addr) (fd:FuncData):Prop where
 ex:∃ (oc:Value) (od:Option Addr) (kV doc pm:Value) (an:Option Addr) (cdv ct:Value) (osl:Array (Option Value)),
  fd=PySem.W.fnOf x qual (defArgs st) (defBody st) (defScope st) .none kV doc pm an cdv ct∧K.lookup f=some ⟨oc,od, .func fd,osl⟩∧PySem.W.codeIn K cdv qual=true
 kp:PySem.W.keepIn K (.ref f)=true
section
variable {P:Program} {w:World} {K:PySem.W.Frag} {mg:Str→Option Value} {base:Heap}
theorem Fun.ok {x qual:Str} {st:Stmt} {f:Addr} {fd:FuncData} {N ps:List Str} {k:Nat} {sp:Sp} (F:Fun K x qual st f fd) (S:FnScope N ps (defScope st)) (len:∀ vs H Q E,sp vs H Q E→vs.length=ps.length)
  (hbody:∀ (cdv:Value) (A:Around) (outer:List Env) (s:Shared) (H:Hp) (vs:List V) (Q:VK) (E:XK),Room k (A.deeper (envOfC qual (defScope st) s.heap.objs.size f cdv))→sp vs H Q E→
   ∃ t,PSs (cxOf CX0 P w K mg base N qual (defScope st) f cdv A outer s H E).nox (defBody st) t∧t {nx:=fun _ H'=>Q .non H',rt:=Q} (start N vs) H):FnOk P w K mg base CX0 (k+1) f fd ps sp:=by
 obtain ⟨oc,od,kV,doc,pm,an,cdv,ct,osl,rfl,lk,hcd⟩:=F.ex
 refine fn_of lk hcd S len fun A outer s H vs Q E hr hsp=> ?_
 obtain ⟨t,h,q⟩:=hbody cdv A outer s H vs Q E hr hsp
 exact ⟨t,h.nox,q⟩
theorem Fun.binds {x qual:Str} {st:Stmt} {f:Addr} {fd:FuncData} {ps:List Str} (F:Fun K x qual st f fd)
  (h:∀ (kV doc pm:Value) (an:Option Addr) (cdv ct:Value) (us:List Value),us.length=ps.length→bindArgs (PySem.W.fnOf x qual (defArgs st) (defBody st) (defScope st) .none kV doc pm an cdv ct) ⟨us,[]⟩=pure (ps.zip us)):Binds K fd ps []:=by
 obtain ⟨oc,od,kV,doc,pm,an,cdv,ct,osl,rfl,lk,hcd⟩:=F.ex
 exact .all (h kV doc pm an cdv ct)
theorem fun_mk {x qual:Str} {st:Stmt} {f:Addr} {oc:Value} {od an:Option Addr} {osl:Array (Option Value)} {kV doc pm cdv ct:Value} (l:K.lookup f=some ⟨oc,od, .func (PySem.W.fnOf x qual (defArgs st) (defBody st) (defScope st) .none kV doc pm an cdv ct),osl⟩)
  (c:PySem.W.codeIn K cdv qual=true) (k:PySem.W.keepIn K (.ref f)=true):Fun K x qual st f (PySem.W.fnOf x qual (defArgs st) (defBody st) (defScope st) .none kV doc pm an cdv ct):=⟨⟨oc,od,kV,doc,pm,an,cdv,ct,osl,rfl,l,c⟩,k⟩
end
section
variable {X:Cx}
theorem pv (i:Nat) {x:Str} {pos:Pos} (hN:X.N[i]? =some x:=by rfl) (hv:Vis X.env.scope x:=by first|exact Or.inl rfl|exact Or.inr (Or.inl rfl)|exact Or.inr (Or.inr rfl)) (hd:(x==("__debug__":Str))=false:=by decide)
  (hcd:(x==("__classdict__":Str))=false:=by decide):PE X (.Name x pos) (tVar i):=pe_var hN hv hd hcd
end
def Same (H H':Hp):Prop:=∀ b o,H b=some o→H' b=some o
theorem Same.refl (H:Hp):Same H H:=fun _ _ h=>h
theorem Same.trans {H H1 H2:Hp} (a:Same H H1) (b:Same H1 H2):Same H H2:=fun c o h=>b c o (a c o h)
theorem Same.free {H H':Hp} (e:Same H H') {l:Addr} (h:H' l=Option.none):H l=Option.none:=by
 cases q:H l with
 |none=>rfl
 |some o=>
  rw [e l o q] at h
  cases h
theorem Same.seq {K:PySem.W.Frag} {H H':Hp} {a:Addr} {xs:List V} (e:Same H H') (h:SqL K H a xs):SqL K H' a xs:=by
 rcases h with (h|⟨o,h⟩)|h
 ·exact .inl (.inl (e _ _ h))
 ·exact .inl (.inr ⟨o,e _ _ h⟩)
 ·exact .inr h
end L2
set_option maxHeartbeats 4000000
namespace L3
open PySem PySem.Spec PyProof.Rows L2
inductive D where
 |non|bl (b:Bool)|int (i:Int)|str (x:Str)|tup (ds:List D)|lst (ds:List D)|dct (ks:List Key) (ds:List D)|exc (c:Str) (ds:List D)|obj (c:Str) (ks:List Str) (ds:List D)
inductive Res (α:Type) where
 |ok (a:α)|ex (c:Str) (fs:List D)|stuck
def Res.bind {α β:Type} (r:Res α) (k:α→Res β):Res β:=match r with
 | .ok a=>k a
 | .ex c fs=> .ex c fs
 | .stuck=> .stuck
theorem Res.bind_ok {α β:Type} (a:α) (k:α→Res β):(Res.ok a).bind k=k a:=rfl
theorem Res.bind_ex {α β:Type} (c:Str) (fs:List D) (k:α→Res β):(Res.ex c fs).bind k= .ex c fs:=rfl
theorem Res.bind_stuck {α β:Type} (k:α→Res β):(Res.stuck:Res α).bind k= .stuck:=rfl
inductive Ch where
 |d (x:D)|l (ds:List D)|q (ks:List Key) (ds:List D)
inductive Tp where
 |lst|dct (ks:List Key)|ins (c:Str) (ks:List Str)|tup
inductive S where
 |d (x:D)|o (ds:List D)|q (ks:List Key) (ds:List D)|w (dss:List (List D))|k (t:Tp) (cs:List Ch)
def TpM:Tp→Prop
 | .tup=>False
 |_=>True
def ChO:Ch→Prop
 | .d _=>False
 |_=>True
def hoVs:HO→List V
 | .lst xs=>xs
 | .tup xs=>xs
 | .dK kvs=>kvs.map (·.2)
 | .ins _ _ fs=>fs.map (·.2)
 |_=> []
def TpOk (K:PySem.W.Frag):Tp→HO→Prop
 | .lst, .lst _=>True
 | .tup, .tup _=>True
 | .dct ks, .dK kvs=>kvs.map (·.1)=ks
 | .ins c ks, .ins C _ fs=>PySem.W.nsIn K mainGlobals c=some (some (.ref C))∧fs.map (·.1)=ks
 |_,_=>False
def Ow:S→Prop
 | .d _=>False
 | .k t _=>TpM t
 |_=>True
def MutO:HO→Prop
 | .lst _=>True
 | .dK _=>True
 | .ins _ _ _=>True
 |_=>False
abbrev DSt:=List (Option S)
abbrev Dx:=Option Addr×Bool
def ExcAt (a:Addr) (C:Value) (dx:Dx):Heap→Prop:=fun h=>∃ o vs,h.get? a=some o∧o.cls=C∧o.dict=dx.1∧o.data= .fields vs∧(dx.2=true→vs[2]? =some .none)
def sclV:D→Option V
 | .non=>some .non
 | .bl b=>some (.bl b)
 | .int i=>some (.int i)
 | .str x=>some (.str x)
 |_=>none
def ExV (H:Hp) (x:D) (v:V):Prop:=sclV x=some v∨∃ ds a o xs,x= .lst ds∧v= .ref a∧H a=some (.frz o (.lst xs))∧ds.map sclV=xs.map some
def ExVs (H:Hp):List D→List V→Prop
 | [],[]=>True
 |x::ds,v::vs=>ExV H x v∧ExVs H ds vs
 |_,_=>False
def ExD (H:Hp) (dx:Option Addr) (ns vs:List D):Prop:=∃ d kvs,dx=some d∧H d=some (.xd kvs)∧ns=kvs.map (fun p=>D.str p.1)∧ExVs H vs (kvs.map (·.2))
def ExF0 (H:Hp) (dx:Dx):List D→Prop
 | []=>True
 | .tup ns::vs=>ExD H dx.1 ns vs
 |_=>False
def ExF (H:Hp) (dx:Dx):List D→Prop
 | .non::fs=>ExF0 H dx fs
 |fs=>dx.2=true∧ExF0 H dx fs
theorem ExVs.to {H H':Hp} (k:∀ b o u,H b=some (.frz o u)→H' b=some (.frz o u)):∀ {ds:List D} {vs:List V},ExVs H ds vs→ExVs H' ds vs
 | [],[],h=>h
 |_::_,_::_,⟨h,t⟩=>⟨by
   rcases h with h|⟨ds,a,o,xs,e1,e2,e3,e4⟩
   ·exact .inl h
   ·exact .inr ⟨ds,a,o,xs,e1,e2,k _ _ _ e3,e4⟩,t.to k⟩
 | [],_::_,h=>h.elim
 |_::_,[],h=>h.elim
theorem ExD.to {H H':Hp} {dx:Option Addr} {ns vs:List D} (k:∀ b o u,H b=some (.frz o u)→H' b=some (.frz o u)) (k2:∀ b kvs,H b=some (.xd kvs)→H' b=some (.xd kvs)) (h:ExD H dx ns vs):ExD H' dx ns vs:=
 let ⟨d,kvs,e1,e2,e3,e4⟩:=h
 ⟨d,kvs,e1,k2 _ _ e2,e3,e4.to k⟩
theorem ExF0.to {H H':Hp} {dx:Dx} (k:∀ b o u,H b=some (.frz o u)→H' b=some (.frz o u)) (k2:∀ b kvs,H b=some (.xd kvs)→H' b=some (.xd kvs)) {fs:List D} (h:ExF0 H dx fs):ExF0 H' dx fs:=by
 cases fs with
 |nil=>trivial
 |cons y vs=>
  cases y with
  |tup ns=>exact ExD.to k k2 h
  |_=>exact h.elim
theorem ExF.to {H H':Hp} {dx:Dx} (k:∀ b o u,H b=some (.frz o u)→H' b=some (.frz o u)) (k2:∀ b kvs,H b=some (.xd kvs)→H' b=some (.xd kvs)) {fs:List D} (h:ExF H dx fs):ExF H' dx fs:=by
 cases fs with
 |nil=>exact h
 |cons y vs=>
  cases y with
  |non=>exact ExF0.to (fs:=vs) k k2 h
  |tup ns=>exact ⟨h.1,ExF0.to (fs:= .tup ns::vs) k k2 h.2⟩
  |_=>exact h.2.elim
abbrev WS:=Addr→Prop
section
variable (K:PySem.W.Frag) (W:WS) (H:Hp)
def LR (a:Addr) (xs:List V):Prop:=(H a=some (.lst xs)∧¬ W a)∨((∃ o,H a=some (.frz o (.lst xs)))∨∃ (o:Obj) (its:Array Value) (n:Nat),K.lookup a=some o∧o.cls= .type "list"∧o.dict=none∧o.data= .seq its n∧its.size≤sizeLine∧Vals xs its.toList)
mutual
def Has:D→V→Prop
 | .non,v=>v= .non
 | .bl b,v=>v= .bl b
 | .int i,v=>v= .int i
 | .str x,v=>v= .str x
 | .tup ds,v=>∃ a xs,v= .ref a∧SqT K H a xs∧HasL ds xs
 | .lst ds,v=>∃ a xs,v= .ref a∧LR K W H a xs∧HasL ds xs
 | .dct ks ds,v=>∃ a kvs,v= .ref a∧(∃ o,H a=some (.frz o (.dK kvs)))∧kvs.map (·.1)=ks∧HasL ds (kvs.map (·.2))
 | .exc c fs,v=>∃ a C dx,v= .ref a∧PySem.W.nsIn K mainGlobals c=some (some C)∧H a=some (.ext (ExcAt a C dx))∧ExF H dx fs
 | .obj c ks ds,v=>∃ a C dx fs,v= .ref a∧PySem.W.nsIn K mainGlobals c=some (some (.ref C))∧H a=some (.ins C dx fs)∧¬ W a∧fs.map (·.1)=ks∧HasL ds (fs.map (·.2))
def HasL:List D→List V→Prop
 | [],xs=>xs= []
 |d::ds,xs=>∃ x r,xs=x::r∧Has d x∧HasL ds r
end
end
theorem LR.sq {K:PySem.W.Frag} {W:WS} {H:Hp} {a:Addr} {xs:List V} (h:LR K W H a xs):SqL K H a xs:=by
 rcases h with ⟨h,_⟩|⟨o,h⟩|h
 ·exact .inl (.inl h)
 ·exact .inl (.inr ⟨o,h⟩)
 ·exact .inr h
def Keep (W:WS) (H H':Hp):Prop:=∀ b o,H b=some o→¬ W b→H' b=some o
def WL (W:WS) (H:Hp):Prop:=∀ b,W b→∃ o,H b=some o∧MutO o
theorem Same.keep {W:WS} {H H':Hp} (h:Same H H'):Keep W H H':=fun b o e _=>h b o e
theorem Keep.trans {W:WS} {H H1 H2:Hp} (a:Keep W H H1) (b:Keep W H1 H2):Keep W H H2:=fun c o e n=>b c o (a c o e n) n
theorem sqT_keep {K:PySem.W.Frag} {W:WS} {H H':Hp} {a:Addr} {xs:List V} (k:Keep W H H') (w:WL W H) (h:SqT K H a xs):SqT K H' a xs:=by
 have nw:∀ o,H a=some o→¬ MutO o→¬ W a:=fun o e n z=>by
  obtain ⟨o',e',m⟩:=w a z
  rw [e] at e'
  cases e'
  exact n m
 rcases h with (h|⟨o,h⟩)|h
 ·exact .inl (.inl (k _ _ h (nw _ h fun z=>z)))
 ·exact .inl (.inr ⟨o,k _ _ h (nw _ h fun z=>z)⟩)
 ·exact .inr h
theorem LR.keep {K:PySem.W.Frag} {W W':WS} {H H':Hp} {a:Addr} {xs:List V} (k:Keep W H H') (w:WL W H) (hw:∀ b,W' b→W b∨H b=none) (h:LR K W H a xs):LR K W' H' a xs:=by
 rcases h with ⟨h,n⟩|⟨o,h⟩|h
 ·refine .inl ⟨k _ _ h n,fun z=> ?_⟩
  rcases hw a z with z|z
  ·exact n z
  ·rw [h] at z;cases z
 ·refine .inr (.inl ⟨o,k _ _ h fun z=> ?_⟩)
  obtain ⟨o',e',m⟩:=w a z
  rw [h] at e';cases e';exact m
 ·exact .inr (.inr h)
section
variable {K:PySem.W.Frag} {W W':WS} {H H':Hp}
mutual
theorem Has.keep (k:Keep W H H') (w:WL W H) (hw:∀ b,W' b→W b∨H b=none):∀ {d:D} {v:V},Has K W H d v→Has K W' H' d v
 | .non,_,h=>by rw [Has] at h ⊢;exact h
 | .bl _,_,h=>by rw [Has] at h ⊢;exact h
 | .int _,_,h=>by rw [Has] at h ⊢;exact h
 | .str _,_,h=>by rw [Has] at h ⊢;exact h
 | .tup ds,_,h=>by
  rw [Has] at h ⊢
  obtain ⟨a,xs,e,q,r⟩:=h
  exact ⟨a,xs,e,sqT_keep k w q,HasL.keep k w hw r⟩
 | .lst ds,_,h=>by
  rw [Has] at h ⊢
  obtain ⟨a,xs,e,q,r⟩:=h
  exact ⟨a,xs,e,q.keep k w hw,HasL.keep k w hw r⟩
 | .dct ks ds,_,h=>by
  rw [Has] at h ⊢
  obtain ⟨a,kvs,e,⟨o,q⟩,m,r⟩:=h
  refine ⟨a,kvs,e,⟨o,k _ _ q fun z=> ?_⟩,m,HasL.keep k w hw r⟩
  obtain ⟨o',e',m'⟩:=w a z
  rw [q] at e';cases e';exact m'
 | .exc _ _,_,h=>by
  rw [Has] at h ⊢
  obtain ⟨a,C,dx,e,n,q,f⟩:=h
  have nw:∀ b o,H b=some o→¬ MutO o→¬ W b:=fun b o q n z=>by
   obtain ⟨o',e',m'⟩:=w b z
   rw [q] at e';cases e';exact n m'
  exact ⟨a,C,dx,e,n,k _ _ q (nw _ _ q fun z=>z),f.to (fun b o u q=>k _ _ q (nw _ _ q fun z=>z)) fun b kvs q=>k _ _ q (nw _ _ q fun z=>z)⟩
 | .obj _ _ ds,_,h=>by
  rw [Has] at h ⊢
  obtain ⟨a,C,dx,fs,e,n,q,nw,m,r⟩:=h
  refine ⟨a,C,dx,fs,e,n,k _ _ q nw,fun z=> ?_,m,HasL.keep k w hw r⟩
  rcases hw a z with z|z
  ·exact nw z
  ·rw [q] at z;cases z
theorem HasL.keep (k:Keep W H H') (w:WL W H) (hw:∀ b,W' b→W b∨H b=none):∀ {ds:List D} {xs:List V},HasL K W H ds xs→HasL K W' H' ds xs
 | [],_,h=>by rw [HasL] at h ⊢;exact h
 |d::ds,_,h=>by
  rw [HasL] at h ⊢
  obtain ⟨x,r,e,q,t⟩:=h
  exact ⟨x,r,e,Has.keep k w hw q,HasL.keep k w hw t⟩
end
theorem Has.same {d:D} {v:V} (h:Has K W H d v) (k:Same H H') (w:WL W H):Has K W H' d v:=Has.keep (Same.keep k) w (fun _ z=> .inl z) h
theorem HasL.same {d:List D} {v:List V} (h:HasL K W H d v) (k:Same H H') (w:WL W H):HasL K W H' d v:=HasL.keep (Same.keep k) w (fun _ z=> .inl z) h
theorem HasL.length:∀ {ds:List D} {xs:List V},HasL K W H ds xs→ds.length=xs.length
 | [],_,h=>by rw [HasL] at h;rw [h];rfl
 |d::ds,_,h=>by
  rw [HasL] at h
  obtain ⟨x,r,e,q,t⟩:=h
  rw [e,List.length_cons,List.length_cons,HasL.length t]
theorem HasL.get:∀ {ds:List D} {xs:List V} {i:Nat} {d:D},HasL K W H ds xs→ds[i]? =some d→∃ x,xs[i]? =some x∧Has K W H d x
 | [],_,_,_,_,e=>by simp at e
 |d::ds,_,0,_,h,e=>by
  rw [HasL] at h
  obtain ⟨x,r,rfl,q,t⟩:=h
  simp at e;subst e
  exact ⟨x,rfl,q⟩
 |d::ds,_,i+1,_,h,e=>by
  rw [HasL] at h
  obtain ⟨x,r,rfl,q,t⟩:=h
  obtain ⟨y,h1,h2⟩:=HasL.get (i:=i) t (by simpa using e)
  exact ⟨y,by simpa using h1,h2⟩
theorem HasL.at' {ds:List D} {xs:List V} {i:Nat} {x:V} (h:HasL K W H ds xs) (e:xs[i]? =some x):∃ d,ds[i]? =some d∧Has K W H d x:=by
 have hl:=h.length
 have hi:i<ds.length:=by rw [hl];exact (List.getElem?_eq_some_iff.mp e).1
 obtain ⟨y,h1,h2⟩:=h.get (List.getElem?_eq_getElem hi)
 rw [e] at h1;cases h1
 exact ⟨_,List.getElem?_eq_getElem hi,h2⟩
theorem HasL.nil:HasL K W H [] []:=by rw [HasL]
theorem HasL.cons {d:D} {ds:List D} {x:V} {xs:List V} (h:Has K W H d x) (t:HasL K W H ds xs):HasL K W H (d::ds) (x::xs):=by rw [HasL];exact ⟨x,xs,rfl,h,t⟩
theorem HasL.append:∀ {ds es:List D} {xs ys:List V},HasL K W H ds xs→HasL K W H es ys→HasL K W H (ds++es) (xs++ys)
 | [],_,_,_,h,t=>by rw [HasL] at h;subst h;exact t
 |d::ds,_,_,_,h,t=>by
  rw [HasL] at h
  obtain ⟨x,r,rfl,q,s⟩:=h
  exact HasL.cons q (HasL.append s t)
theorem HasL.take:∀ {ds:List D} {xs:List V} (n:Nat),HasL K W H ds xs→HasL K W H (ds.take n) (xs.take n)
 | [],_,n,h=>by rw [HasL] at h;subst h;simp [HasL]
 |d::ds,_,0,h=>by simp [HasL]
 |d::ds,_,n+1,h=>by
  rw [HasL] at h
  obtain ⟨x,r,rfl,q,s⟩:=h
  exact HasL.cons q (HasL.take n s)
theorem HasL.drop:∀ {ds:List D} {xs:List V} (n:Nat),HasL K W H ds xs→HasL K W H (ds.drop n) (xs.drop n)
 | [],_,n,h=>by rw [HasL] at h;subst h;simp [HasL]
 |d::ds,_,0,h=>h
 |d::ds,_,n+1,h=>by
  rw [HasL] at h
  obtain ⟨x,r,rfl,q,s⟩:=h
  exact HasL.drop n s
theorem HasL.snoc {ds:List D} {xs:List V} {d:D} {x:V} (h:HasL K W H ds xs) (t:Has K W H d x):HasL K W H (ds++ [d]) (xs++ [x]):=h.append (HasL.cons t HasL.nil)
theorem HasL.set:∀ {ds:List D} {xs:List V} (i:Nat) {d:D} {x:V},HasL K W H ds xs→Has K W H d x→HasL K W H (ds.set i d) (xs.set i x)
 | [],_,n,_,_,h,_=>by rw [HasL] at h;subst h;simp [HasL]
 |e::ds,_,0,_,_,h,t=>by
  rw [HasL] at h
  obtain ⟨y,r,rfl,q,s⟩:=h
  exact HasL.cons t s
 |e::ds,_,i+1,_,_,h,t=>by
  rw [HasL] at h
  obtain ⟨y,r,rfl,q,s⟩:=h
  exact HasL.cons q (HasL.set i s t)
theorem HasL.ints {ns:List Int}:HasL K W H (ns.map D.int) (ns.map V.int):=by
 induction ns with
 |nil=>exact HasL.nil
 |cons n ns ih=>exact HasL.cons (by rw [Has]) ih
end
def ChHas (K:PySem.W.Frag) (H₀:Hp) (W:WS) (H:Hp):Ch→V→Prop
 | .d x,v=>Has K W H x v
 | .l ds,v=>∃ b xs,v= .ref b∧W b∧H₀ b=none∧H b=some (.lst xs)∧HasL K W H ds xs
 | .q ks ds,v=>∃ b kvs,v= .ref b∧W b∧H₀ b=none∧H b=some (.dK kvs)∧kvs.map (·.1)=ks∧HasL K W H ds (kvs.map (·.2))
def ChAp (a:Addr) (cs:List Ch) (vs:List V):Prop:=∀ (i:Nat) (c:Ch) (b:Addr),cs[i]? =some c→ChO c→vs[i]? =some (.ref b)→b≠a∧∀ (j:Nat) (c':Ch),j≠i→cs[j]? =some c'→ChO c'→vs[j]? ≠some (.ref b)
structure FrOk (W₀:WS) (H₀:Hp) (W:WS) (H:Hp):Prop where
 ext:Same H₀ H
 sub:∀ b,W₀ b→W b
 wl:WL W H
 wl0:WL W₀ H₀
def SlotHas (K:PySem.W.Frag) (W₀:WS) (H₀:Hp) (W:WS) (H:Hp):S→V→Prop
 | .d x,v=>Has K W H x v
 | .o ds,v=>∃ a xs,v= .ref a∧W a∧H₀ a=none∧H a=some (.lst xs)∧HasL K W H ds xs
 | .q ks ds,v=>∃ a kvs,v= .ref a∧W a∧H₀ a=none∧H a=some (.dK kvs)∧kvs.map (·.1)=ks∧HasL K W H ds (kvs.map (·.2))
 | .w dss,v=>∃ (a:Addr) (bs:List Addr),v= .ref a∧W a∧H₀ a=none∧H a=some (.lst (bs.map V.ref))∧bs.Nodup∧a∉bs∧bs.length=dss.length∧∀ (k:Nat) (b:Addr) (ds:List D),bs[k]? =some b→dss[k]? =some ds→W b∧H₀ b=none∧∃ xs,H b=some (.lst xs)∧HasL K W H ds xs
 | .k t cs,v=>∃ (a:Addr) (ob:HO),v= .ref a∧H a=some ob∧TpOk K t ob∧(TpM t→W a∧H₀ a=none)∧cs.length=(hoVs ob).length∧ChAp a cs (hoVs ob)∧∀ (j:Nat) (c:Ch) (x:V),cs[j]? =some c→(hoVs ob)[j]? =some x→ChHas K H₀ W H c x
def Owns (H:Hp):S→V→Addr→Prop
 | .d _,_,_=>False
 | .w _,v,b=>v= .ref b∨∃ (a:Addr) (bs:List Addr),v= .ref a∧H a=some (.lst (bs.map V.ref))∧b∈bs
 | .k t cs,v,b=>(TpM t∧v= .ref b)∨∃ (a:Addr) (ob:HO) (j:Nat) (c:Ch),v= .ref a∧H a=some ob∧cs[j]? =some c∧ChO c∧(hoVs ob)[j]? =some (.ref b)
 |_,v,b=>v= .ref b
structure StHas (K:PySem.W.Frag) (W₀:WS) (H₀:Hp) (W:WS) (H:Hp) (σ:L2.St) (δ:DSt):Prop where
 fr:FrOk W₀ H₀ W H
 len:σ.length=δ.length
 at':∀ (i:Nat) (s:S),δ[i]? =some (some s)→∃ v,σ[i]? =some (some v)∧SlotHas K W₀ H₀ W H s v
 ap:∀ (i j:Nat) (s t:S) (u v:V) (b:Addr),i≠j→δ[i]? =some (some s)→δ[j]? =some (some t)→σ[i]? =some (some u)→σ[j]? =some (some v)→Owns H s u b→¬ Owns H t v b
section
variable {K:PySem.W.Frag} {W₀ W:WS} {H₀ H H':Hp} {σ:L2.St} {δ:DSt}
theorem WL.same (w:WL W H) (k:Same H H'):WL W H':=fun b z=>let ⟨xs,e,m⟩:=w b z;⟨xs,k _ _ e,m⟩
theorem FrOk.same (f:FrOk W₀ H₀ W H) (k:Same H H'):FrOk W₀ H₀ W H':=⟨f.ext.trans k,f.sub,f.wl.same k,f.wl0⟩
theorem TpOk.mut {t:Tp} {ob:HO} (h:TpOk K t ob) (m:TpM t):MutO ob:=by
 cases t<;>cases ob<;>first|exact h.elim|exact m.elim|trivial
theorem TpOk.tup {t:Tp} {ob:HO} (h:TpOk K t ob) (m:¬ TpM t):∃ xs,ob= .tup xs:=by
 cases t<;>cases ob<;>first|exact h.elim|exact (m trivial).elim|exact ⟨_,rfl⟩
theorem ChHas.same {c:Ch} {v:V} (w:WL W H) (k:Same H H') (h:ChHas K H₀ W H c v):ChHas K H₀ W H' c v:=by
 cases c with
 |d x=>exact Has.same h k w
 |l ds=>
  obtain ⟨a,xs,e,h1,h2,h3,h4⟩:=h
  exact ⟨a,xs,e,h1,h2,k _ _ h3,h4.same k w⟩
 |q ks ds=>
  obtain ⟨a,xs,e,h1,h2,h3,h4,h5⟩:=h
  exact ⟨a,xs,e,h1,h2,k _ _ h3,h4,h5.same k w⟩
theorem SlotHas.same {s:S} {v:V} (w:WL W H) (k:Same H H') (h:SlotHas K W₀ H₀ W H s v):SlotHas K W₀ H₀ W H' s v:=by
 cases s with
 |d x=>exact Has.same h k w
 |o ds=>
  obtain ⟨a,xs,e,h1,h2,h3,h4⟩:=h
  exact ⟨a,xs,e,h1,h2,k _ _ h3,h4.same k w⟩
 |q ks ds=>
  obtain ⟨a,xs,e,h1,h2,h3,h4,h5⟩:=h
  exact ⟨a,xs,e,h1,h2,k _ _ h3,h4,h5.same k w⟩
 |w dss=>
  obtain ⟨a,bs,e,h1,h2,h3,h4,h5,h6,h7⟩:=h
  exact ⟨a,bs,e,h1,h2,k _ _ h3,h4,h5,h6,fun j b ds e1 e2=>let ⟨g1,g2,xs,g3,g4⟩:=h7 j b ds e1 e2;⟨g1,g2,xs,k _ _ g3,g4.same k w⟩⟩
 |k t cs=>
  obtain ⟨a,ob,e,h1,h2,h3,h4,h5,h6⟩:=h
  exact ⟨a,ob,e,k _ _ h1,h2,h3,h4,h5,fun j c x e1 e2=>(h6 j c x e1 e2).same w k⟩
theorem refs_inj:∀ {bs cs:List Addr},bs.map V.ref=cs.map V.ref→bs=cs
 | [],[],_=>rfl
 | [],_::_,h=>by cases h
 |_::_,[],h=>by cases h
 |b::bs,c::cs,h=>by
  rw [List.map_cons,List.map_cons] at h
  injection h with h1 h2
  injection h1 with h1
  rw [h1,refs_inj h2]
theorem Owns.back {s:S} {v:V} {b:Addr} (h:SlotHas K W₀ H₀ W H s v) (k:∀ a o,v= .ref a→H a=some o→(Owns H s v a∧MutO o)∨(∃ xs,o= .tup xs)→H' a=some o) (o:Owns H' s v b):Owns H s v b:=by
 cases s with
 |d x=>exact o
 |o ds=>exact o
 |q ks ds=>exact o
 |w dss=>
  rcases o with o|⟨a,bs,e,hb,m⟩
  ·exact .inl o
  ·obtain ⟨a',bs',e',_,_,h3,_⟩:=h
   rw [e] at e';cases e'
   have:=k a _ e h3 (.inl ⟨.inl e,trivial⟩)
   rw [hb] at this
   injection this with this
   injection this with this
   rw [refs_inj this] at m
   exact .inr ⟨a,bs',e,h3,m⟩
 |k t cs=>
  rcases o with o|⟨a,ob,j,c,e,hb,hc,co,hj⟩
  ·exact .inl o
  ·obtain ⟨a',ob',e',h1,h2,_⟩:=h
   rw [e] at e';cases e'
   have:=k a ob' e h1 (by
    by_cases m:TpM t
    ·exact .inl ⟨.inl ⟨m,e⟩,h2.mut m⟩
    ·exact .inr (h2.tup m))
   rw [hb] at this;cases this
   exact .inr ⟨a,ob,j,c,e,h1,hc,co,hj⟩
theorem owo (ds:List D):Ow (.o ds):=trivial
theorem owq (ks:List Key) (ds:List D):Ow (.q ks ds):=trivial
theorem SlotHas.mv {W':WS} {s:S} {v:V} (w:WL W H) (kk:Keep W H H') (hw:∀ b,W' b→W b∨H b=none) (hq:∀ b o,Owns H s v b→W b→H₀ b=none→H b=some o→MutO o→W' b∧H' b=some o) (h:SlotHas K W₀ H₀ W H s v):SlotHas K W₀ H₀ W' H' s v:=by
 cases s with
 |d x=>exact Has.keep kk w hw h
 |o ds=>
  obtain ⟨a,xs,e,h1,h2,h3,h4⟩:=h
  obtain ⟨g1,g2⟩:=hq a _ e h1 h2 h3 trivial
  exact ⟨a,xs,e,g1,h2,g2,HasL.keep kk w hw h4⟩
 |q ks ds=>
  obtain ⟨a,xs,e,h1,h2,h3,h4,h5⟩:=h
  obtain ⟨g1,g2⟩:=hq a _ e h1 h2 h3 trivial
  exact ⟨a,xs,e,g1,h2,g2,h4,HasL.keep kk w hw h5⟩
 |w dss=>
  obtain ⟨a,bs,e,h1,h2,h3,h4,h5,h6,h7⟩:=h
  obtain ⟨g1,g2⟩:=hq a _ (.inl e) h1 h2 h3 trivial
  refine ⟨a,bs,e,g1,h2,g2,h4,h5,h6,fun j b ds e1 e2=> ?_⟩
  obtain ⟨f1,f2,xs,f3,f4⟩:=h7 j b ds e1 e2
  obtain ⟨g3,g4⟩:=hq b _ (.inr ⟨a,bs,e,h3,List.mem_of_getElem? e1⟩) f1 f2 f3 trivial
  exact ⟨g3,f2,xs,g4,HasL.keep kk w hw f4⟩
 |k t cs=>
  obtain ⟨a,ob,e,h1,h2,h3,h4,h5,h6⟩:=h
  have top:H' a=some ob∧(TpM t→W' a∧H₀ a=none):=by
   by_cases m:TpM t
   ·obtain ⟨g1,g2⟩:=hq a ob (.inl ⟨m,e⟩) (h3 m).1 (h3 m).2 h1 (h2.mut m)
    exact ⟨g2,fun _=>⟨g1,(h3 m).2⟩⟩
   ·refine ⟨kk _ _ h1 fun z=> ?_,fun z=>(m z).elim⟩
    obtain ⟨xs,rfl⟩:=h2.tup m
    obtain ⟨o',e',mo⟩:=w a z
    rw [h1] at e';cases e';exact mo
  refine ⟨a,ob,e,top.1,h2,top.2,h4,h5,fun j c x e1 e2=> ?_⟩
  have hc:=h6 j c x e1 e2
  cases c with
  |d y=>exact Has.keep kk w hw hc
  |l ds=>
   obtain ⟨b,xs,rfl,f1,f2,f3,f4⟩:=hc
   obtain ⟨g1,g2⟩:=hq b _ (.inr ⟨a,ob,j,_,e,h1,e1,trivial,e2⟩) f1 f2 f3 trivial
   exact ⟨b,xs,rfl,g1,f2,g2,HasL.keep kk w hw f4⟩
  |q ks ds=>
   obtain ⟨b,xs,rfl,f1,f2,f3,f4,f5⟩:=hc
   obtain ⟨g1,g2⟩:=hq b _ (.inr ⟨a,ob,j,_,e,h1,e1,trivial,e2⟩) f1 f2 f3 trivial
   exact ⟨b,xs,rfl,g1,f2,g2,f4,HasL.keep kk w hw f5⟩
theorem SlotHas.own {s:S} {v:V} (h:SlotHas K W₀ H₀ W H s v) (o:Ow s):∃ a ob,v= .ref a∧W a∧H₀ a=none∧H a=some ob∧MutO ob:=by
 cases s with
 |d x=>exact o.elim
 |o ds=>
  obtain ⟨a,xs,e,h1,h2,h3,h4⟩:=h
  exact ⟨a,_,e,h1,h2,h3,trivial⟩
 |q ks ds=>
  obtain ⟨a,xs,e,h1,h2,h3,h4,h5⟩:=h
  exact ⟨a,_,e,h1,h2,h3,trivial⟩
 |w dss=>
  obtain ⟨a,bs,e,h1,h2,h3,_⟩:=h
  exact ⟨a,_,e,h1,h2,h3,trivial⟩
 |k t cs=>
  obtain ⟨a,ob,e,h1,h2,h3,_⟩:=h
  exact ⟨a,ob,e,(h3 o).1,(h3 o).2,h1,h2.mut o⟩
theorem SlotHas.owns {s:S} {v:V} {b:Addr} (h:SlotHas K W₀ H₀ W H s v) (o:Owns H s v b):W b∧H₀ b=none∧∃ ob,H b=some ob∧MutO ob:=by
 cases s with
 |d x=>exact o.elim
 |o ds=>
  obtain ⟨a,xs,e,h1,h2,h3,h4⟩:=h
  have o':v= .ref b:=o
  rw [e] at o';cases o'
  exact ⟨h1,h2,_,h3,trivial⟩
 |q ks ds=>
  obtain ⟨a,xs,e,h1,h2,h3,h4⟩:=h
  have o':v= .ref b:=o
  rw [e] at o';cases o'
  exact ⟨h1,h2,_,h3,trivial⟩
 |w dss=>
  obtain ⟨a,bs,e,h1,h2,h3,h4,h5,h6,h7⟩:=h
  rcases o with o|⟨a',bs',e',hb,m⟩
  ·rw [e] at o;cases o
   exact ⟨h1,h2,_,h3,trivial⟩
  ·rw [e] at e';cases e'
   rw [h3] at hb
   injection hb with hb
   injection hb with hb
   rw [←refs_inj hb] at m
   obtain ⟨k,hk⟩:=List.mem_iff_getElem?.mp m
   have hl:k<dss.length:=by rw [←h6];exact (List.getElem?_eq_some_iff.mp hk).1
   obtain ⟨f1,f2,xs,f3,f4⟩:=h7 k b _ hk (List.getElem?_eq_getElem hl)
   exact ⟨f1,f2,_,f3,trivial⟩
 |k t cs=>
  obtain ⟨a,ob,e,h1,h2,h3,h4,h5,h6⟩:=h
  rcases o with ⟨m,o⟩|⟨a',ob',j,c,e',hb,hc,co,hj⟩
  ·rw [e] at o;cases o
   exact ⟨(h3 m).1,(h3 m).2,ob,h1,h2.mut m⟩
  ·rw [e] at e';cases e'
   rw [h1] at hb;cases hb
   have:=h6 j c _ hc hj
   cases c with
   |d y=>exact co.elim
   |l ds=>
    obtain ⟨b',xs,e2,f1,f2,f3,f4⟩:=this
    cases e2
    exact ⟨f1,f2,_,f3,trivial⟩
   |q ks ds=>
    obtain ⟨b',xs,e2,f1,f2,f3,f4⟩:=this
    cases e2
    exact ⟨f1,f2,_,f3,trivial⟩
theorem Ow.owns {s:S} {a:Addr} (o:Ow s):Owns H s (.ref a) a:=by
 cases s with
 |d x=>exact o.elim
 |o ds=>exact rfl
 |q ks ds=>exact rfl
 |w dss=>exact .inl rfl
 |k t cs=>exact .inl ⟨o,rfl⟩
theorem StHas.same (h:StHas K W₀ H₀ W H σ δ) (k:Same H H'):StHas K W₀ H₀ W H' σ δ:=
 ⟨h.fr.same k,h.len,fun i s e=>let ⟨v,h1,h2⟩:=h.at' i s e;⟨v,h1,h2.same h.fr.wl k⟩,fun i j s t u v b ij e1 e2 e3 e4 o1 o2=>by
  obtain ⟨u',f1,f2⟩:=h.at' i s e1
  obtain ⟨v',f3,f4⟩:=h.at' j t e2
  rw [e3] at f1;cases f1
  rw [e4] at f3;cases f3
  exact h.ap i j s t u v b ij e1 e2 e3 e4 (Owns.back f2 (fun a o _ z _=>k _ _ z) o1) (Owns.back f4 (fun a o _ z _=>k _ _ z) o2)⟩
theorem StHas.set {i:Nat} {x:D} {v:V} (h:StHas K W₀ H₀ W H σ δ) (q:Has K W H x v):StHas K W₀ H₀ W H (σ.set i (some v)) (δ.set i (some (.d x))):=by
 refine ⟨h.fr,by simp [h.len],fun j s e=> ?_,fun j k s1 s2 u u' a hjk e1 e2 e3 e4 os ot=> ?_⟩
 ·by_cases hj:i=j
  ·subst hj
   rw [List.getElem?_set_self'] at e ⊢
   cases q':δ[i]? with
   |none=>rw [q'] at e;cases e
   |some z=>
    rw [q'] at e
    have e':some (S.d x)=some s:=Option.some.inj e
    cases e'
    have hi:i<σ.length:=by rw [h.len];exact (List.getElem?_eq_some_iff.mp q').1
    exact ⟨v,by rw [List.getElem?_eq_getElem hi];rfl,q⟩
  ·rw [List.getElem?_set_ne hj] at e ⊢
   exact h.at' j s e
 ·have hj:i≠j:=by
   rintro rfl
   rw [List.getElem?_set_self'] at e1
   cases q':δ[i]? with
   |none=>rw [q'] at e1;cases e1
   |some z=>rw [q'] at e1;cases e1;exact os
  have hk:i≠k:=by
   rintro rfl
   rw [List.getElem?_set_self'] at e2
   cases q':δ[i]? with
   |none=>rw [q'] at e2;cases e2
   |some z=>rw [q'] at e2;cases e2;exact ot
  rw [List.getElem?_set_ne hj] at e1 e3
  rw [List.getElem?_set_ne hk] at e2 e4
  exact h.ap j k s1 s2 u u' a hjk e1 e2 e3 e4 os ot
theorem StHas.ownS {N:WS} {i:Nat} {sl:S} {a:Addr} (h:StHas K W₀ H₀ W H σ δ) (k:Same H H') (hn:∀ b,N b→H b=none∧∃ ob,H' b=some ob∧MutO ob) (q:SlotHas K W₀ H₀ (fun b=>W b∨N b) H' sl (.ref a)) (nw:∀ b,Owns H' sl (.ref a) b→H b=none):
  StHas K W₀ H₀ (fun b=>W b∨N b) H' (σ.set i (some (.ref a))) (δ.set i (some sl)):=by
 have hw:∀ b,(W b∨N b)→W b∨H b=none:=fun b z=>z.elim .inl fun z=> .inr (hn b z).1
 have kk:Keep W H H':=Same.keep k
 have fr':FrOk W₀ H₀ (fun b=>W b∨N b) H':=⟨h.fr.ext.trans k,fun b z=> .inl (h.fr.sub b z),fun b z=>z.elim (h.fr.wl.same k b) fun z=>(hn b z).2,h.fr.wl0⟩
 have slot:∀ {s:S} {v:V},SlotHas K W₀ H₀ W H s v→SlotHas K W₀ H₀ (fun b=>W b∨N b) H' s v:=fun {s v} z=>z.mv h.fr.wl kk hw fun b o e h1 h2 h3 h4=>⟨.inl h1,k _ _ h3⟩
 have old:∀ (j:Nat) (t:S) (v:V) (b:Addr),δ[j]? =some (some t)→σ[j]? =some (some v)→Owns H' t v b→Owns H t v b∧H b≠none:=fun j t v b e z o=>by
  obtain ⟨v',h1,h2⟩:=h.at' j _ e
  rw [z] at h1;cases h1
  have o':=Owns.back h2 (fun a o _ z _=>k _ _ z) o
  obtain ⟨_,_,ob,h3,_⟩:=h2.owns o'
  exact ⟨o',fun z=>by rw [h3] at z;cases z⟩
 refine ⟨fr',by simp [h.len],fun j s e=> ?_,fun j l s1 s2 u u' b hjl e1 e2 e3 e4 os ot=> ?_⟩
 ·by_cases hj:i=j
  ·subst hj
   rw [List.getElem?_set_self'] at e ⊢
   cases q':δ[i]? with
   |none=>rw [q'] at e;cases e
   |some z=>
    rw [q'] at e
    have e':some sl=some s:=Option.some.inj e
    cases e'
    have hi:i<σ.length:=by rw [h.len];exact (List.getElem?_eq_some_iff.mp q').1
    exact ⟨.ref a,by rw [List.getElem?_eq_getElem hi];rfl,q⟩
  ·rw [List.getElem?_set_ne hj] at e ⊢
   obtain ⟨v,h1,h2⟩:=h.at' j s e
   exact ⟨v,h1,slot h2⟩
 ·have get:∀ m:Nat,m≠i→∀ {α:Type} (l:List α) (z:α),(l.set i z)[m]? =l[m]? :=fun m hm α l z=>List.getElem?_set_ne (Ne.symm hm)
  have self:∀ {α:Type} (l:List (Option α)) (z y:α),(l.set i (some z))[i]? =some (some y)→y=z:=fun l z y e=>by
   rw [List.getElem?_set_self'] at e
   cases q':l[i]? with
   |none=>rw [q'] at e;cases e
   |some x=>rw [q'] at e;cases e;rfl
  by_cases hj:j=i
  ·have hl:l≠i:=fun z=>hjl (hj.trans z.symm)
   rw [get l hl] at e2 e4
   subst hj
   have z1:=self _ _ _ e1
   have z2:=self _ _ _ e3
   subst z1;subst z2
   exact (old l s2 u' b e2 e4 ot).2 (nw b os)
  ·rw [get j hj] at e1 e3
   by_cases hl:l=i
   ·subst hl
    have z1:=self _ _ _ e2
    have z2:=self _ _ _ e4
    subst z1;subst z2
    exact (old j s1 u b e1 e3 os).2 (nw b ot)
   ·rw [get l hl] at e2 e4
    exact h.ap j l s1 s2 u u' b hjl e1 e2 e3 e4 (old j s1 u b e1 e3 os).1 (old l s2 u' b e2 e4 ot).1
theorem StHas.ownG {W':WS} {i:Nat} {sl:S} {ob:HO} {a:Addr} (h:StHas K W₀ H₀ W H σ δ) (k:Same H H') (ha:H a=none) (ha':H' a=some ob) (mo:MutO ob) (q:SlotHas K W₀ H₀ (fun b=>W b∨b=a) H' sl (.ref a)) (nw:∀ b,Owns H' sl (.ref a) b→H b=none:=by intro b z;cases z;assumption):
  StHas K W₀ H₀ (fun b=>W b∨b=a) H' (σ.set i (some (.ref a))) (δ.set i (some sl)):=
 h.ownS (N:=fun b=>b=a) k (fun b z=>by rw [z];exact ⟨ha,ob,ha',mo⟩) q nw
theorem StHas.own {i:Nat} {ds:List D} {a:Addr} {xs:List V} (h:StHas K W₀ H₀ W H σ δ) (ha:H a=none) (q:HasL K W H ds xs):
  StHas K W₀ H₀ (fun b=>W b∨b=a) (upd H a (.lst xs)) (σ.set i (some (.ref a))) (δ.set i (some (.o ds))):=by
 have k:Same H (upd H a (.lst xs)):=fun b o e=>by rw [upd_ne (ne_of_none e ha)];exact e
 exact h.ownG (W':=W) k ha upd_same trivial ⟨a,xs,rfl, .inr rfl,Same.free h.fr.ext ha,upd_same,HasL.keep (Same.keep k) h.fr.wl (fun b z=>z.elim .inl fun z=> .inr (by rw [z];exact ha)) q⟩
theorem StHas.changeS {i:Nat} {so sl:S} {w:V} {ob:HO} {a:Addr} (h:StHas K W₀ H₀ W H σ δ) (hi:δ[i]? =some (some so)) (hs:σ[i]? =some (some w)) (oc:Owns H so w a) (mo:MutO ob) (q:H₀ a=none→Keep W H (upd H a ob)→SlotHas K W₀ H₀ W (upd H a ob) sl w)
  (nw:∀ b,Owns (upd H a ob) sl w b→∀ (j:Nat) (t:S) (v:V),i≠j→δ[j]? =some (some t)→σ[j]? =some (some v)→¬ Owns H t v b):
  StHas K W₀ H₀ W (upd H a ob) σ (δ.set i (some sl)):=by
 obtain ⟨v,h1,h2⟩:=h.at' i _ hi
 rw [hs] at h1
 cases h1
 obtain ⟨hW,h0,ob',h3',h4'⟩:=h2.owns oc
 have kk:Keep W H (upd H a ob):=fun b o e n=>by
  rw [upd_ne (fun z=>n (by rw [z];exact hW))];exact e
 have hw:∀ b,W b→W b∨H b=none:=fun b z=> .inl z
 have fr':FrOk W₀ H₀ W (upd H a ob):=⟨fun b o e=>by rw [upd_ne (ne_of_none e h0)];exact h.fr.ext _ _ e,h.fr.sub,fun b z=>by
  by_cases hb:b=a
  ·rw [hb];exact ⟨ob,upd_same,mo⟩
  ·rw [upd_ne hb];exact h.fr.wl b z,h.fr.wl0⟩
 have hl:i<δ.length:=(List.getElem?_eq_some_iff.mp hi).1
 have ne:∀ (j:Nat) (s:S) (v:V) (b:Addr),i≠j→δ[j]? =some (some s)→σ[j]? =some (some v)→Owns H s v b→b≠a:=fun j s v b hj e e' o z=>by
  subst z
  exact h.ap i j _ _ _ _ b hj hi e hs e' oc o
 refine ⟨fr',by simp [h.len],fun j s e=> ?_,fun j l s1 s2 u u' b hjl e1 e2 e3 e4 os ot=> ?_⟩
 ·by_cases hj:i=j
  ·subst hj
   rw [List.getElem?_set_self hl] at e
   cases e
   exact ⟨w,hs,q h0 kk⟩
  ·rw [List.getElem?_set_ne hj] at e
   obtain ⟨v,h1,h2⟩:=h.at' j s e
   exact ⟨v,h1,h2.mv h.fr.wl kk hw fun b o e1 h1' _ h3' _=>⟨h1',by rw [upd_ne (ne j s v b hj e h1 e1)];exact h3'⟩⟩
 ·have own:∀ (m:Nat) (t:S) (x:V),i≠m→(δ.set i (some sl))[m]? =some (some t)→σ[m]? =some (some x)→Owns (upd H a ob) t x b→δ[m]? =some (some t)∧Owns H t x b:=fun m t x hm e e' o=>by
   rw [List.getElem?_set_ne hm] at e
   obtain ⟨v,h1,h2⟩:=h.at' m t e
   rw [e'] at h1;cases h1
   refine ⟨e,Owns.back h2 (fun c o ec z y=> ?_) o⟩
   rcases y with ⟨y,_⟩|⟨xs,y⟩
   ·rw [upd_ne (ne m _ _ c hm e e' y)];exact z
   ·rw [upd_ne (fun q=>by rw [q,h3'] at z;cases z;rw [y] at h4';exact h4')];exact z
  by_cases hj:i=j
  ·subst hj
   rw [List.getElem?_set_self hl] at e1;cases e1
   rw [hs] at e3;cases e3
   obtain ⟨g2,o2⟩:=own l s2 u' hjl e2 e4 ot
   exact nw b os l s2 u' hjl g2 e4 o2
  ·obtain ⟨g1,o1⟩:=own j s1 u hj e1 e3 os
   by_cases hm:i=l
   ·subst hm
    rw [List.getElem?_set_self hl] at e2;cases e2
    rw [hs] at e4;cases e4
    exact nw b ot j s1 u hj g1 e3 o1
   ·obtain ⟨g2,o2⟩:=own l s2 u' hm e2 e4 ot
    exact h.ap j l s1 s2 u u' b hjl g1 g2 e3 e4 o1 o2
theorem StHas.changeG {i:Nat} {so sl:S} {ob:HO} {a:Addr} (h:StHas K W₀ H₀ W H σ δ) (oo:Ow so) (hi:δ[i]? =some (some so)) (hs:σ[i]? =some (some (.ref a))) (mo:MutO ob) (hW:W a) (q:H₀ a=none→Keep W H (upd H a ob)→SlotHas K W₀ H₀ W (upd H a ob) sl (.ref a)) (ol:Ow sl) (nw:∀ b,Owns (upd H a ob) sl (.ref a) b→Owns H so (.ref a) b:=by intro b z;exact z):
  StHas K W₀ H₀ W (upd H a ob) σ (δ.set i (some sl)):=
 h.changeS hi hs oo.owns mo q fun b o j t v hj e e'=>h.ap i j _ _ _ _ b hj hi e hs e' (nw b o)
theorem StHas.change {i:Nat} {ds es:List D} {a:Addr} {xs ys:List V} (h:StHas K W₀ H₀ W H σ δ) (hi:δ[i]? =some (some (.o ds))) (hs:σ[i]? =some (some (.ref a))) (ha:H a=some (.lst xs)) (hW:W a) (q:HasL K W H es ys):
  StHas K W₀ H₀ W (upd H a (.lst ys)) σ (δ.set i (some (.o es))):=
 h.changeG (owo ds) hi hs trivial hW (fun h0 kk=>⟨a,ys,rfl,hW,h0,upd_same,HasL.keep kk h.fr.wl (fun b z=> .inl z) q⟩) (owo es)
theorem StHas.freezeS {N:WS} {i:Nat} {so:S} {x:D} {w:V} (h:StHas K W₀ H₀ W H σ δ) (hi:δ[i]? =some (some so)) (hs:σ[i]? =some (some w)) (oN:∀ b,N b→Owns H so w b)
  (hd:Has K (fun b=>W b∧¬ N b) H x w):StHas K W₀ H₀ (fun b=>W b∧¬ N b) H σ (δ.set i (some (.d x))):=by
 obtain ⟨v,h1,h2⟩:=h.at' i _ hi
 rw [hs] at h1
 cases h1
 have kk:Keep W H H:=fun _ _ e _=>e
 have hw:∀ b,(W b∧¬ N b)→W b∨H b=none:=fun b z=> .inl z.1
 have hl:i<δ.length:=(List.getElem?_eq_some_iff.mp hi).1
 refine ⟨⟨h.fr.ext,fun b z=>⟨h.fr.sub b z,fun e=> ?_⟩,fun b z=>h.fr.wl b z.1,h.fr.wl0⟩,by simp [h.len],fun j s e=> ?_,fun j l s1 s2 u u' b hjl e1 e2 e3 e4 os ot=> ?_⟩
 ·obtain ⟨ys,z',_⟩:=h.fr.wl0 _ z
  rw [(h2.owns (oN _ e)).2.1] at z';cases z'
 ·by_cases hj:i=j
  ·subst hj
   rw [List.getElem?_set_self hl] at e
   cases e
   exact ⟨_,hs,hd⟩
  ·rw [List.getElem?_set_ne hj] at e
   obtain ⟨v,g1,g2⟩:=h.at' j s e
   exact ⟨v,g1,g2.mv h.fr.wl kk hw fun b o e1 h1' _ h3' _=>⟨⟨h1',fun z=>h.ap i j _ _ _ _ b hj hi e hs g1 (oN b z) e1⟩,h3'⟩⟩
 ·have hj:i≠j:=by
   rintro rfl
   rw [List.getElem?_set_self hl] at e1;cases e1;exact os
  have hk:i≠l:=by
   rintro rfl
   rw [List.getElem?_set_self hl] at e2;cases e2;exact ot
  rw [List.getElem?_set_ne hj] at e1
  rw [List.getElem?_set_ne hk] at e2
  exact h.ap j l s1 s2 u u' b hjl e1 e2 e3 e4 os ot
theorem StHas.freezeG {i:Nat} {so:S} {x:D} {a:Addr} (h:StHas K W₀ H₀ W H σ δ) (oo:Ow so) (hi:δ[i]? =some (some so)) (hs:σ[i]? =some (some (.ref a)))
  (hd:Has K (fun b=>W b∧b≠a) H x (.ref a)):StHas K W₀ H₀ (fun b=>W b∧b≠a) H σ (δ.set i (some (.d x))):=
 h.freezeS (N:=fun b=>b=a) hi hs (fun b z=>by rw [z];exact oo.owns) hd
theorem StHas.freezeH {i:Nat} {so:S} {x:D} {a:Addr} {ob:HO} (h:StHas K W₀ H₀ W H σ δ) (oo:Ow so) (hi:δ[i]? =some (some so)) (hs:σ[i]? =some (some (.ref a)))
  (hd:Has K (fun b=>W b∧b≠a) (upd H a ob) x (.ref a)):StHas K W₀ H₀ (fun b=>W b∧b≠a) (upd H a ob) σ (δ.set i (some (.d x))):=by
 obtain ⟨v,h1,h2⟩:=h.at' i _ hi
 obtain ⟨b,o1,e',hW,h0,h3,mo1⟩:=h2.own oo
 rw [hs] at h1
 cases h1
 cases e'
 have kk:Keep W H (upd H a ob):=fun b o e n=>by rw [upd_ne (fun z=>n (by rw [z];exact hW))];exact e
 have hw:∀ b,(W b∧b≠a)→W b∨H b=none:=fun b z=> .inl z.1
 have hl:i<δ.length:=(List.getElem?_eq_some_iff.mp hi).1
 refine ⟨⟨fun b o e=>by rw [upd_ne (ne_of_none e h0)];exact h.fr.ext _ _ e,fun b z=>⟨h.fr.sub b z,fun e=> ?_⟩,fun b z=>by rw [upd_ne z.2];exact h.fr.wl b z.1,h.fr.wl0⟩,by simp [h.len],fun j s e=> ?_,fun j l s1 s2 u u' b hjl e1 e2 e3 e4 os ot=> ?_⟩
 ·subst e
  obtain ⟨ys,z',_⟩:=h.fr.wl0 _ z
  rw [h0] at z';cases z'
 ·by_cases hj:i=j
  ·subst hj
   rw [List.getElem?_set_self hl] at e
   cases e
   exact ⟨.ref a,hs,hd⟩
  ·rw [List.getElem?_set_ne hj] at e
   obtain ⟨v,g1,g2⟩:=h.at' j s e
   exact ⟨v,g1,g2.mv h.fr.wl kk hw fun b o e1 h1' _ h3' _=>(fun hba=>⟨⟨h1',hba⟩,by rw [upd_ne hba];exact h3'⟩) (fun z=>by subst z;exact h.ap i j _ _ _ _ b hj hi e hs g1 oo.owns e1)⟩
 ·have hj:i≠j:=by
   rintro rfl
   rw [List.getElem?_set_self hl] at e1;cases e1;exact os
  have hk:i≠l:=by
   rintro rfl
   rw [List.getElem?_set_self hl] at e2;cases e2;exact ot
  rw [List.getElem?_set_ne hj] at e1
  rw [List.getElem?_set_ne hk] at e2
  have back:∀ (m:Nat) (t:S) (x:V),i≠m→δ[m]? =some (some t)→σ[m]? =some (some x)→Owns (upd H a ob) t x b→Owns H t x b:=fun m t x hm e e' o=>by
   obtain ⟨v,h1,h2⟩:=h.at' m t e
   rw [e'] at h1;cases h1
   refine Owns.back h2 (fun c o ec z y=> ?_) o
   rcases y with ⟨y,_⟩|⟨xs,y⟩
   ·rw [upd_ne (fun q=>by subst q;exact h.ap i m _ _ _ _ c hm hi e hs e' oo.owns y)];exact z
   ·rw [upd_ne (fun q=>by rw [q,h3] at z;cases z;rw [y] at mo1;exact mo1)];exact z
  exact h.ap j l s1 s2 u u' b hjl e1 e2 e3 e4 (back j s1 u hj e1 e3 os) (back l s2 u' hk e2 e4 ot)
end
abbrev XW:=Str→List D→Hp→Prop
section
variable (K:PySem.W.Frag) (xw:XW)
def RE (W:WS) (H:Hp) (r:Res D) (Q:VK):Prop:=match r with
 | .ok d=>∀ v H',Same H H'→Has K W H' d v→Q v H'
 | .ex c fs=>∀ H',Same H H'→xw c fs H'
 | .stuck=>False
def HasT (W:WS) (H:Hp) (d:D) (v:V):Prop:=Has K W H d v∨∃ ds a xs,d= .lst ds∧v= .ref a∧H a=some (.lst xs)∧HasL K W H ds xs
def RP (W:WS) (H:Hp) (r:Res D) (Q:VK):Prop:=match r with
 | .ok d=>∀ v H',Same H H'→HasT K W H' d v→Q v H'
 | .ex c fs=>∀ H',Same H H'→xw c fs H'
 | .stuck=>False
def RF (W:WS) (H:Hp) (r:Res (List D)) (Q:VK):Prop:=match r with
 | .ok ds=>∀ a xs H1,Same H H1→H1 a=none→HasL K W H1 ds xs→Q (.ref a) (upd H1 a (.lst xs))
 | .ex c fs=>∀ H',Same H H'→xw c fs H'
 | .stuck=>False
def RT (H:Hp) (r:Res Bool) (Q:Bool→Hp→Prop):Prop:=match r with
 | .ok b=>∀ H',Same H H'→Q b H'
 | .ex c fs=>∀ H',Same H H'→xw c fs H'
 | .stuck=>False
def RA (W:WS) (H:Hp) (r:Res (List D)) (Q:List V→Hp→Prop):Prop:=match r with
 | .ok ds=>∀ vs H',Same H H'→HasL K W H' ds vs→Q vs H'
 | .ex c fs=>∀ H',Same H H'→xw c fs H'
 | .stuck=>False
def tDE (f:DSt→Res D):TE:=fun σ H Q=>∃ W₀ H₀ W δ,StHas K W₀ H₀ W H σ δ∧RE K xw W H (f δ) Q
def tDP (f:DSt→Res D):TE:=fun σ H Q=>∃ W₀ H₀ W δ,StHas K W₀ H₀ W H σ δ∧RP K xw W H (f δ) Q
def tDF (f:DSt→Res (List D)):TE:=fun σ H Q=>∃ W₀ H₀ W δ,StHas K W₀ H₀ W H σ δ∧RF K xw W H (f δ) Q
def tDT (f:DSt→Res Bool):TT:=fun σ H Q=>∃ W₀ H₀ W δ,StHas K W₀ H₀ W H σ δ∧RT xw H (f δ) Q
def tDA (f:DSt→Res (List D)):TA:=fun σ H Q=>∃ W₀ H₀ W δ,StHas K W₀ H₀ W H σ δ∧RA K xw W H (f δ) Q
end
def DE (X:Cx) (xw:XW) (e:Expr) (f:DSt→Res D):Prop:=PE X e (tDE X.K xw f)
def DP (X:Cx) (xw:XW) (e:Expr) (f:DSt→Res D):Prop:=PE X e (tDP X.K xw f)
def DF (X:Cx) (xw:XW) (e:Expr) (f:DSt→Res (List D)):Prop:=PE X e (tDF X.K xw f)
def DT (X:Cx) (xw:XW) (e:Expr) (f:DSt→Res Bool):Prop:=PT X e (tDT X.K xw f)
def DW (X:Cx) (xw:XW) (e:Expr) (f:DSt→Res Bool):Prop:=PW X e (tDT X.K xw f)
def DA (X:Cx) (xw:XW) (es:List Expr) (f:DSt→Res (List D)):Prop:=PA X es (tDA X.K xw f)
theorem PE.weak {X:Cx} {e:Expr} {t t':TE} (h:PE X e t) (k:∀ σ H Q,t' σ H Q→t σ H Q):PE X e t':=fun pins s σ H Q I q=>h pins s σ H Q I (k σ H Q q)
theorem PT.weak {X:Cx} {e:Expr} {t t':TT} (h:PT X e t) (k:∀ σ H Q,t' σ H Q→t σ H Q):PT X e t':=fun pins s σ H Q I q=>h pins s σ H Q I (k σ H Q q)
theorem PW.weak {X:Cx} {e:Expr} {t t':TT} (h:PW X e t) (k:∀ σ H Q,t' σ H Q→t σ H Q):PW X e t':=fun wh pins s σ H Q I q=>h wh pins s σ H Q I (k σ H Q q)
theorem PA.weak {X:Cx} {e:List Expr} {t t':TA} (h:PA X e t) (k:∀ σ H Q,t' σ H Q→t σ H Q):PA X e t':=fun ps pins s σ H Q I q=>h ps pins s σ H Q I (k σ H Q q)
section
variable {K:PySem.W.Frag} {xw:XW} {W:WS} {H H':Hp} {Q:VK}
theorem RE.same {r:Res D} (h:RE K xw W H r Q) (k:Same H H'):RE K xw W H' r Q:=by
 cases r with
 |ok d=>exact fun v H2 k2 q=>h v H2 (k.trans k2) q
 |ex c fs=>exact fun H2 k2=>h H2 (k.trans k2)
 |stuck=>exact h
theorem RF.same {r:Res (List D)} (h:RF K xw W H r Q) (k:Same H H'):RF K xw W H' r Q:=by
 cases r with
 |ok d=>exact fun a xs H1 k1 n q=>h a xs H1 (k.trans k1) n q
 |ex c fs=>exact fun H2 k2=>h H2 (k.trans k2)
 |stuck=>exact h
theorem RT.same {r:Res Bool} {Q:Bool→Hp→Prop} (h:RT xw H r Q) (k:Same H H'):RT xw H' r Q:=by
 cases r with
 |ok d=>exact fun H2 k2=>h H2 (k.trans k2)
 |ex c fs=>exact fun H2 k2=>h H2 (k.trans k2)
 |stuck=>exact h
theorem RA.same {r:Res (List D)} {Q:List V→Hp→Prop} (h:RA K xw W H r Q) (k:Same H H'):RA K xw W H' r Q:=by
 cases r with
 |ok d=>exact fun v H2 k2 q=>h v H2 (k.trans k2) q
 |ex c fs=>exact fun H2 k2=>h H2 (k.trans k2)
 |stuck=>exact h
theorem HasT.same {d:D} {v:V} (h:HasT K W H d v) (k:Same H H') (w:WL W H):HasT K W H' d v:=by
 rcases h with h|⟨ds,a,xs,h1,h2,h3,h4⟩
 ·exact .inl (h.same k w)
 ·exact .inr ⟨ds,a,xs,h1,h2,k _ _ h3,h4.same k w⟩
theorem HasT.int {i:Int} {v:V} (h:HasT K W H (.int i) v):v= .int i:=by
 rcases h with h|⟨ds,a,xs,h1,_⟩
 ·rw [Has] at h;exact h
 ·cases h1
theorem HasT.bl {i:Bool} {v:V} (h:HasT K W H (.bl i) v):v= .bl i:=by
 rcases h with h|⟨ds,a,xs,h1,_⟩
 ·rw [Has] at h;exact h
 ·cases h1
theorem HasT.str {i:Str} {v:V} (h:HasT K W H (.str i) v):v= .str i:=by
 rcases h with h|⟨ds,a,xs,h1,_⟩
 ·rw [Has] at h;exact h
 ·cases h1
theorem HasT.non {v:V} (h:HasT K W H .non v):v= .non:=by
 rcases h with h|⟨ds,a,xs,h1,_⟩
 ·rw [Has] at h;exact h
 ·cases h1
theorem HasT.tup {ds:List D} {v:V} (h:HasT K W H (.tup ds) v):∃ a xs,v= .ref a∧SqT K H a xs∧HasL K W H ds xs:=by
 rcases h with h|⟨ds,a,xs,h1,_⟩
 ·rw [Has] at h;exact h
 ·cases h1
theorem HasT.lst {ds:List D} {v:V} (h:HasT K W H (.lst ds) v):∃ a xs,v= .ref a∧SqL K H a xs∧HasL K W H ds xs:=by
 rcases h with h|⟨ds,a,xs,h1,h2,h3,h4⟩
 ·rw [Has] at h
  obtain ⟨a,xs,e,q,r⟩:=h
  exact ⟨a,xs,e,q.sq,r⟩
 ·cases h1
  exact ⟨a,xs,h2, .of h3,h4⟩
end
end L3
namespace L3
open PySem PySem.Spec PyProof.Rows L2
def clOf (scope:Scope) (env:Env):List (Str×Addr):=scope.names.foldl (fun cs y=>if y.2== .free then (match env.cells.lookup y.1 with|some a=>(y.1,a)::cs|none=>cs) else cs) []
theorem clOf_go {env:Env} (names:List (Str×NameKind)):∀ (cs:List (Str×Addr)),(∀ y∈names,y.2= .free→∃ c,env.cells.lookup y.1=some c)→
  (forIn names cs (fun (y:Str×NameKind) (r:List (Str×Addr))=>(do
   if (y.2==NameKind.free)=true then do
    let a ←cellOf env y.1
    pure (ForInStep.yield ((y.1,a)::r))
   else pure (ForInStep.yield r):Sem (ForInStep (List (Str×Addr))))))=(pure (names.foldl (fun cs y=>if y.2== .free then (match env.cells.lookup y.1 with|some a=>(y.1,a)::cs|none=>cs) else cs) cs):Sem _):=by
 induction names with
 |nil=>intro cs _;rfl
 |cons y r ih=>
  intro cs h
  have h':∀ y∈r,y.2= .free→∃ c,env.cells.lookup y.1=some c:=fun z hz=>h z (List.mem_cons_of_mem _ hz)
  rw [List.forIn_cons,List.foldl_cons]
  by_cases hk:y.2= .free
  ·obtain ⟨c,hc⟩:=h y List.mem_cons_self hk
   have hb:(y.2==NameKind.free)=true:=by rw [hk];rfl
   simp only [hb,if_true,cellOf,hc,pure_bind]
   exact ih _ h'
  ·have hb:(y.2==NameKind.free)=false:=by simpa using hk
   simp only [hb,Bool.false_eq_true,if_false,pure_bind]
   exact ih _ h'
theorem clOf_eq {scope:Scope} {env:Env} (h:∀ y∈scope.names,y.2= .free→∃ c,env.cells.lookup y.1=some c):closureFor scope env=pure (clOf scope env):=by
 unfold closureFor clOf
 exact (congrArg (fun z=>z >>= fun r=>pure r) (clOf_go scope.names [] h)).trans (by simp)
theorem clOf_sub {env:Env} (names:List (Str×NameKind)):∀ (cs:List (Str×Addr)),(∀ x c,cs.lookup x=some c→env.cells.lookup x=some c)→
  ∀ x c,(names.foldl (fun cs y=>if y.2== .free then (match env.cells.lookup y.1 with|some a=>(y.1,a)::cs|none=>cs) else cs) cs).lookup x=some c→env.cells.lookup x=some c:=by
 induction names with
 |nil=>intro cs h;exact h
 |cons y r ih=>
  intro cs h
  rw [List.foldl_cons]
  refine ih _ ?_
  split
  ·split
   ·rename_i a ha
    intro x c e
    rw [List.lookup_cons] at e
    by_cases hx:x=y.1
    ·have:(x==y.1)=true:=by rw [hx];simp
     rw [this] at e
     have e':a=c:=Option.some.inj e
     rw [hx,ha,e']
    ·have:(x==y.1)=false:=by simpa using hx
     rw [this] at e
     exact h x c e
   ·exact h
  ·exact h
theorem clOf_has {env:Env} (names:List (Str×NameKind)):∀ (cs:List (Str×Addr)) (x:Str),((∃ c,cs.lookup x=some c)∨((x,NameKind.free)∈names∧∃ c,env.cells.lookup x=some c))→
  ∃ c,(names.foldl (fun cs y=>if y.2== .free then (match env.cells.lookup y.1 with|some a=>(y.1,a)::cs|none=>cs) else cs) cs).lookup x=some c:=by
 induction names with
 |nil=>
  intro cs x h
  rcases h with h|⟨h,_⟩
  ·exact h
  ·simp at h
 |cons y r ih=>
  intro cs x h
  rw [List.foldl_cons]
  refine ih _ x ?_
  rcases h with ⟨c,h⟩|⟨h,c,hc⟩
  ·left
   split
   ·split
    ·rename_i a ha
     rw [List.lookup_cons]
     cases hx:x==y.1 with
     |true=>exact ⟨a,rfl⟩
     |false=>exact ⟨c,h⟩
    ·exact ⟨c,h⟩
   ·exact ⟨c,h⟩
  ·rcases List.mem_cons.mp h with h|h
   ·left
    subst h
    simp only [beq_self_eq_true,if_true,hc]
    exact ⟨c,by rw [List.lookup_cons];simp⟩
   ·exact .inr ⟨h,c,hc⟩
theorem lookup_mapKey {g:Str→NameKind→NameKind}:∀ (l:List (Str×NameKind)) (x:Str),(l.map fun y=>(y.1,g y.1 y.2)).lookup x=(l.lookup x).map (g x)
 | [],_=>rfl
 |y::r,x=>by
  rw [List.map_cons,List.lookup_cons,List.lookup_cons]
  cases hx:x==y.1 with
  |true=>
   have:x=y.1:=by simpa using hx
   rw [this];rfl
  |false=>exact lookup_mapKey r x
theorem relabel_lookup (scope:Scope) (env:Env) (x:Str):(relabel scope env).names.lookup x=(scope.names.lookup x).map fun k=>if (k== .free&&env.scope.kind== .function&&env.kindOf x==some .cell) then .cell else k:=by
 have e:(relabel scope env).names=scope.names.map fun y=>(y.1,(fun n k=>if (k==NameKind.free&&env.scope.kind== .function&&env.kindOf n==some .cell) then NameKind.cell else k) y.1 y.2):=by
  unfold relabel
  refine List.map_congr_left fun y _=> ?_
  obtain ⟨n,k⟩:=y
  dsimp only
  split<;>rfl
 rw [e]
 exact lookup_mapKey (g:=fun n k=>if (k==NameKind.free&&env.scope.kind== .function&&env.kindOf n==some .cell) then NameKind.cell else k) scope.names x
theorem clOf_mem {env:Env} (names:List (Str×NameKind)):∀ (cs:List (Str×Addr)) (x:Str) (c:Addr),(names.foldl (fun cs y=>if y.2== .free then (match env.cells.lookup y.1 with|some a=>(y.1,a)::cs|none=>cs) else cs) cs).lookup x=some c→cs.lookup x=some c∨(x,NameKind.free)∈names:=by
 induction names with
 |nil=>intro cs x c h;exact .inl h
 |cons y r ih=>
  intro cs x c h
  rw [List.foldl_cons] at h
  rcases ih _ x c h with h|h
  ·by_cases hf:y.2= .free
   ·by_cases hx:x=y.1
    ·right;subst hx;rw [←hf];exact List.mem_cons_self
    ·left
     have hb:(y.2==NameKind.free)=true:=by rw [hf];rfl
     have hxb:(x==y.1)=false:=by simpa using hx
     simp only [hb,if_true] at h
     split at h
     ·rw [List.lookup_cons,hxb] at h;exact h
     ·exact h
   ·left
    have hb:(y.2==NameKind.free)=false:=by simpa using hf
    simp only [hb,Bool.false_eq_true,if_false] at h
    exact h
  ·exact .inr (List.mem_cons_of_mem _ h)
theorem cf_or:∀ (names:List (Str×NameKind)) (n:Nat) (acc:List (Str×Addr)) (x:Str) (c:Addr),(cellsFrom n names acc).lookup x=some c→acc.lookup x=some c∨(n≤c∧(x,NameKind.cell)∈names)
 | [],_,_,_,_,h=> .inl h
 |(y,k)::r,n,acc,x,c,h=>by
  unfold cellsFrom at h
  by_cases hk:(k== .cell)=true
  ·rw [if_pos hk] at h
   have hk':k= .cell:=by simpa using hk
   rcases cf_or r (n+1) _ x c h with h|⟨h1,h2⟩
   ·rw [List.lookup_cons] at h
    cases hx:x==y with
    |true=>
     rw [hx] at h
     have e:n=c:=Option.some.inj h
     have ex:x=y:=by simpa using hx
     subst ex;subst hk'
     exact .inr ⟨by omega,List.mem_cons_self⟩
    |false=>rw [hx] at h;exact .inl h
   ·exact .inr ⟨by omega,List.mem_cons_of_mem _ h2⟩
  ·rw [if_neg hk] at h
   rcases cf_or r n acc x c h with h|⟨h1,h2⟩
   ·exact .inl h
   ·exact .inr ⟨h1,List.mem_cons_of_mem _ h2⟩
theorem cf_old:∀ (names:List (Str×NameKind)) (n:Nat) (acc:List (Str×Addr)) (x:Str),(x,NameKind.cell)∉names→(cellsFrom n names acc).lookup x=acc.lookup x
 | [],_,_,_,_=>rfl
 |(y,k)::r,n,acc,x,h=>by
  have hr:(x,NameKind.cell)∉r:=fun z=>h (List.mem_cons_of_mem _ z)
  unfold cellsFrom
  by_cases hk:(k== .cell)=true
  ·rw [if_pos hk,cf_old r (n+1) _ x hr,List.lookup_cons]
   have hk':k= .cell:=by simpa using hk
   have hx:(x==y)=false:=by
    cases hx:x==y with
    |false=>rfl
    |true=>
     have ex:x=y:=by simpa using hx
     subst ex;subst hk'
     exact absurd List.mem_cons_self h
   rw [hx]
  ·rw [if_neg hk];exact cf_old r n acc x hr
theorem cf_inj:∀ (names:List (Str×NameKind)) (n:Nat) (acc:List (Str×Addr)),(∀ x y c,acc.lookup x=some c→acc.lookup y=some c→x=y)→(∀ x c,acc.lookup x=some c→c<n)→
  ∀ x y c,(cellsFrom n names acc).lookup x=some c→(cellsFrom n names acc).lookup y=some c→x=y
 | [],_,_,h,_=>h
 |(z,k)::r,n,acc,h,hb=>by
  unfold cellsFrom
  by_cases hk:(k== .cell)=true
  ·rw [if_pos hk]
   refine cf_inj r (n+1) _ (fun x y c e1 e2=> ?_) fun x c e=> ?_
   ·rw [List.lookup_cons] at e1 e2
    cases hx:x==z with
    |true=>
     rw [hx] at e1
     have ec:n=c:=Option.some.inj e1
     have ex:x=z:=by simpa using hx
     cases hy:y==z with
     |true=>
      have ey:y=z:=by simpa using hy
      rw [ex,ey]
     |false=>
      rw [hy] at e2
      have:=hb y c e2
      rw [←ec] at this
      exact absurd this (Nat.lt_irrefl _)
    |false=>
     rw [hx] at e1
     cases hy:y==z with
     |true=>
      rw [hy] at e2
      have ec:n=c:=Option.some.inj e2
      have:=hb x c e1
      rw [←ec] at this
      exact absurd this (Nat.lt_irrefl _)
     |false=>rw [hy] at e2;exact h x y c e1 e2
   ·rw [List.lookup_cons] at e
    cases hx:x==z with
    |true=>
     rw [hx] at e
     have ec:n=c:=Option.some.inj e
     rw [←ec]
     exact Nat.lt_succ_self _
    |false=>rw [hx] at e;exact Nat.lt_succ_of_lt (hb x c e)
  ·rw [if_neg hk];exact cf_inj r n acc h hb
theorem cf_cell:∀ (names:List (Str×NameKind)) (h:Heap) (acc:List (Str×Addr)),(∀ x c,acc.lookup x=some c→∃ v,h.IsCell c v)→∀ x c,(cellsFrom h.objs.size names acc).lookup x=some c→∃ v,(pushCells h names).IsCell c v
 | [],_,_,hc=>hc
 |(z,k)::r,h,acc,hc=>by
  unfold cellsFrom pushCells
  by_cases hk:(k== .cell)=true
  ·rw [if_pos hk,if_pos hk]
   have:=cf_cell r (h.push {cls:= .type "cell",data:= .cell none}) ((z,h.objs.size)::acc) fun x c e=>by
    rw [List.lookup_cons] at e
    cases hx:x==z with
    |true=>
     rw [hx] at e
     have ec:h.objs.size=c:=Option.some.inj e
     subst ec
     exact ⟨none,_,Heap.get?_push_size _ rfl,rfl⟩
    |false=>
     rw [hx] at e
     obtain ⟨v,q⟩:=hc x c e
     exact ⟨v,q.keeps fun b o e=>Heap.get?_push_of_some _ e⟩
   rw [Heap.size_push] at this
   exact this
  ·rw [if_neg hk,if_neg hk];exact cf_cell r h acc hc
def ccOf (scope:Scope) (env:Env) (C:Addr):List (Str×Addr):=cellsFrom (C+1) scope.names (clOf scope env)
theorem wpAny_newCompEnv {M:Model} {A:Around} {E:Value→Shared→Prop} {s:Shared} {scope:Scope} {globals:Addr} {cl:List (Str×Addr)} {qual:Str} {env:Env} {Q:Env→Shared→Prop}
  (hQ:Q {scope:=scope,locals:=s.heap.objs.size,globals:=globals,cells:=cellsFrom (s.heap.objs.size+1) scope.names cl,qual:=qual,func:=none,code:=env.code,frame:=env.frame,builtins:=env.builtins}
   {s with heap:=pushCells (s.heap.push {cls:= .type "dict",data:= .dict #[]}) scope.names}):
  wpAny M A (newFunctionEnv scope globals cl [] qual none .none (some env)) Q E s:=by
 simp only [newFunctionEnv,Option.isSome_some,if_true]
 refine wpAny_bind (wpAny_alloc ?_)
 refine wpAny_bind (wpAny_layCells _ (fun name kind cells=>by cases hkc:kind==NameKind.cell<;>simp [hkc]) _ _ _ _ ?_)
 rw [show ({s with heap:=s.heap.push {cls:= .type "dict",data:= .dict #[]}}:Shared).heap.objs.size=s.heap.objs.size+1 from Heap.size_push ..]
 refine wpAny_bind ?_
 rw [List.forIn_nil]
 exact wpAny_pure (wpAny_pure hQ)
theorem ns_newDict {h:Heap} {names:List (Str×NameKind)}:(pushCells (h.push {cls:= .type "dict",data:= .dict #[]}) names).Ns h.objs.size fun _=>none:=(Heap.Ns.new h (.type "dict")).keeps (pushCells_keeps _ _)
def compCx (X:Cx) (scope:Scope) (Nc Nx:List Str) (C:Addr) (fp:List Addr) (pins:List (Addr×Obj)) (s:Shared) (H:Hp):Cx:=
 {X with N:=Nc++Nx,s₀:=s,H₀:=H,env:=compEnvC scope (ccOf scope X.env C) C X.env,outer:=X.stack,stack:=X.stack,ex:=fp,fn:=fun x=>scope.names.lookup x==some .cell,pn:=X.pn++pins,xe:=fun _ _=>False}
structure CompOk (X:Cx) (scope:Scope) (Nc Nx:List Str):Prop where
 kind:scope.kind= .function
 one:∀ y∈scope.names,scope.names.lookup y.1=some y.2
 free:∀ y∈scope.names,y.2= .free→X.env.kindOf y.1=some .cell∨X.env.kindOf y.1=some .free
 same:Nx.length=X.N.length
 dis:∀ p∈Nx.zip X.N,(p.1=p.2∧scope.names.lookup p.2≠some .local∧scope.names.lookup p.2≠some .cell)∨scope.names.lookup p.1=none
section
variable {X:Cx} {scope:Scope} {Nc Nx:List Str}
theorem CompOk.loc (c:CompOk X scope Nc Nx):∀ y∈scope.names,y.2= .local→scope.names.lookup y.1=some .local:=fun y hy h=>by rw [c.one y hy,h]
theorem CompOk.old (c:CompOk X scope Nc Nx) {x:Str} {k:NameKind} (h:scope.names.lookup x=some k) (hk:k≠ .cell):(x,NameKind.cell)∉scope.names:=fun z=>by
 have:=c.one _ z
 rw [h] at this
 exact hk (Option.some.inj this)
theorem CompOk.cells (c:CompOk X scope Nc Nx) (ok:X.Ok):∀ y∈scope.names,y.2= .free→∃ a,X.env.cells.lookup y.1=some a:=fun y hy hf=>ok.has y.1 (c.free y hy hf)
theorem compCl_sub {x:Str} {a:Addr} (h:(clOf scope X.env).lookup x=some a):X.env.cells.lookup x=some a:=clOf_sub scope.names [] (fun _ _ e=>by simp at e) x a h
theorem ccOf_or (C:Addr) {x:Str} {a:Addr} (h:(ccOf scope X.env C).lookup x=some a):X.env.cells.lookup x=some a∨(C<a∧(x,NameKind.cell)∈scope.names):=by
 rcases cf_or _ _ _ x a h with h|⟨h1,h2⟩
 ·exact .inl (compCl_sub h)
 ·exact .inr ⟨h1,h2⟩
theorem ccOf_new (c:CompOk X scope Nc Nx) (C:Addr) {x:Str} {a:Addr} (hx:scope.names.lookup x=some .cell) (h:(ccOf scope X.env C).lookup x=some a):C<a:=by
 rcases cf_or _ _ _ x a h with h|⟨h1,_⟩
 ·rcases clOf_mem scope.names [] x a h with h|h
  ·simp at h
  ·have:=c.one _ h
   rw [hx] at this
   cases this
 ·exact h1
theorem ccOf_old (c:CompOk X scope Nc Nx) (C:Addr) {x:Str} {k:NameKind} (hx:scope.names.lookup x=some k) (hk:k≠ .cell):(ccOf scope X.env C).lookup x=(clOf scope X.env).lookup x:=cf_old _ _ _ x (c.old hx hk)
theorem inv_comp {pins:List (Addr×Obj)} {σ:L2.St} {H:Hp} {s:Shared} {fp:List Addr} {tk:Nat} (c:CompOk X scope Nc Nx) (I:Inv X pins σ H s) (hf:∀ b∈fp,FpOk X pins H b∧b<s.heap.objs.size):
  Inv (compCx X scope Nc Nx s.heap.objs.size fp pins s H) [] (List.replicate Nc.length none++σ) H {s with heap:=pushCells (s.heap.push {cls:= .type "dict",data:= .dict #[]}) scope.names,toks:=tk}:=by
 have hn:(pushCells (s.heap.push {cls:= .type "dict",data:= .dict #[]}) scope.names).Ns s.heap.objs.size fun _=>none:=ns_newDict
 have hk:∀ b o,s.heap.get? b=some o→(pushCells (s.heap.push {cls:= .type "dict",data:= .dict #[]}) scope.names).get? b=some o:=fun b o e=>pushCells_keeps _ _ _ _ (Heap.get?_push_of_some _ e)
 have cellLt:∀ x a,X.env.cells.lookup x=some a→a<s.heap.objs.size:=fun x a e=>by
  obtain ⟨v,q⟩:=I.cell x a e
  exact q.lt
 have hokind:(compEnvC scope (ccOf scope X.env s.heap.objs.size) s.heap.objs.size X.env).scope.kind= .function:=c.kind
 have kinds:∀ x,((relabel scope X.env).names.lookup x=some .cell∨(relabel scope X.env).names.lookup x=some .free)→scope.names.lookup x=some .cell∨scope.names.lookup x=some .free:=fun x hx'=>by
  rw [relabel_lookup] at hx'
  cases q:scope.names.lookup x with
  |none=>rw [q] at hx';simp at hx'
  |some k=>
   rw [q] at hx'
   by_cases hkf:k= .free
   ·rw [hkf];exact .inr rfl
   ·have hb:(k==NameKind.free)=false:=by simpa using hkf
    simp only [Option.map_some,hb,Bool.false_and,Bool.false_eq_true,if_false] at hx'
    exact hx'
 refine ⟨⟨I.ok.mod,hokind,I.ok.glob,I.ok.blt,Nat.le_refl _,?_,fun x hx=> ?_,fun x a hx e=> ?_,I.ok.hd,I.ok.frames, .inl rfl,fun b hb=>⟨?_,fun x a e=> ?_⟩,I.bs,Nat.le_trans I.ok.bsz I.sz,fun b o e hb=> ?_,fun b hb=> ?_,I.stack,I.stkFree⟩,
  rfl,I.bare,Un.kept hk,⟨_,hn,fun i x v h1 h2 h3=> ?_⟩,?_,I.hok.fresh (Nat.le_refl _),fun x a e=> ?_,fun p hp=> ?_,I.hok.kept hk,?_⟩
 ·exact cf_inj scope.names _ _ (fun x y a h1 h2=>I.ok.inj x y a (compCl_sub h1) (compCl_sub h2)) fun x a h=>Nat.lt_succ_of_lt (cellLt x a (compCl_sub h))
 ·rcases kinds x hx with hc|hfree
  ·exact Option.isSome_iff_exists.mp (PySem.W.cellsFrom_some scope.names _ _ (.inl hc))
  ·have hm:=PySem.mem_of_lookup hfree
   obtain ⟨a,e⟩:=clOf_has (env:=X.env) scope.names [] x (.inr ⟨hm,c.cells I.ok _ hm rfl⟩)
   exact ⟨a,(ccOf_old c _ hfree (by decide)).trans e⟩
 ·have hx':(scope.names.lookup x==some NameKind.cell)=true:=hx
  exact Nat.le_of_lt (ccOf_new c _ (by simpa using hx') e)
 ·exact Nat.ne_of_lt (hf b hb).2
 ·rcases ccOf_or _ e with e|⟨e,_⟩
  ·exact (hf b hb).1.2.2.2.2.1 x a e
  ·have:=(hf b hb).2
   exact Nat.ne_of_gt (Nat.lt_trans this e)
 ·obtain ⟨_,hb2⟩:=I.bs b o e
  rcases (hf b hb).1.2.2.2.1 with z|z
  ·exact I.ok.noex b o e z
  ·exact absurd (Nat.lt_of_lt_of_le (Heap.lt_size e) (Nat.le_trans I.ok.bsz z)) (Nat.lt_irrefl _)
 ·intro z
  rcases List.mem_cons.mp (I.stkSub b z) with q|q
  ·exact (hf b hb).1.2.1 q
  ·exact (hf b hb).1.2.2.1 q
 ·have hi:Nc.length≤i:=by
   refine Nat.le_of_not_lt fun q=> ?_
   rw [List.getElem?_append_left (by simpa using q),List.getElem?_replicate] at h2
   split at h2<;>cases h2
  have h1':Nx[i-Nc.length]? =some x:=by
   have z:(Nc++Nx)[i]? =some x:=h1
   rw [List.getElem?_append_right hi] at z;exact z
  have h2':σ[i-Nc.length]? =some (some v):=by
   rw [List.getElem?_append_right (by simpa using hi),List.length_replicate] at h2;exact h2
  have h3':(relabel scope X.env).names.lookup x=some .local∨(relabel scope X.env).names.lookup x=some .cell∨(relabel scope X.env).names.lookup x=some .free:=h3
  have hz:i-Nc.length<X.N.length:=by
   rw [←c.same]
   refine Nat.lt_of_not_le fun q=> ?_
   rw [List.getElem?_eq_none q] at h1';cases h1'
  have hd2:=c.dis (x,X.N[i-Nc.length]'hz) (List.mem_of_getElem? (i:=i-Nc.length) (by
   rw [List.getElem?_zip_eq_some]
   exact ⟨h1',List.getElem?_eq_getElem hz⟩))
  have hd3:X.N[i-Nc.length]? =some x∧scope.names.lookup x≠some .local∧scope.names.lookup x≠some .cell:=by
   rcases hd2 with ⟨q1,q2⟩|q
   ·have q1':x=X.N[i-Nc.length]'hz:=q1
    have q2':scope.names.lookup (X.N[i-Nc.length]'hz)≠some .local∧scope.names.lookup (X.N[i-Nc.length]'hz)≠some .cell:=q2
    rw [←q1'] at q2'
    exact ⟨by rw [List.getElem?_eq_getElem hz,←q1'],q2'⟩
   ·exfalso
    have q':scope.names.lookup x=none:=q
    rw [relabel_lookup,q'] at h3'
    simp at h3'
  obtain ⟨h1',hnl,hnc⟩:=hd3
  have hfree:scope.names.lookup x=some .free:=by
   rcases h3' with z|z
   ·rw [relabel_lookup] at z
    cases q:scope.names.lookup x with
    |none=>rw [q] at z;simp at z
    |some k=>
     rw [q] at z
     by_cases hkf:k= .free
     ·rw [hkf]
     ·have hb:(k==NameKind.free)=false:=by simpa using hkf
      simp only [Option.map_some,hb,Bool.false_and,Bool.false_eq_true,if_false] at z
      rw [q] at hnl;exact absurd z hnl
   ·rcases kinds x z with z|z
    ·exact absurd z hnc
    ·exact z
  have hm:=PySem.mem_of_lookup hfree
  have hkx:=c.free _ hm rfl
  obtain ⟨mX,hnX,hl⟩:=I.loc
  obtain ⟨u,r,l⟩:=hl _ x v h1' h2' (hkx.elim (fun z=> .inr (.inl z)) fun z=> .inr (.inr z))
  refine ⟨u,r,?_⟩
  rcases l with ⟨z,_⟩|⟨_,a,e,z⟩
  ·have z':X.env.kindOf x=some .local:=z
   rcases hkx with q|q<;> · rw [z'] at q;cases q
  ·obtain ⟨a',e'⟩:=clOf_has (env:=X.env) scope.names [] x (.inr ⟨hm,c.cells I.ok _ hm rfl⟩)
   have ea:a'=a:=by
    have:=compCl_sub (X:=X) e'
    rw [e] at this
    exact (Option.some.inj this).symm
   subst ea
   refine .inr ⟨?_,a',(ccOf_old c _ hfree (by decide)).trans e',?_⟩
   ·show (relabel scope X.env).names.lookup x=some .cell∨(relabel scope X.env).names.lookup x=some .free
    rw [relabel_lookup,hfree]
    simp only [Option.map_some]
    split
    ·exact .inl rfl
    ·exact .inr rfl
   ·obtain ⟨o,ho,hd⟩:=z
    exact ⟨o,hk _ _ ho,hd⟩
 ·have q:=cf_cell scope.names (s.heap.push {cls:= .type "dict",data:= .dict #[]}) (clOf scope X.env) fun x a e=>by
   obtain ⟨v,z⟩:=I.cell x a (compCl_sub e)
   exact ⟨v,z.keeps fun b o e=>Heap.get?_push_of_some _ e⟩
  rw [Heap.size_push] at q
  exact q
 ·rcases ccOf_or _ e with e|⟨e,_⟩
  ·exact I.freeC x a e
  ·exact I.hok.fresh (Nat.le_of_lt e)
 ·have hp':p∈X.pn++pins:=by
   have z:p∈(X.pn++pins)++ []:=hp
   rwa [List.append_nil] at z
  obtain ⟨e,n,ne,nf,d⟩:=I.pin p hp'
  refine ⟨hk _ _ e,n,Nat.ne_of_lt (Heap.lt_size e),fun z=> ?_,d⟩
  rcases List.mem_cons.mp (I.stkSub p.1 z) with q|q
  ·exact ne q
  ·exact nf q
 ·show _=(Nc++Nx).length
  rw [List.length_append,List.length_append,List.length_replicate,I.len,c.same]
theorem inv_back {pins:List (Addr×Obj)} {σ σ':L2.St} {H H':Hp} {s s':Shared} {fp:List Addr} {h'':Heap} (I:Inv X pins σ H s) (hf:∀ b∈fp,FpOk X pins H b)
  (J:Inv (compCx X scope Nc Nx s.heap.objs.size fp pins s H) [] σ' H' s') (hs:Heap.SameBut s.heap.objs.size s'.heap h''):Inv X pins σ H' {s' with heap:=h''}:=by
 have u:Un (frs X.stack) fp H H' s.heap s'.heap:=J.base
 have hC:H' s.heap.objs.size=none:=J.free
 have keep:∀ b o,b≠s.heap.objs.size→s'.heap.get? b=some o→h''.get? b=some o:=fun b o hb e=>by rw [hs.2 b hb];exact e
 have lt:∀ b o,s.heap.get? b=some o→b≠s.heap.objs.size:=fun b o e=>Nat.ne_of_lt (Heap.lt_size e)
 refine I.call' (s':= {s' with heap:=h''}) (ch:=fp) J.os ⟨fun b o e n h1 h2=>keep b o (lt b o e) (u.keep b o e n h1 h2),fun b o e n h1 h2=> ?_,u.free,fun b o e h1=> ?_,u.tups,u.frzs,u.tbls⟩ (fun b o e=> ?_) J.bare fun b hb=> ?_
 ·obtain ⟨sl,q⟩:=u.slot b o e n h1 h2
  exact ⟨sl,keep b _ (lt b o e) q⟩
 ·obtain ⟨o',q⟩:=u.there b o e h1
  exact ⟨o',keep b _ (lt b o e) q⟩
 ·refine (J.hok b o e).stay (fun c v hc q=>keep c v (fun z=> ?_) q) (fun _ q=>q) fun _ _ q=>q
  subst z
  rcases hc with z|z
  ·rw [←z,hC] at e;cases e
  ·rw [hC] at z;cases z
 ·exact ⟨(hf b hb).2.2.2.1,(hf b hb).2.1,(hf b hb).2.2.2.2.1,(hf b hb).2.2.2.2.2⟩
end
end L3
namespace L3
open PySem PySem.Spec PyProof.Rows L2
theorem compLoop_go {prog:Program} {w:World} {A:Around} {R:Result→Shared→Prop} {s:Shared} {elt target iter:Expr} {ifs:List Expr} {scope:Scope} {pos:Pos} {it acc:Value} {env:Env} (I:Nat→Shared→Prop)
  (turn:∀ n s,I n s→wpAny (model prog w) A (pyNext it) (fun r s₁=>match r with
   |none=>R (.ok .next) s₁
   |some v=>wpAny (model prog w) A (letOwnedTupleGo target it v) (fun _ s₁'=>wpAny (model prog w) A (assign target env v) (fun _ s₂=>
     wpAny (model prog w) A (forIn ifs true fun c r=>if r=true then do let ok ←isTrue c env (eval c env);pure (ForInStep.yield ok) else pure (ForInStep.yield r)) (fun ok s₃=>
      if ok=true then wpAny (model prog w) A (eval elt env) (fun x s₄=>
       wpAny (model prog w) A (call (.builtin "list.append") [acc,x]) (fun _ s₅=>∃ m,m<n∧I m s₅) (fun _ _=>False) s₄) (fun _ _=>False) s₃
      else ∃ m,m<n∧I m s₃) (fun _ _=>False) s₂) (fun _ _=>False) s₁') (fun _ _=>False) s₁) (fun _ _=>False) s)
  (n:Nat) (h:I n s):
  codeAny (model prog w) A (.compLoop (.ListComp elt [⟨target,iter,ifs,0⟩] scope pos) 0 it acc env) R s:=by
 refine codeAny_loop rfl I (fun n s hI=> ?_) n h
 show wpAny _ A ((compTurn (.ListComp elt [⟨target,iter,ifs,0⟩] scope pos) 0 it acc env).onRaise (fun x=>do noteFrame x env;theTreesLotGoes x)) _ _ s
 refine wpAny_noted ?_
 rw [compTurn_list]
 refine wpAny_bind (wpAny_standAt (wpAny_bind (wpAny_mono (turn n s hI) (fun r s₁ h₁=> ?_) fun _ _ h'=>h'.elim)))
 cases r with
 |none=>exact wpAny_pure h₁
 |some v=>
  refine wpAny_bind (wpAny_mono h₁ (fun _ s₁' h₁'=>wpAny_bind (wpAny_mono h₁' (fun _ s₂ h₂=>wpAny_bind (wpAny_mono h₂ (fun ok s₃ h₃=> ?_) fun _ _ h'=>h'.elim)) fun _ _ h'=>h'.elim)) fun _ _ h'=>h'.elim)
  cases ok with
  |false=>exact wpAny_pure ⟨rfl,h₃⟩
  |true=>
   exact wpAny_bind (wpAny_bind (wpAny_mono h₃ (fun x s₄ h₄=>wpAny_bind (wpAny_mono h₄ (fun _ s₅ h₅=>wpAny_pure (wpAny_pure ⟨rfl,h₅⟩)) fun _ _ h'=>h'.elim)) fun _ _ h'=>h'.elim))
def PTs (X:Cx) (ifs:List Expr) (t:TT):Prop:=
 ∀ (pins:List (Addr×Obj)) (s:Shared) (σ:L2.St) (H:Hp) (Q:Bool→Hp→Prop),Inv X pins σ H s→t σ H Q→
  wpAny (model X.prog X.w) X.A (forIn ifs true fun c r=>if r=true then do let ok ←isTrue c X.env (eval c X.env);pure (ForInStep.yield ok) else pure (ForInStep.yield r)) (TP X pins σ Q) X.xe s
def tYes:TT:=fun _ H Q=>Q true H
theorem pts_nil {X:Cx}:PTs X [] tYes:=fun _ s σ H Q I h=>wpAny_tests_nil ⟨H,I,h⟩
def tComp (n:Nat) (wi:TI) (g:TG) (tt:TT) (te:TE):TE:=fun σ H Q=>wi σ H fun J H1=>∀ a,H1 a=none→∃ W:Nat→Nat→List V→L2.St→Hp→Prop,(∃ m,W 0 m [] (List.replicate n none++σ) (upd H1 a (.lst [])))∧
 ∀ i m xs σ' H,W i m xs σ' H→H a=some (.lst xs)∧((J.stop i H∧Q (.ref a) H)∨(J.go i H∧∀ x H',J.yld i H x H'→g x σ' H' fun σ2 H2=>tt σ2 H2 fun b H3=>
  if b=true then te σ2 H3 fun y H4=>H4 a=some (.lst xs)∧xs.length<sizeLine∧∃ m',m'<m∧W (i+1) m' (xs++ [y]) σ2 (upd H4 a (.lst (xs++ [y]))) else ∃ m',m'<m∧W (i+1) m' xs σ2 H3))
section
variable {X:Cx} {scope:Scope} {Nc Nx:List Str} {elt tg iter:Expr} {ifs:List Expr} {pos:Pos} {wi:TI} {g:TG} {tt:TT} {te:TE}
theorem comp_block (c:CompOk X scope Nc Nx) (hcalm:X.calm=true)
  (hY:∀ (C:Addr) (fp:List Addr) (pins:List (Addr×Obj)) (s:Shared) (H:Hp),PG (compCx X scope Nc Nx C fp pins s H) tg g∧PTs (compCx X scope Nc Nx C fp pins s H) ifs tt∧PE (compCx X scope Nc Nx C fp pins s H) elt te)
  {pins:List (Addr×Obj)} {σ:L2.St} {s2:Shared} {it:Addr} {fp:List Addr} {tn:Nat→Heap→Prop} {J:It} {H1:Hp} {Q:V→Hp→Prop} {RR:Value→Addr→Result→Shared→Prop} {E:Value→Shared→Prop}
  (I:Inv X pins σ H1 s2) (T:Turn X.prog X.w X.K tg J fp it tn) (st:tn 0 s2.heap) (hf:∀ b∈fp,FpOk X pins H1 b)
  (h:∀ a,H1 a=none→∃ W:Nat→Nat→List V→L2.St→Hp→Prop,(∃ m,W 0 m [] (List.replicate Nc.length none++σ) (upd H1 a (.lst [])))∧
 ∀ i m xs σ' H,W i m xs σ' H→H a=some (.lst xs)∧((J.stop i H∧Q (.ref a) H)∨(J.go i H∧∀ x H',J.yld i H x H'→g x σ' H' fun σ2 H2=>tt σ2 H2 fun b H3=>
  if b=true then te σ2 H3 fun y H4=>H4 a=some (.lst xs)∧xs.length<sizeLine∧∃ m',m'<m∧W (i+1) m' (xs++ [y]) σ2 (upd H4 a (.lst (xs++ [y]))) else ∃ m',m'<m∧W (i+1) m' xs σ2 H3)))
  (hRR:∀ a H' σ' s' s3,Inv X pins σ (upd H1 a (.lst [])) s3→(∀ b∈fp,FpOk X pins (upd H1 a (.lst [])) b)→Inv (compCx X scope Nc Nx s3.heap.objs.size fp pins s3 (upd H1 a (.lst []))) [] σ' H' s'→Q (.ref a) H'→RR (.ref a) s3.heap.objs.size (.ok .next) s'):
  wpAny (model X.prog X.w) X.A (newList []) (fun acc s₃=>wpAny (model X.prog X.w) X.A (newFunctionEnv scope X.env.globals (clOf scope X.env) [] X.env.qual none .none (some X.env)) (fun cenv s₄=>
   codeAny (model X.prog X.w) X.A (.compStart (.ListComp elt [⟨tg,iter,ifs,0⟩] scope pos) 0 (.ref it) acc {cenv with scope:=relabel scope X.env}) (RR acc cenv.locals) s₄) E s₃) E s2:=by
 have hfree:H1 s2.heap.objs.size=none:=I.hok.fresh (Nat.le_refl _)
 refine wpAny_newObj_type (wpAny_newCompEnv ?_)
 dsimp only
 generalize ea:s2.heap.objs.size=a at hfree
 have I3:Inv X pins σ (upd H1 a (.lst [])) {s2 with heap:=s2.heap.push {cls:= .type "list",dict:=none,data:= .seq ([]:List Value).toArray},toks:=s2.toks}:=by
  subst ea
  exact I.laid (t':=s2.toks) (fun b u e=>Heap.get?_push_of_some _ e) (Nat.le_refl _) ⟨Nat.zero_le _,[],_, .nil,Heap.get?_push_size _ rfl⟩
 generalize eS:({s2 with heap:=s2.heap.push {cls:= .type "list",dict:=none,data:= .seq ([]:List Value).toArray},toks:=s2.toks}:Shared)=s3 at I3
 have e3h:s3.heap=s2.heap.push {cls:= .type "list",dict:=none,data:= .seq ([]:List Value).toArray}:=by rw [←eS]
 have obj0:=T.obj 0 _ st
 have hf3:∀ b∈fp,FpOk X pins (upd H1 a (.lst [])) b:=fun b hb=>by
  obtain ⟨o,e,_⟩:=obj0 b hb
  have:b≠a:=by rw [←ea];exact Nat.ne_of_lt (Heap.lt_size e)
  exact ⟨by rw [upd_ne this];exact (hf b hb).1,(hf b hb).2⟩
 have up:∀ b o,s2.heap.get? b=some o→s3.heap.get? b=some o:=fun b o e=>by rw [e3h];exact Heap.get?_push_of_some _ e
 have hf3':∀ b∈fp,FpOk X pins (upd H1 a (.lst [])) b∧b<s3.heap.objs.size:=fun b hb=>⟨hf3 b hb,by
  obtain ⟨o,e,_⟩:=obj0 b hb
  exact Heap.lt_size (up b o e)⟩
 have eC:(s2.heap.push {cls:= .type "list",dict:=none,data:= .seq ([]:List Value).toArray}).objs.size=s3.heap.objs.size:=by rw [e3h]
 generalize eh:pushCells ((s2.heap.push {cls:= .type "list",dict:=none,data:= .seq ([]:List Value).toArray}).push {cls:= .type "dict",data:= .dict #[]}) scope.names=h₁
 have hk4:∀ b o,s3.heap.get? b=some o→h₁.get? b=some o:=fun b o e=>by
  rw [←eh,←e3h]
  exact pushCells_keeps _ _ _ _ (Heap.get?_push_of_some _ e)
 have I4:=inv_comp (tk:=s2.toks) c I3 hf3'
 have e4:({s3 with heap:=pushCells (s3.heap.push {cls:= .type "dict",data:= .dict #[]}) scope.names,toks:=s2.toks}:Shared)= {s2 with heap:=h₁}:=by rw [←eh,←eS]
 rw [e4] at I4
 obtain ⟨W,⟨m0,w0⟩,turn⟩:=h a hfree
 obtain ⟨hg,htt,hte⟩:=hY s3.heap.objs.size fp pins s3 (upd H1 a (.lst []))
 have loop:codeAny (model X.prog X.w) X.A (.compLoop (.ListComp elt [⟨tg,iter,ifs,0⟩] scope pos) 0 (.ref it) (.ref a) (compEnvC scope (ccOf scope X.env s3.heap.objs.size) s3.heap.objs.size X.env)) (RR (.ref a) s3.heap.objs.size) {s2 with heap:=h₁}:=by
  refine compLoop_go (fun n s'=>∃ i xs σ' H',Inv (compCx X scope Nc Nx s3.heap.objs.size fp pins s3 (upd H1 a (.lst []))) [] σ' H' s'∧tn i s'.heap∧(∀ b∈fp,H' b=none)∧W i n xs σ' H') ?_ m0
   ⟨0,[],_,_,I4,T.keep _ _ _ st fun b _ o e=>hk4 b o (up b o e),fun b hb=>(hf3 b hb).1,w0⟩
  rintro n s5 ⟨i,xs,σ5,H5,I5,st5,fr5,w5⟩
  have stat:∀ {H':Hp},(∀ b∈fp,H' b=none)→∀ b∈fp,FpOk (compCx X scope Nc Nx s3.heap.objs.size fp pins s3 (upd H1 a (.lst []))) [] H' b:=fun {H'} hn b hb=>by
   obtain ⟨_,f1,f2,f3,f4,f5⟩:=hf3 b hb
   refine ⟨hn b hb,Nat.ne_of_lt (hf3' b hb).2,fun z=> ?_, .inl hb,fun x cc e=>(ccOf_or _ e).elim (fun e=>f4 x cc e) fun e=>Nat.ne_of_gt (Nat.lt_trans (hf3' b hb).2 e.1),fun p hp=>f5 p ?_⟩
   ·rcases List.mem_cons.mp (I3.stkSub b z) with q|q
    ·exact f1 q
    ·exact f2 q
   ·have z:p∈(X.pn++pins)++ []:=hp
    rwa [List.append_nil] at z
  obtain ⟨hxs,alt⟩:=turn i n xs σ5 H5 w5
  rcases alt with ⟨stop,qn⟩|⟨go,step⟩
  ·refine wpAny_mono (T.done (compCx X scope Nc Nx s3.heap.objs.size fp pins s3 (upd H1 a (.lst []))) rfl rfl rfl hcalm i [] s5 σ5 H5 (fun _ _=>False) I5 (stat fr5) st5 stop) (fun r s6 ⟨hr,I6⟩=> ?_) fun _ _ z=>z
   subst hr
   exact hRR a H5 σ5 s6 s3 I3 hf3 I6 qn
  ·refine wpAny_mono (T.item (compCx X scope Nc Nx s3.heap.objs.size fp pins s3 (upd H1 a (.lst []))) rfl rfl rfl hcalm i [] s5 σ5 H5 (fun _ _=>False) I5 (stat fr5) st5 go) (fun r s6 ⟨u,hr,h6⟩=> ?_) fun _ _ z=>z
   subst hr
   refine wpAny_mono h6 (fun _ s7 ⟨x,H7,I7,r7,y7,st7,fr7⟩=> ?_) fun _ _ z=>z
   have I7':=I7.pinned (stat fr7) (T.obj _ _ st7)
   have fin:∀ {σ9:L2.St} {H9:Hp} {s9:Shared},Inv (compCx X scope Nc Nx s3.heap.objs.size fp pins s3 (upd H1 a (.lst []))) ([]++pinsAt fp s7.heap) σ9 H9 s9→Inv (compCx X scope Nc Nx s3.heap.objs.size fp pins s3 (upd H1 a (.lst []))) [] σ9 H9 s9∧tn (i+1) s9.heap∧(∀ b∈fp,H9 b=none):=fun {σ9 H9 s9} I9=>by
    refine ⟨I9.unpinned,T.keep _ _ _ st7 fun b hb o e=>(I9.pin (b,o) (List.mem_append_right _ (List.mem_append_right _ (mem_pinsAt hb e)))).1,fun b hb=> ?_⟩
    obtain ⟨o,e,d⟩:=T.obj _ _ st7 b hb
    exact (I9.pin (b,o) (List.mem_append_right _ (List.mem_append_right _ (mem_pinsAt hb e)))).2.1
   refine wpAny_mono (hg _ s7 σ5 H7 x u _ I7' r7 (step x H7 y7)) (fun _ s8 ⟨σ8,H8,I8,q8⟩=> ?_) fun _ _ z=>z
   refine wpAny_mono (htt _ s8 σ8 H8 _ I8 q8) (fun b s9 ⟨H9,I9,q9⟩=> ?_) fun _ _ z=>z
   cases b with
   |false=>
    obtain ⟨m',hm,w9⟩:=q9
    obtain ⟨J1,J2,J3⟩:=fin I9
    exact ⟨m',hm,i+1,xs,σ8,H9,J1,J2,J3,w9⟩
   |true=>
    refine wpAny_mono (hte _ s9 σ8 H9 _ I9 q9) (fun y s10 ⟨v,H10,I10,r10,q10⟩=> ?_) fun _ _ z=>z
    obtain ⟨e10,hl10,m',hm,w10⟩:=q10
    refine wpAny_mono (mt_append (X:=compCx X scope Nc Nx s3.heap.objs.size fp pins s3 (upd H1 a (.lst []))) _ s10 σ8 H10 (.ref a) [v] (.ref a) [y] (fun _ H'=>H'=upd H10 a (.lst (xs++ [v]))) I10 rfl (.cons r10 .nil) ⟨a,xs,v,rfl,rfl,e10,hl10,rfl⟩) (fun _ s11 ⟨_,H11,I11,_,q11⟩=> ?_) fun _ _ z=>z
    subst q11
    obtain ⟨J1,J2,J3⟩:=fin I11
    exact ⟨m',hm,i+1,xs++ [v],σ8,_,J1,J2,J3,w10⟩
 have st4:tn 0 h₁:=T.keep _ _ _ st fun b _ o e=>hk4 b o (up b o e)
 rw [e3h] at loop
 subst ea
 exact codeAny_compStart_list loop (T.self _ 0 _ _ _ st4 loop)
theorem pe_comp (c:CompOk X scope Nc Nx) (hcalm:X.calm=true) (hi:PI X tg iter wi)
  (hY:∀ (C:Addr) (fp:List Addr) (pins:List (Addr×Obj)) (s:Shared) (H:Hp),PG (compCx X scope Nc Nx C fp pins s H) tg g∧PTs (compCx X scope Nc Nx C fp pins s H) ifs tt∧PE (compCx X scope Nc Nx C fp pins s H) elt te)
  (hs:∀ x,foldedSetIterable iter X.env x=pure x:=by intro _;rfl):
  PE X (.ListComp elt [⟨tg,iter,ifs,0⟩] scope pos) (tComp Nc.length wi g tt te):=by
 intro pins s σ H Q I h
 rw [eval_ListComp]
 refine wpAny_comprehension_free (use:=none) rfl hs (clOf_eq (c.cells I.ok)) c.kind c.loc (thn (hi pins s σ H _ I h) fun v s1 h1=>thn h1 fun itv s2 h2=> ?_)
 obtain ⟨it,fp,tn,J,H2,rfl,I2,T,st2,f2,q⟩:=h2
 refine comp_block (Q:=Q) (RR:=fun acc C=>compPost (model X.prog X.w) X.A X.xe none (EP X pins σ Q) acc C) c hcalm hY I2 T st2 f2 q ?_
 intro a H' σ' s' s3 I3 hf3 IY qa
 obtain ⟨m,hn,_⟩:=IY.loc
 exact ⟨m,hn,fun h' hs'=>⟨.ref a,H',inv_back I3 hf3 IY hs',rfl,qa⟩⟩
end
end L3
namespace L3
open PySem PySem.Spec PyProof.Rows L2 SeqAt
mutual
def eqD:D→D→Bool
 | .non, .non=>true
 | .bl a, .bl b=>a==b
 | .int a, .int b=>a==b
 | .str a, .str b=>a==b
 | .bl a, .int b=>(if a then 1 else 0)==b
 | .int a, .bl b=>a==(if b then 1 else 0)
 | .tup a, .tup b=>eqL a b
 | .lst a, .lst b=>eqL a b
 |_,_=>false
def eqL:List D→List D→Bool
 | [],[]=>true
 |a::as,b::bs=>eqD a b&&eqL as bs
 |_,_=>false
end
def shal:Nat→D→Bool
 |_, .non=>true
 |_, .bl _=>true
 |_, .int _=>true
 |_, .str _=>true
 |n+1, .tup ds=>ds.all (shal n)
 |n+1, .lst ds=>ds.all (shal n)
 |_,_=>false
theorem eqL_range:∀ (as bs:List D),as.length=bs.length→eqL as bs=(List.range as.length).all fun j=>eqD (as.getD j .non) (bs.getD j .non)
 | [],[],_=>by simp [eqL]
 |a::as,b::bs,h=>by
  rw [eqL,List.length_cons,List.range_succ_eq_map,List.all_cons,List.all_map,eqL_range as bs (by simpa using h)]
  rfl
 | [],_::_,h=>by simp at h
 |_::_,[],h=>by simp at h
theorem eqL_len:∀ (as bs:List D),as.length≠bs.length→eqL as bs=false
 | [],[],h=>absurd rfl h
 |a::as,b::bs,h=>by rw [eqL,eqL_len as bs (by simpa using h),Bool.and_false]
 | [],_::_,h=>by simp [eqL]
 |_::_,[],h=>by simp [eqL]
section
variable {X:Cx} {pins:List (Addr×Obj)} {σ:L2.St} {W:WS} {H:Hp} {s:Shared}
theorem Has.notup {W:WS} {H:Hp} {K:PySem.W.Frag} (I:Inv X pins σ H s) {a:Addr} {xs ys:List V} (h1:SqL X.K H a xs) (h2:SqT X.K H a ys):False:=by
 obtain ⟨its,_,⟨o,n,e,c,_⟩,_⟩:=I.list h1
 obtain ⟨its',_,⟨o',e',c',_⟩,_⟩:=I.tuple h2
 rw [e] at e';cases e'
 rw [c] at c'
 exact absurd c' (by simp)
theorem HasT.ref {K:PySem.W.Frag} {d:D} {x:V} {n:Nat} (h:HasT K W H d x) (hs:shal n d=true):
  (d= .non∧x= .non)∨(∃ b,d= .bl b∧x= .bl b)∨(∃ b,d= .int b∧x= .int b)∨(∃ b,d= .str b∧x= .str b)∨
  (∃ ds a xs m,n=m+1∧d= .tup ds∧x= .ref a∧SqT K H a xs∧HasL K W H ds xs∧∀ y∈ds,shal m y=true)∨
  (∃ ds a xs m,n=m+1∧d= .lst ds∧x= .ref a∧SqL K H a xs∧HasL K W H ds xs∧∀ y∈ds,shal m y=true):=by
 cases d with
 |non=>exact .inl ⟨rfl,h.non⟩
 |bl b=>exact .inr (.inl ⟨b,rfl,h.bl⟩)
 |int b=>exact .inr (.inr (.inl ⟨b,rfl,h.int⟩))
 |str b=>exact .inr (.inr (.inr (.inl ⟨b,rfl,h.str⟩)))
 |tup ds=>
  obtain ⟨a,xs,e,q,r⟩:=h.tup
  cases n with
  |zero=>simp [shal] at hs
  |succ m=>
   rw [shal,List.all_eq_true] at hs
   exact .inr (.inr (.inr (.inr (.inl ⟨ds,a,xs,m,rfl,rfl,e,q,r,hs⟩))))
 |lst ds=>
  obtain ⟨a,xs,e,q,r⟩:=h.lst
  cases n with
  |zero=>simp [shal] at hs
  |succ m=>
   rw [shal,List.all_eq_true] at hs
   exact .inr (.inr (.inr (.inr (.inr ⟨ds,a,xs,m,rfl,rfl,e,q,r,hs⟩))))
 |dct k ds=>cases n<;>simp [shal] at hs
 |exc k ds=>cases n<;>simp [shal] at hs
 |obj c k ds=>cases n<;>simp [shal] at hs
theorem eqD_same (I:Inv X pins σ H s):∀ (n:Nat) {d e:D} {x:V},HasT X.K W H d x→HasT X.K W H e x→shal n d=true→shal n e=true→eqD d e=true:=by
 intro n
 induction n with
 |zero=>
  intro d e x h1 h2 s1 s2
  rcases h1.ref s1 with ⟨rfl,rfl⟩|⟨b,rfl,rfl⟩|⟨b,rfl,rfl⟩|⟨b,rfl,rfl⟩|⟨_,_,_,m,z,_⟩|⟨_,_,_,m,z,_⟩<;>
  rcases h2.ref s2 with ⟨rfl,e2⟩|⟨c,rfl,e2⟩|⟨c,rfl,e2⟩|⟨c,rfl,e2⟩|⟨_,_,_,m',z',_⟩|⟨_,_,_,m',z',_⟩<;>first|(cases z;done)|(cases z';done)|(cases e2;done)|(cases e2;simp [eqD])
 |succ n ih=>
  have lists:∀ {ds es:List D} {xs:List V},HasL X.K W H ds xs→HasL X.K W H es xs→(∀ y∈ds,shal n y=true)→(∀ y∈es,shal n y=true)→eqL ds es=true:=by
   intro ds
   induction ds with
   |nil=>
    intro es xs h1 h2 _ _
    have e1:=h1.length
    have e2:=h2.length
    cases es with
    |nil=>simp [eqL]
    |cons=>simp at e1 e2;omega
   |cons d ds ih2=>
    intro es xs h1 h2 g1 g2
    rw [HasL] at h1
    obtain ⟨x,r,rfl,q,t⟩:=h1
    cases es with
    |nil=>rw [HasL] at h2;cases h2
    |cons e es=>
     rw [HasL] at h2
     obtain ⟨x',r',ee,q',t'⟩:=h2
     cases ee
     rw [eqL,ih (.inl q) (.inl q') (g1 d List.mem_cons_self) (g2 e List.mem_cons_self),ih2 t t' (fun y hy=>g1 y (List.mem_cons_of_mem _ hy)) fun y hy=>g2 y (List.mem_cons_of_mem _ hy)]
     rfl
  intro d e x h1 h2 s1 s2
  rcases h1.ref s1 with ⟨rfl,rfl⟩|⟨b,rfl,rfl⟩|⟨b,rfl,rfl⟩|⟨b,rfl,rfl⟩|⟨ds,a,xs,m,z,rfl,rfl,q,r,g⟩|⟨ds,a,xs,m,z,rfl,rfl,q,r,g⟩<;>
  rcases h2.ref s2 with ⟨rfl,e2⟩|⟨c,rfl,e2⟩|⟨c,rfl,e2⟩|⟨c,rfl,e2⟩|⟨es,a',ys,m',z',rfl,e2,q',r',g'⟩|⟨es,a',ys,m',z',rfl,e2,q',r',g'⟩<;>first|(cases e2;done)|(cases e2;simp [eqD];done)|skip
  ·cases e2
   cases z;cases z'
   have:=I.tuple_inj q q'
   subst this
   rw [eqD];exact lists r r' g g'
  ·cases e2
   exact (Has.notup (K:=X.K) (W:=W) (H:=H) I q' q).elim
  ·cases e2
   exact (Has.notup (K:=X.K) (W:=W) (H:=H) I q q').elim
  ·cases e2
   cases z;cases z'
   have:=I.list_inj q q'
   subst this
   rw [eqD];exact lists r r' g g'
theorem getD_of {ds:List D} {j:Nat} (h:j<ds.length):ds[j]? =some (ds.getD j .non):=by
 rw [List.getD_eq_getElem?_getD,List.getElem?_eq_getElem h];rfl
theorem vals_at {xs:List V} {its:List Value} (r:Vals xs its) {j:Nat} {x:V} (e:xs[j]? =some x) (h:j<its.toArray.size):RelV x its.toArray[j]:=by
 obtain ⟨u,h1,h2⟩:=r.get e
 have:its.toArray[j]? =some u:=by simpa using h1
 rw [Array.getElem?_eq_getElem h] at this
 cases this
 exact h2
theorem items_eqAt {A:Around} (n:Nat) (ih:∀ {d e:D} {x y:V} {v u:Value},HasT X.K W H d x→HasT X.K W H e y→RelV x v→RelV y u→shal n d=true→shal n e=true→EqAt A s v u (eqD d e))
  {ds es:List D} {xs ys:List V} {its its':List Value} (r:HasL X.K W H ds xs) (r':HasL X.K W H es ys) (v:Vals xs its) (v':Vals ys its') (g:∀ y∈ds,shal n y=true) (g':∀ y∈es,shal n y=true):
  ∀ j (h1:j<its.toArray.size) (h2:j<its'.toArray.size),EqAt A s its.toArray[j] its'.toArray[j] (eqD (ds.getD j .non) (es.getD j .non)):=by
 intro j h1 h2
 have l1:j<ds.length:=by rw [r.length,v.length];simpa using h1
 have l2:j<es.length:=by rw [r'.length,v'.length];simpa using h2
 obtain ⟨x,e1,q1⟩:=r.get (getD_of l1)
 obtain ⟨y,e2,q2⟩:=r'.get (getD_of l2)
 exact ih (.inl q1) (.inl q2) (vals_at v e1 h1) (vals_at v' e2 h2) (g _ (List.mem_of_getElem? (getD_of l1))) (g' _ (List.mem_of_getElem? (getD_of l2)))
theorem HasT.view (I:Inv X pins σ H s) {d:D} {x:V} {v:Value} {n:Nat} (h:HasT X.K W H d x) (rx:RelV x v) (hs:shal n d=true):
  (d= .non∧v= .none)∨(∃ b,d= .bl b∧v= .bool b)∨(∃ b t,d= .int b∧v= .int b t)∨(∃ b t,d= .str b∧v= .str b t)∨
  (∃ ds a xs its m,n=m+1∧d= .tup ds∧x= .ref a∧v= .ref a∧HasL X.K W H ds xs∧Vals xs its∧s.heap.IsTuple a its.toArray∧∀ y∈ds,shal m y=true)∨
  (∃ ds a xs its m,n=m+1∧d= .lst ds∧x= .ref a∧v= .ref a∧HasL X.K W H ds xs∧Vals xs its∧s.heap.IsList a its.toArray∧∀ y∈ds,shal m y=true):=by
 rcases h.ref hs with ⟨rfl,rfl⟩|⟨b,rfl,rfl⟩|⟨b,rfl,rfl⟩|⟨b,rfl,rfl⟩|⟨ds,a,xs,m,z,rfl,rfl,q,r,g⟩|⟨ds,a,xs,m,z,rfl,rfl,q,r,g⟩
 ·exact .inl ⟨rfl,rx⟩
 ·exact .inr (.inl ⟨b,rfl,rx⟩)
 ·obtain ⟨t,e⟩:=rx
  exact .inr (.inr (.inl ⟨b,t,rfl,e⟩))
 ·obtain ⟨t,e⟩:=rx
  exact .inr (.inr (.inr (.inl ⟨b,t,rfl,e⟩)))
 ·obtain ⟨its,rv,p,_⟩:=I.tuple q
  exact .inr (.inr (.inr (.inr (.inl ⟨ds,a,xs,its,m,z,rfl,rfl,rx,r,rv,p,g⟩))))
 ·obtain ⟨its,rv,p,_⟩:=I.list q
  exact .inr (.inr (.inr (.inr (.inr ⟨ds,a,xs,its,m,z,rfl,rfl,rx,r,rv,p.isList,g⟩))))
theorem eqAt_D (I:Inv X pins σ H s):∀ (n:Nat) (A:Around) {d e:D} {x y:V} {v u:Value},A.units+n<cLine→HasT X.K W H d x→HasT X.K W H e y→RelV x v→RelV y u→shal n d=true→shal n e=true→
  EqAt A s v u (eqD d e)∧RcAt A s v u (eqD d e)∧RcNeAt A s v u (!eqD d e):=by
 intro n
 induction n with
 |zero=>
  intro A d e x y v u hu h1 h2 rx ry s1 s2
  rcases h1.view I rx s1 with ⟨rfl,rfl⟩|⟨b,rfl,rfl⟩|⟨b,t,rfl,rfl⟩|⟨b,t,rfl,rfl⟩|⟨_,_,_,_,m,z,_⟩|⟨_,_,_,_,m,z,_⟩<;>
  rcases h2.view I ry s2 with ⟨rfl,rfl⟩|⟨c,rfl,rfl⟩|⟨c,t',rfl,rfl⟩|⟨c,t',rfl,rfl⟩|⟨_,_,_,_,m',z',_⟩|⟨_,_,_,_,m',z',_⟩<;>first|(cases z;done)|(cases z';done)|skip
  ·exact ⟨EqAt.same _,RcAt.none_none,RcNeAt.none_none⟩
  ·exact ⟨EqAt.none_bool _,RcAt.none_bool _,RcNeAt.none_bool _⟩
  ·exact ⟨EqAt.none_int _ _,RcAt.none_int _ _,RcNeAt.none_int _ _⟩
  ·exact ⟨EqAt.none_str _ _,RcAt.none_str _ _,RcNeAt.none_str _ _⟩
  ·exact ⟨EqAt.bool_none _,RcAt.bool_none _,RcNeAt.bool_none _⟩
  ·exact ⟨EqAt.bool_bool _ _,RcAt.bool_bool _ _,RcNeAt.bool_bool _ _⟩
  ·exact ⟨EqAt.bool_int _ _ _,RcAt.bool_int _ _ _,RcNeAt.bool_int _ _ _⟩
  ·exact ⟨EqAt.bool_str _ _ _,RcAt.bool_str _ _ _,RcNeAt.bool_str _ _ _⟩
  ·exact ⟨EqAt.int_none _ _,RcAt.int_none _ _,RcNeAt.int_none _ _⟩
  ·exact ⟨EqAt.int_bool _ _ _,RcAt.int_bool _ _ _,RcNeAt.int_bool _ _ _⟩
  ·exact ⟨EqAt.int_int _ _ _ _,RcAt.int_int _ _ _ _,RcNeAt.int_int _ _ _ _⟩
  ·exact ⟨EqAt.int_str _ _ _ _,RcAt.int_str _ _ _ _,RcNeAt.int_str _ _ _ _⟩
  ·exact ⟨EqAt.str_none _ _,RcAt.str_none _ _,RcNeAt.str_none _ _⟩
  ·exact ⟨EqAt.str_bool _ _ _,RcAt.str_bool _ _ _,RcNeAt.str_bool _ _ _⟩
  ·exact ⟨EqAt.str_int _ _ _ _,RcAt.str_int _ _ _ _,RcNeAt.str_int _ _ _ _⟩
  ·exact ⟨EqAt.str_str _ _ _ _,RcAt.str_str _ _ _ _,RcNeAt.str_str _ _ _ _⟩
 |succ n ih=>
  intro A d e x y v u hu h1 h2 rx ry s1 s2
  have hu0:A.units<cLine:=by omega
  have hu1:A.in1.units+n<cLine:=by show A.units+1+n<cLine;omega
  have same:=fun (ee:x=y)=>eqD_same I (n+1) h1 (ee▸h2) s1 s2
  rcases h1.view I rx s1 with ⟨rfl,rfl⟩|⟨b,rfl,rfl⟩|⟨b,t,rfl,rfl⟩|⟨b,t,rfl,rfl⟩|⟨ds,a,xs,its,m,z,rfl,rfl,rfl,r,rv,p,g⟩|⟨ds,a,xs,its,m,z,rfl,rfl,rfl,r,rv,p,g⟩<;>
  rcases h2.view I ry s2 with ⟨rfl,rfl⟩|⟨c,rfl,rfl⟩|⟨c,t',rfl,rfl⟩|⟨c,t',rfl,rfl⟩|⟨es,a',ys,its',m',z',rfl,rfl,rfl,r',rv',p2,g'⟩|⟨es,a',ys,its',m',z',rfl,rfl,rfl,r',rv',p2,g'⟩
  all_goals first|cases z|skip
  all_goals first|cases z'|skip
  ·exact ⟨EqAt.same _,RcAt.none_none,RcNeAt.none_none⟩
  ·exact ⟨EqAt.none_bool _,RcAt.none_bool _,RcNeAt.none_bool _⟩
  ·exact ⟨EqAt.none_int _ _,RcAt.none_int _ _,RcNeAt.none_int _ _⟩
  ·exact ⟨EqAt.none_str _ _,RcAt.none_str _ _,RcNeAt.none_str _ _⟩
  ·exact ⟨EqAt.none_tuple p2 hu0,RcAt.none_tuple p2 hu0,RcNeAt.none_tuple p2 hu0⟩
  ·exact ⟨EqAt.none_list p2 hu0,RcAt.none_list p2 hu0,RcNeAt.none_list p2 hu0⟩
  ·exact ⟨EqAt.bool_none _,RcAt.bool_none _,RcNeAt.bool_none _⟩
  ·exact ⟨EqAt.bool_bool _ _,RcAt.bool_bool _ _,RcNeAt.bool_bool _ _⟩
  ·exact ⟨EqAt.bool_int _ _ _,RcAt.bool_int _ _ _,RcNeAt.bool_int _ _ _⟩
  ·exact ⟨EqAt.bool_str _ _ _,RcAt.bool_str _ _ _,RcNeAt.bool_str _ _ _⟩
  ·exact ⟨EqAt.bool_tuple _ p2 hu0,RcAt.bool_tuple _ p2 hu0,RcNeAt.bool_tuple _ p2 hu0⟩
  ·exact ⟨EqAt.bool_list _ p2 hu0,RcAt.bool_list _ p2 hu0,RcNeAt.bool_list _ p2 hu0⟩
  ·exact ⟨EqAt.int_none _ _,RcAt.int_none _ _,RcNeAt.int_none _ _⟩
  ·exact ⟨EqAt.int_bool _ _ _,RcAt.int_bool _ _ _,RcNeAt.int_bool _ _ _⟩
  ·exact ⟨EqAt.int_int _ _ _ _,RcAt.int_int _ _ _ _,RcNeAt.int_int _ _ _ _⟩
  ·exact ⟨EqAt.int_str _ _ _ _,RcAt.int_str _ _ _ _,RcNeAt.int_str _ _ _ _⟩
  ·exact ⟨EqAt.int_tuple _ _ p2 hu0,RcAt.int_tuple _ _ p2 hu0,RcNeAt.int_tuple _ _ p2 hu0⟩
  ·exact ⟨EqAt.int_list _ _ p2 hu0,RcAt.int_list _ _ p2 hu0,RcNeAt.int_list _ _ p2 hu0⟩
  ·exact ⟨EqAt.str_none _ _,RcAt.str_none _ _,RcNeAt.str_none _ _⟩
  ·exact ⟨EqAt.str_bool _ _ _,RcAt.str_bool _ _ _,RcNeAt.str_bool _ _ _⟩
  ·exact ⟨EqAt.str_int _ _ _ _,RcAt.str_int _ _ _ _,RcNeAt.str_int _ _ _ _⟩
  ·exact ⟨EqAt.str_str _ _ _ _,RcAt.str_str _ _ _ _,RcNeAt.str_str _ _ _ _⟩
  ·exact ⟨EqAt.str_tuple _ _ p2 hu0,RcAt.str_tuple _ _ p2 hu0,RcNeAt.str_tuple _ _ p2 hu0⟩
  ·exact ⟨EqAt.str_list _ _ p2 hu0,RcAt.str_list _ _ p2 hu0,RcNeAt.str_list _ _ p2 hu0⟩
  ·exact ⟨EqAt.tuple_none p hu0,RcAt.tuple_none p hu0,RcNeAt.tuple_none p hu0⟩
  ·exact ⟨EqAt.tuple_bool _ p hu0,RcAt.tuple_bool _ p hu0,RcNeAt.tuple_bool _ p hu0⟩
  ·exact ⟨EqAt.tuple_int _ _ p hu0,RcAt.tuple_int _ _ p hu0,RcNeAt.tuple_int _ _ p hu0⟩
  ·exact ⟨EqAt.tuple_str _ _ p hu0,RcAt.tuple_str _ _ p hu0,RcNeAt.tuple_str _ _ p hu0⟩
  ·have he:=items_eqAt (A:=A.in1) n (fun h1 h2 rx ry s1 s2=>(ih A.in1 hu1 h1 h2 rx ry s1 s2).1) r r' rv rv' g g'
   have l1:its.toArray.size=ds.length:=by rw [List.size_toArray,←rv.length,r.length]
   have l2:its'.toArray.size=es.length:=by rw [List.size_toArray,←rv'.length,r'.length]
   have ee:((List.range (min its.toArray.size its'.toArray.size)).all (fun j=>eqD (ds.getD j .non) (es.getD j .non))&&its.toArray.size==its'.toArray.size)=eqD (.tup ds) (.tup es):=by
    rw [eqD,l1,l2]
    by_cases hl:ds.length=es.length
    ·rw [eqL_range ds es hl,←hl];simp
    ·rw [eqL_len ds es hl];simp [hl]
   have rc:=RcAt.tuples p p2 hu0 he
   rw [ee] at rc
   refine ⟨?_,rc,?_⟩
   ·by_cases ha:a=a'
    ·subst ha
     rw [same rfl]
     exact EqAt.same _
    ·exact EqAt.of_refs ha rc
   ·have rn:=RcNeAt.tuples p p2 hu0 he
    rw [ee] at rn
    exact rn
  ·exact ⟨EqAt.tuple_list p p2 hu0,RcAt.tuple_list p p2 hu0,RcNeAt.tuple_list p p2 hu0⟩
  ·exact ⟨EqAt.list_none p hu0,RcAt.list_none p hu0,RcNeAt.list_none p hu0⟩
  ·exact ⟨EqAt.list_bool _ p hu0,RcAt.list_bool _ p hu0,RcNeAt.list_bool _ p hu0⟩
  ·exact ⟨EqAt.list_int _ _ p hu0,RcAt.list_int _ _ p hu0,RcNeAt.list_int _ _ p hu0⟩
  ·exact ⟨EqAt.list_str _ _ p hu0,RcAt.list_str _ _ p hu0,RcNeAt.list_str _ _ p hu0⟩
  ·exact ⟨EqAt.list_tuple p p2 hu0,RcAt.list_tuple p p2 hu0,RcNeAt.list_tuple p p2 hu0⟩
  ·have he:=items_eqAt (A:=A.in1) n (fun h1 h2 rx ry s1 s2=>(ih A.in1 hu1 h1 h2 rx ry s1 s2).1) r r' rv rv' g g'
   have l1:its.toArray.size=ds.length:=by rw [List.size_toArray,←rv.length,r.length]
   have l2:its'.toArray.size=es.length:=by rw [List.size_toArray,←rv'.length,r'.length]
   have both:RcAt A s (.ref a) (.ref a') (eqD (.lst ds) (.lst es))∧RcNeAt A s (.ref a) (.ref a') (!eqD (.lst ds) (.lst es)):=by
    by_cases hl:ds.length=es.length
    ·have hsz:its.toArray.size=its'.toArray.size:=by rw [l1,l2,hl]
     have rc:=RcAt.lists p p2 hsz hu0 he
     have rn:=RcNeAt.lists p p2 hsz hu0 he
     rw [l1,←eqL_range ds es hl] at rc rn
     rw [eqD]
     exact ⟨rc,rn⟩
    ·have hsz:(its.toArray.size != its'.toArray.size)=true:=by rw [l1,l2];simpa using hl
     rw [eqD,eqL_len ds es hl]
     exact ⟨RcAt.lists_lengths p p2 hsz hu0,RcNeAt.lists_lengths p p2 hsz hu0⟩
   refine ⟨?_,both⟩
   by_cases ha:a=a'
   ·subst ha
    rw [same rfl]
    exact EqAt.same _
   ·exact EqAt.of_refs ha both.1
end
end L3
namespace L3
open PySem PySem.Spec PyProof.Rows L2 SeqAt
section
variable {K:PySem.W.Frag} {xw:XW} {W:WS} {H:Hp} {Q:VK}
theorem RE.int {i:Int} (h:RE K xw W H (.ok (.int i)) Q):Q (.int i) H:=h _ H (Same.refl H) (by rw [Has])
theorem RE.bl {i:Bool} (h:RE K xw W H (.ok (.bl i)) Q):Q (.bl i) H:=h _ H (Same.refl H) (by rw [Has])
theorem RE.str {i:Str} (h:RE K xw W H (.ok (.str i)) Q):Q (.str i) H:=h _ H (Same.refl H) (by rw [Has])
theorem RE.non (h:RE K xw W H (.ok .non) Q):Q .non H:=h _ H (Same.refl H) (by rw [Has])
theorem same_upd {a:Addr} {o:HO} (h:H a=none):Same H (upd H a o):=fun b u e=>by rw [upd_ne (ne_of_none e h)];exact e
theorem RE.newT {ds:List D} {xs:List V} {p:Addr} (h:RE K xw W H (.ok (.tup ds)) Q) (w:WL W H) (hp:H p=none) (q:HasL K W H ds xs):Q (.ref p) (upd H p (.tup xs)):=
 h _ _ (same_upd hp) (by rw [Has];exact ⟨p,xs,rfl, .of upd_same,q.same (same_upd hp) w⟩)
theorem not_new {a:Addr} (w:WL W H) (h:H a=none):¬ W a:=fun z=>by
 obtain ⟨xs,e,_⟩:=w a z
 rw [h] at e;cases e
end
section
variable {X:Cx} {xw:XW} {a b c e:Expr} {fa fb fc f:DSt→Res D} {pos:Pos}
theorem DE.p (h:DE X xw e f):DP X xw e f:=PE.weak h fun σ H Q ⟨W₀,H₀,W,δ,st,q⟩=>⟨W₀,H₀,W,δ,st,by
 cases hf:f δ with
 |ok d=>rw [hf] at q;exact fun v H' k h=>q v H' k (.inl h)
 |ex c fs=>rw [hf] at q;exact q
 |stuck=>rw [hf] at q;exact q⟩
theorem DF.de {f:DSt→Res (List D)} (h:DF X xw e f):DE X xw e (fun δ=>(f δ).bind fun ds=> .ok (.lst ds)):=PE.weak h fun σ H Q ⟨W₀,H₀,W,δ,st,q⟩=>⟨W₀,H₀,W,δ,st,by
 dsimp only at q
 cases hf:f δ with
 |ok d=>
  rw [hf] at q
  refine fun a xs H1 k n r=>q _ _ (k.trans (same_upd n)) ?_
  have w1:=st.fr.wl.same k
  rw [Has]
  exact ⟨a,xs,rfl, .inl ⟨upd_same,not_new w1 n⟩,r.same (same_upd n) w1⟩
 |ex c fs=>rw [hf] at q;exact q
 |stuck=>rw [hf] at q;exact q⟩
def slotD (i:Nat) (δ:DSt):Res D:=match δ[i]? with
 |some (some (.d x))=> .ok x
 |_=> .stuck
def slotP (i:Nat) (δ:DSt):Res D:=match δ[i]? with
 |some (some (.d x))=> .ok x
 |some (some (.o ds))=> .ok (.lst ds)
 |_=> .stuck
theorem de_var (i:Nat) {x:Str} (hN:X.N[i]? =some x:=by rfl) (hv:Vis X.env.scope x:=by first|exact Or.inl rfl|exact Or.inr (Or.inl rfl)|exact Or.inr (Or.inr rfl)) (hd:(x==("__debug__":Str))=false:=by decide)
  (hcd:(x==("__classdict__":Str))=false:=by decide):DE X xw (.Name x pos) (slotD i):=PE.weak (pe_var hN hv hd hcd) fun σ H Q ⟨W₀,H₀,W,δ,st,q⟩=>by
 unfold slotD at q
 split at q
 ·rename_i d h
  obtain ⟨v,e,r⟩:=st.at' i _ h
  exact ⟨v,e,q v H (Same.refl H) r⟩
 ·exact q.elim
theorem dp_var (i:Nat) {x:Str} (hN:X.N[i]? =some x:=by rfl) (hv:Vis X.env.scope x:=by first|exact Or.inl rfl|exact Or.inr (Or.inl rfl)|exact Or.inr (Or.inr rfl)) (hd:(x==("__debug__":Str))=false:=by decide)
  (hcd:(x==("__classdict__":Str))=false:=by decide):DP X xw (.Name x pos) (slotP i):=PE.weak (pe_var hN hv hd hcd) fun σ H Q ⟨W₀,H₀,W,δ,st,q⟩=>by
 unfold slotP at q
 split at q
 ·rename_i d h
  obtain ⟨v,e,r⟩:=st.at' i _ h
  exact ⟨v,e,q v H (Same.refl H) (.inl r)⟩
 ·rename_i ds h
  obtain ⟨v,e,a,xs,r1,r2,r3,r4,r5⟩:=st.at' i _ h
  exact ⟨v,e,q v H (Same.refl H) (.inr ⟨ds,a,xs,rfl,r1,r4,r5⟩)⟩
 ·exact q.elim
theorem de_int {i:Int} {j}:DE X xw (.Constant (.int i) j pos) (fun _=> .ok (.int i)):=PE.weak pe_int fun σ H Q ⟨_,_,_,_,_,q⟩=>q.int
theorem de_bl {i:Bool} {j}:DE X xw (.Constant (.bool i) j pos) (fun _=> .ok (.bl i)):=PE.weak pe_bl fun σ H Q ⟨_,_,_,_,_,q⟩=>q.bl
theorem de_str {i:Str} {j}:DE X xw (.Constant (.str i) j pos) (fun _=> .ok (.str i)):=PE.weak pe_str fun σ H Q ⟨_,_,_,_,_,q⟩=>q.str
theorem de_non {j}:DE X xw (.Constant .none j pos) (fun _=> .ok .non):=PE.weak pe_non fun σ H Q ⟨_,_,_,_,_,q⟩=>q.non
theorem de_glob {x:Str} {v:V} {u:Value} {d:D} (hm:X.mg x=some u) (r:RelV v u) (hd:∀ W H,Has X.K W H d v) (hg:Gl X x:=by rfl) (hdb:(x==("__debug__":Str))=false:=by decide):DE X xw (.Name x pos) (fun _=> .ok d):=
 PE.weak (pe_glob hg hm r hdb) fun σ H Q ⟨_,_,W,_,_,q⟩=>q v H (Same.refl H) (hd W H)
def Op2 (X:Cx) (xw:XW) (r:R2) (op:D→D→Res D):Prop:=∀ (W:WS) (H:Hp) (d e:D) (v u:V) (Q:VK),WL W H→HasT X.K W H d v→HasT X.K W H e u→RE X.K xw W H (op d e) Q→r v u H Q
theorem two_read {σ:L2.St} {H:Hp} {W₀ W:WS} {H₀:Hp} {δ:DSt} {op:D→D→Res D} {Q:VK} {R:V→V→Hp→Prop} (st:StHas X.K W₀ H₀ W H σ δ)
  (q:RE X.K xw W H ((fa δ).bind fun x=>(fb δ).bind fun y=>op x y) Q)
  (h:∀ H2 d e v u,Same H H2→WL W H2→HasT X.K W H2 d v→HasT X.K W H2 e u→fa δ= .ok d→fb δ= .ok e→RE X.K xw W H2 (op d e) Q→R v u H2):
  tDP X.K xw fa σ H fun x H1=>tDP X.K xw fb σ H1 fun y H2=>R x y H2:=by
 refine ⟨W₀,H₀,W,δ,st,?_⟩
 cases h1:fa δ with
 |stuck=>rw [h1] at q;exact q
 |ex c fs=>rw [h1] at q;exact q
 |ok d=>
  rw [h1] at q
  intro v H1 k1 hv
  refine ⟨W₀,H₀,W,δ,st.same k1,?_⟩
  have q':RE X.K xw W H ((fb δ).bind fun y=>op d y) Q:=q
  cases h2:fb δ with
  |stuck=>rw [h2] at q';exact q'
  |ex c fs=>rw [h2] at q';exact fun H2 k2=>q' H2 (k1.trans k2)
  |ok e=>
   rw [h2] at q'
   intro u H2 k2 hu
   have q2:RE X.K xw W H (op d e) Q:=q'
   exact h H2 d e v u (k1.trans k2) (st.fr.wl.same (k1.trans k2)) (hv.same k2 (st.fr.wl.same k1)) hu h1 h2 (q2.same (k1.trans k2))
theorem de_op2 {o:Operator} {r:R2} {op:D→D→Res D} (ho:OpR X (binaryOp o) r) (hr:Op2 X xw r op) (ha:DP X xw a fa) (hb:DP X xw b fb):
  DE X xw (.BinOp a o b pos) (fun δ=>(fa δ).bind fun x=>(fb δ).bind fun y=>op x y):=
 PE.weak (pe_op ho ha hb) fun σ H Q ⟨W₀,H₀,W,δ,st,q⟩=>two_read st q fun H2 d e v u k w hv hu _ _ q2=>hr W H2 d e v u Q w hv hu q2
theorem op_catT0:OpR X (binaryOp .Add) (fun x y H Q=>∃ a b ys,x= .ref a∧y= .ref b∧SqT X.K H a []∧SqT X.K H b ys∧Q (.ref b) H):=by
 intro pins s σ H x y v u Q I rx ry h
 obtain ⟨a,b,ys,rfl,rfl,ha,hb,q⟩:=h
 cases rx
 cases ry
 obtain ⟨its,r1,p1,_⟩:=I.tuple ha
 obtain ⟨its2,r2,p2,_⟩:=I.tuple hb
 have e0:its= []:=r1.nil_iff.mpr rfl
 subst e0
 obtain ⟨⟨cls,dd,data,sl⟩,ho,hc,n,hd⟩:=id p1
 obtain ⟨⟨cls2,dd2,data2,sl2⟩,ho2,hc2,n2,hd2⟩:=id p2
 simp only at hc hd hc2 hd2
 subst hc hd hc2 hd2
 exact concat_meets ⟨_,ho,rfl⟩ ⟨_,ho2,rfl⟩ noFill_tuple_add seq_tuple_add PySem.F.slot_tuple_add PySem.F.entry_tuple_add (PySem.F.args_tuple_add_2 _ _)
   (tuple_addW0 a b _ its2.toArray n n2 dd dd2 sl sl2 (by simp)) ⟨ho,ho2,⟨.ref b,H,I,rfl,q⟩⟩
noncomputable def addD:D→D→Res D
 | .int i, .int j=> .ok (.int (i+j))
 | .str x, .str y=>@ite (Res D) (x.length+y.length≤sizeLine) (Classical.propDecidable _) (.ok (.str (x++y))) .stuck
 | .tup xs, .tup ys=>@ite (Res D) (xs.length+ys.length≤sizeLine) (Classical.propDecidable _) (.ok (.tup (xs++ys))) .stuck
 |_,_=> .stuck
theorem de_add (ha:DP X xw a fa) (hb:DP X xw b fb):DE X xw (.BinOp a .Add b pos) (fun δ=>(fa δ).bind fun x=>(fb δ).bind fun y=>addD x y):=by
 refine de_op2 ((op_add.or op_add_str).or (op_catT0.or op_catT)) (fun W H d e v u Q w hv hu q=> ?_) ha hb
 unfold addD at q
 split at q
 ·exact .inl (.inl ⟨_,_,hv.int,hu.int,q.int⟩)
 ·split at q
  ·rename_i hz
   exact .inl (.inr ⟨_,_,hv.str,hu.str,hz,q.str⟩)
  ·exact q.elim
 ·rename_i ds es
  split at q
  ·rename_i hz
   obtain ⟨a1,xs,e1,s1,r1⟩:=hv.tup
   obtain ⟨a2,ys,e2,s2,r2⟩:=hu.tup
   by_cases hx:xs= []
   ·subst hx
    have hd:ds= []:=by
     have:=r1.length
     exact List.eq_nil_of_length_eq_zero (by simpa using this)
    subst hd
    refine .inr (.inl ⟨a1,a2,ys,e1,e2,s1,s2,q _ H (Same.refl H) ?_⟩)
    rw [Has];exact ⟨a2,ys,rfl,s2,r2⟩
   ·refine .inr (.inr ⟨a1,a2,xs,ys,e1,e2,s1,s2,hx,by rw [←r1.length,←r2.length];exact hz,fun hy=> ?_,fun _ p hp=>q.newT w hp (r1.append r2)⟩)
    subst hy
    have he:es= []:=by
     have:=r2.length
     exact List.eq_nil_of_length_eq_zero (by simpa using this)
    subst he
    refine q _ H (Same.refl H) ?_
    rw [Has,List.append_nil];exact ⟨a1,xs,rfl,s1,r1⟩
  ·exact q.elim
 ·exact q.elim
def subD:D→D→Res D
 | .int i, .int j=> .ok (.int (i-j))
 |_,_=> .stuck
theorem de_sub (ha:DP X xw a fa) (hb:DP X xw b fb):DE X xw (.BinOp a .Sub b pos) (fun δ=>(fa δ).bind fun x=>(fb δ).bind fun y=>subD x y):=by
 refine de_op2 op_sub (fun W H d e v u Q w hv hu q=> ?_) ha hb
 unfold subD at q
 split at q
 ·exact ⟨_,_,hv.int,hu.int,q.int⟩
 ·exact q.elim
noncomputable def modD:D→D→Res D
 | .int i, .int j=>@ite (Res D) (0<j) (Classical.propDecidable _) (.ok (.int (i%j))) .stuck
 |_,_=> .stuck
theorem de_mod (ha:DP X xw a fa) (hb:DP X xw b fb):DE X xw (.BinOp a .Mod b pos) (fun δ=>(fa δ).bind fun x=>(fb δ).bind fun y=>modD x y):=by
 refine de_op2 op_mod (fun W H d e v u Q w hv hu q=> ?_) ha hb
 unfold modD at q
 split at q
 ·split at q
  ·rename_i hj
   exact ⟨_,_,hv.int,hu.int,hj,q.int⟩
  ·exact q.elim
 ·exact q.elim
noncomputable def fdivD:D→D→Res D
 | .int i, .int j=>@ite (Res D) (0<j∧j<1073741824) (Classical.propDecidable _) (.ok (.int (i / j))) .stuck
 |_,_=> .stuck
theorem de_fdiv (ha:DP X xw a fa) (hb:DP X xw b fb):DE X xw (.BinOp a .FloorDiv b pos) (fun δ=>(fa δ).bind fun x=>(fb δ).bind fun y=>fdivD x y):=by
 refine de_op2 op_fdiv (fun W H d e v u Q w hv hu q=> ?_) ha hb
 unfold fdivD at q
 split at q
 ·split at q
  ·rename_i hj
   exact ⟨_,_,hv.int,hu.int,hj,q.int⟩
  ·exact q.elim
 ·exact q.elim
noncomputable def powD:D→D→Res D
 | .int i, .int j=>@ite (Res D) (0≤j∧j≤1000∧i.natAbs<2^64) (Classical.propDecidable _) (.ok (.int (i^j.toNat))) .stuck
 |_,_=> .stuck
theorem de_pow (ha:DP X xw a fa) (hb:DP X xw b fb):DE X xw (.BinOp a .Pow b pos) (fun δ=>(fa δ).bind fun x=>(fb δ).bind fun y=>powD x y):=by
 refine de_op2 op_pow (fun W H d e v u Q w hv hu q=> ?_) ha hb
 unfold powD at q
 split at q
 ·split at q
  ·rename_i hj
   exact ⟨_,_,hv.int,hu.int,⟨hj.1,by omega,hj.2.2⟩,q.int⟩
  ·exact q.elim
 ·exact q.elim
noncomputable def mulD:D→D→Res D
 | .int i, .int j=>@ite (Res D) ((-(2^64)<i∧i<2^64)∨(-(2^64)<j∧j<2^64)) (Classical.propDecidable _) (.ok (.int (i*j))) .stuck
 |_,_=> .stuck
def negD:D→Res D
 | .int i=> .ok (.int (-i))
 |_=> .stuck
theorem one_read {σ:L2.St} {H:Hp} {W₀ W:WS} {H₀:Hp} {δ:DSt} {op:D→Res D} {Q:VK} {R:V→Hp→Prop} (st:StHas X.K W₀ H₀ W H σ δ)
  (q:RE X.K xw W H ((fa δ).bind op) Q)
  (h:∀ H2 d v,Same H H2→WL W H2→StHas X.K W₀ H₀ W H2 σ δ→HasT X.K W H2 d v→fa δ= .ok d→RE X.K xw W H2 (op d) Q→R v H2):
  tDP X.K xw fa σ H fun x H1=>R x H1:=by
 refine ⟨W₀,H₀,W,δ,st,?_⟩
 cases h1:fa δ with
 |stuck=>rw [h1] at q;exact q
 |ex c fs=>rw [h1] at q;exact q
 |ok d=>
  rw [h1] at q
  intro v H1 k1 hv
  exact h H1 d v k1 (st.fr.wl.same k1) (st.same k1) hv h1 (RE.same (r:=op d) q k1)
def eqR (d e:D):Res D:=if (shal 40 d&&shal 40 e)=true then .ok (.bl (eqD d e)) else .stuck
def neR (d e:D):Res D:=if (shal 40 d&&shal 40 e)=true then .ok (.bl (!eqD d e)) else .stuck
def ltR:D→D→Res D
 | .int i, .int j=> .ok (.bl (decide (i<j)))
 |_,_=> .stuck
def leR:D→D→Res D
 | .int i, .int j=> .ok (.bl (decide (i≤j)))
 |_,_=> .stuck
def gtR:D→D→Res D
 | .int i, .int j=> .ok (.bl (decide (j<i)))
 |_,_=> .stuck
def geR:D→D→Res D
 | .int i, .int j=> .ok (.bl (decide (j≤i)))
 |_,_=> .stuck
structure CmpR (X:Cx) (xw:XW) (o:CmpOp) (op:D→D→Res D):Prop where
 ex:∃ r,OpR X (compareOp o) r∧Op2 X xw r op
 bl:∀ d e z,op d e= .ok z→∃ k,z= .bl k
 nm:o≠ .In∧o≠ .NotIn
theorem op_eqD (hu:X.A.units+40<cLine):OpR X (compareOp .Eq) (fun x y H Q=>∃ W d e,HasT X.K W H d x∧HasT X.K W H e y∧shal 40 d=true∧shal 40 e=true∧Q (.bl (eqD d e)) H):=by
 intro pins s σ H x y v u Q I rx ry h
 obtain ⟨W,d,e,h1,h2,s1,s2,q⟩:=h
 exact (eqAt_D I 40 X.A hu h1 h2 rx ry s1 s2).2.1 _ _ _ _ ⟨.bl _,H,I,rfl,q⟩
theorem op_neD (hu:X.A.units+40<cLine):OpR X (compareOp .NotEq) (fun x y H Q=>∃ W d e,HasT X.K W H d x∧HasT X.K W H e y∧shal 40 d=true∧shal 40 e=true∧Q (.bl (!eqD d e)) H):=by
 intro pins s σ H x y v u Q I rx ry h
 obtain ⟨W,d,e,h1,h2,s1,s2,q⟩:=h
 exact (eqAt_D I 40 X.A hu h1 h2 rx ry s1 s2).2.2 _ _ _ _ ⟨.bl _,H,I,rfl,q⟩
theorem c_eq (hu:X.A.units+40<cLine):CmpR X xw .Eq eqR:=⟨⟨_,op_eqD hu,fun W H d e v u Q w hv hu q=>by
  unfold eqR at q
  split at q
  ·rename_i hs
   rw [Bool.and_eq_true] at hs
   exact ⟨W,d,e,hv,hu,hs.1,hs.2,q.bl⟩
  ·exact q.elim⟩,fun d e z h=>by unfold eqR at h;split at h<;>cases h;exact ⟨_,rfl⟩,by decide,by decide⟩
theorem c_ne (hu:X.A.units+40<cLine):CmpR X xw .NotEq neR:=⟨⟨_,op_neD hu,fun W H d e v u Q w hv hu q=>by
  unfold neR at q
  split at q
  ·rename_i hs
   rw [Bool.and_eq_true] at hs
   exact ⟨W,d,e,hv,hu,hs.1,hs.2,q.bl⟩
  ·exact q.elim⟩,fun d e z h=>by unfold neR at h;split at h<;>cases h;exact ⟨_,rfl⟩,by decide,by decide⟩
theorem c_lt:CmpR X xw .Lt ltR:=⟨⟨_,op_lt,fun W H d e v u Q w hv hu q=>by
  unfold ltR at q
  split at q
  ·exact ⟨_,_,hv.int,hu.int,q.bl⟩
  ·exact q.elim⟩,fun d e z h=>by unfold ltR at h;split at h<;>cases h;exact ⟨_,rfl⟩,by decide,by decide⟩
theorem c_le:CmpR X xw .LtE leR:=⟨⟨_,op_le,fun W H d e v u Q w hv hu q=>by
  unfold leR at q
  split at q
  ·exact ⟨_,_,hv.int,hu.int,q.bl⟩
  ·exact q.elim⟩,fun d e z h=>by unfold leR at h;split at h<;>cases h;exact ⟨_,rfl⟩,by decide,by decide⟩
theorem c_gt:CmpR X xw .Gt gtR:=⟨⟨_,op_gt,fun W H d e v u Q w hv hu q=>by
  unfold gtR at q
  split at q
  ·exact ⟨_,_,hv.int,hu.int,q.bl⟩
  ·exact q.elim⟩,fun d e z h=>by unfold gtR at h;split at h<;>cases h;exact ⟨_,rfl⟩,by decide,by decide⟩
theorem c_ge:CmpR X xw .GtE geR:=⟨⟨_,op_ge,fun W H d e v u Q w hv hu q=>by
  unfold geR at q
  split at q
  ·exact ⟨_,_,hv.int,hu.int,q.bl⟩
  ·exact q.elim⟩,fun d e z h=>by unfold geR at h;split at h<;>cases h;exact ⟨_,rfl⟩,by decide,by decide⟩
def isNR (d:D):Res D:=match d with
 | .non=> .ok (.bl true)
 |_=> .ok (.bl false)
theorem HasT.isN {K:PySem.W.Frag} {W:WS} {H:Hp} {d:D} {v:V} (h:HasT K W H d v) (hd:d≠ .non):v≠ .non:=by
 rintro rfl
 rcases h with h|⟨ds,a,xs,h1,h2,_⟩
 ·cases d with
  |non=>exact hd rfl
  |bl b=>rw [Has] at h;cases h
  |int b=>rw [Has] at h;cases h
  |str b=>rw [Has] at h;cases h
  |tup b=>rw [Has] at h;obtain ⟨_,_,z,_⟩:=h;cases z
  |lst b=>rw [Has] at h;obtain ⟨_,_,z,_⟩:=h;cases z
  |dct k b=>rw [Has] at h;obtain ⟨_,_,z,_⟩:=h;cases z
  |exc k b=>rw [Has] at h;obtain ⟨_,_,_,z,_⟩:=h;cases z
  |obj c k b=>rw [Has] at h;obtain ⟨_,_,_,_,z,_⟩:=h;cases z
 ·cases h2
theorem de_cmp {o:CmpOp} {op:D→D→Res D} (hc:CmpR X xw o op) (ha:DP X xw a fa) (hb:DP X xw b fb):DE X xw (.Compare a [o] [b] pos) (fun δ=>(fa δ).bind fun x=>(fb δ).bind fun y=>op x y):=by
 obtain ⟨⟨r,ho,hr⟩,_,h1,h2⟩:=hc
 exact PE.weak (pe_cmpR ho ha hb (nomark b h1 h2)) fun σ H Q ⟨W₀,H₀,W,δ,st,q⟩=>two_read st q fun H2 d e v u k w hv hu _ _ q2=>hr W H2 d e v u Q w hv hu q2
def boolR:D→Res Bool
 | .bl k=> .ok k
 |_=> .stuck
theorem DE.t_of (ht:PT X e (tB (tDE X.K xw f))):DT X xw e (fun δ=>(f δ).bind boolR):=PT.weak ht fun σ H Q ⟨W₀,H₀,W,δ,st,q⟩=>by
 dsimp only at q
 refine ⟨W₀,H₀,W,δ,st,?_⟩
 cases h1:f δ with
 |stuck=>rw [h1] at q;exact q
 |ex c fs=>rw [h1] at q;exact q
 |ok d=>
  rw [h1] at q
  intro v H1 k1 hv
  have q':RT xw H (boolR d) Q:=q
  unfold boolR at q'
  split at q'
  ·rw [Has] at hv
   exact ⟨_,hv,q' H1 k1⟩
  ·exact q'.elim
theorem DE.t (h:DE X xw e f) (he:∀ whole,isTrue e X.env whole=(do let v ←whole;standAt e.pos;holding [v] (truthy v)):=by intro _;rfl):DT X xw e (fun δ=>(f δ).bind boolR):=DE.t_of (pt_val h he)
theorem dt_cmp {o:CmpOp} {op:D→D→Res D} (hc:CmpR X xw o op) (ha:DP X xw a fa) (hb:DP X xw b fb):DT X xw (.Compare a [o] [b] pos) (fun δ=>((fa δ).bind fun x=>(fb δ).bind fun y=>op x y).bind boolR):=by
 obtain ⟨⟨r,ho,hr⟩,_,h1,h2⟩:=hc
 refine DE.t_of (f:=fun δ=>(fa δ).bind fun x=>(fb δ).bind fun y=>op x y) (PT.weak (pt_cmpR ho ha hb (nomark b h1 h2)) fun σ H Q q=> ?_)
 obtain ⟨W₀,H₀,W,δ,st,q⟩:=q
 exact two_read st q fun H2 d e v u k w hv hu _ _ q2=>hr W H2 d e v u _ w hv hu q2
theorem dt_isN {j pos'} (ha:DP X xw a fa):DT X xw (.Compare a [.Is] [.Constant .none j pos'] pos) (fun δ=>((fa δ).bind isNR).bind boolR):=
 DE.t_of (f:=fun δ=>(fa δ).bind isNR) (PT.weak (pt_cmp (pc_isN ha)) fun σ H Q q=>by
  obtain ⟨W₀,H₀,W,δ,st,q⟩:=q
  exact one_read st q fun H2 d v k w st2 hv _ q2=>by
   unfold isNR at q2
   split at q2
   ·rw [hv.non];exact q2.bl
   ·rename_i hd
    rw [decide_eq_false (hv.isN hd)];exact q2.bl)
theorem DW.t {g:DSt→Res Bool} (h:DW X xw e g):DT X xw e g:=PW.pt h
def chainR (op op':D→D→Res D) (x y:D) (z:Res D):Res D:=(op x y).bind fun k=>match k with
 | .bl true=>z.bind fun w=>op' y w
 | .bl false=> .ok (.bl false)
 |_=> .stuck
theorem chain_read {o o':CmpOp} {op op':D→D→Res D} {r r':R2} (hr:Op2 X xw r op) (hr':Op2 X xw r' op') (hbl:∀ d e z,op d e= .ok z→∃ k,z= .bl k)
  {σ:L2.St} {H:Hp} {Q:VK} (q:tDE X.K xw (fun δ=>(fa δ).bind fun x=>(fb δ).bind fun y=>chainR op op' x y (fc δ)) σ H Q):
  tChain r r' (tDP X.K xw fa) (tDP X.K xw fb) (tDP X.K xw fc) σ H Q:=by
 obtain ⟨W₀,H₀,W,δ,st,q⟩:=q
 refine two_read (op:=fun x y=>chainR op op' x y (fc δ)) st q fun H2 d e v u k w hv hu _ _ q2=> ?_
 refine hr W H2 d e v u _ w hv hu ?_
 unfold chainR at q2
 cases h1:op d e with
 |stuck=>rw [h1] at q2;exact q2
 |ex c fs=>rw [h1] at q2;exact q2
 |ok z=>
  obtain ⟨k0,rfl⟩:=hbl _ _ _ h1
  rw [h1] at q2
  intro v' H3 k3 hv'
  rw [Has] at hv'
  refine ⟨k0,hv',?_⟩
  cases k0 with
  |false=>
   have q3:RE X.K xw W H2 (.ok (.bl false)) Q:=q2
   rw [if_neg Bool.false_ne_true]
   exact (q3.same k3).bl
  |true=>
   rw [if_pos rfl]
   have q3:RE X.K xw W H2 ((fc δ).bind fun w=>op' e w) Q:=q2
   refine ⟨W₀,H₀,W,δ,(st.same k).same k3,?_⟩
   cases h3:fc δ with
   |stuck=>rw [h3] at q3;exact q3
   |ex c fs=>rw [h3] at q3;exact fun H' k'=>q3 H' (k3.trans k')
   |ok g=>
    rw [h3] at q3
    intro x4 H4 k4 h4
    have q4:RE X.K xw W H2 (op' e g) Q:=q3
    exact hr' W H4 e g u x4 Q ((w.same k3).same k4) ((hu.same k3 w).same k4 (w.same k3)) h4 (q4.same (k3.trans k4))
theorem de_chain {o o':CmpOp} {op op':D→D→Res D} (hc:CmpR X xw o op) (hc':CmpR X xw o' op') (ha:DP X xw a fa) (hb:DP X xw b fb) (hcc:DP X xw c fc) (hm:lastMarks [o,o'] [b,c]=false:=by with_unfolding_all rfl):
  DE X xw (.Compare a [o,o'] [b,c] pos) (fun δ=>(fa δ).bind fun x=>(fb δ).bind fun y=>chainR op op' x y (fc δ)):=by
 obtain ⟨⟨r,ho,hr⟩,hbl,_⟩:=hc
 obtain ⟨⟨r',ho',hr'⟩,_,_⟩:=hc'
 exact PE.weak (pe_chain ho ho' ha hb hcc hm) fun σ H Q q=>chain_read (o:=o) (o':=o') hr hr' hbl q
theorem dt_chain {o o':CmpOp} {op op':D→D→Res D} (hc:CmpR X xw o op) (hc':CmpR X xw o' op') (ha:DP X xw a fa) (hb:DP X xw b fb) (hcc:DP X xw c fc) (hm:lastMarks [o,o'] [b,c]=false:=by with_unfolding_all rfl):
  DT X xw (.Compare a [o,o'] [b,c] pos) (fun δ=>((fa δ).bind fun x=>(fb δ).bind fun y=>chainR op op' x y (fc δ)).bind boolR):=by
 obtain ⟨⟨r,ho,hr⟩,hbl,_⟩:=hc
 obtain ⟨⟨r',ho',hr'⟩,_,_⟩:=hc'
 exact DE.t_of (f:=fun δ=>(fa δ).bind fun x=>(fb δ).bind fun y=>chainR op op' x y (fc δ)) (PT.weak (pt_chain ho ho' ha hb hcc hm) fun σ H Q q=>chain_read (o:=o) (o':=o') hr hr' hbl q)
def andB (x:Res Bool) (y:Res Bool):Res Bool:=x.bind fun k=>if k=true then y else .ok false
def orB (x:Res Bool) (y:Res Bool):Res Bool:=x.bind fun k=>if k=true then .ok true else y
variable {ga gb:DSt→Res Bool} {rest:List Expr}
theorem test_read {σ:L2.St} {H:Hp} {W₀ W:WS} {H₀:Hp} {δ:DSt} {k:Bool→Res Bool} {Q:Bool→Hp→Prop} {R:Bool→Hp→Prop} (st:StHas X.K W₀ H₀ W H σ δ) (q:RT xw H ((ga δ).bind k) Q)
  (h:∀ H2 c,Same H H2→StHas X.K W₀ H₀ W H2 σ δ→ga δ= .ok c→RT xw H2 (k c) Q→R c H2):tDT X.K xw ga σ H R:=by
 refine ⟨W₀,H₀,W,δ,st,?_⟩
 cases h1:ga δ with
 |stuck=>rw [h1] at q;exact q
 |ex c fs=>rw [h1] at q;exact q
 |ok c=>
  rw [h1] at q
  exact fun H1 k1=>h H1 c k1 (st.same k1) h1 (RT.same (r:=k c) q k1)
theorem dw_and1 (ha:DT X xw a ga):DW X xw (.BoolOp .And [a] pos) ga:=pw_and1 ha
theorem dw_or1 (ha:DT X xw a ga):DW X xw (.BoolOp .Or [a] pos) ga:=pw_or1 ha
theorem dw_and (ha:DT X xw a ga) (hb:DW X xw (.BoolOp .And (b::rest) pos) gb):DW X xw (.BoolOp .And (a::b::rest) pos) (fun δ=>andB (ga δ) (gb δ)):=
 PW.weak (pw_and ha hb) fun σ H Q ⟨W₀,H₀,W,δ,st,q⟩=>test_read st q fun H2 c k st2 _ q2=>by
  cases c with
  |true=>rw [if_pos rfl] at q2 ⊢;exact ⟨W₀,H₀,W,δ,st2,q2⟩
  |false=>rw [if_neg Bool.false_ne_true] at q2 ⊢;exact q2 H2 (Same.refl _)
theorem dw_or (ha:DT X xw a ga) (hb:DW X xw (.BoolOp .Or (b::rest) pos) gb):DW X xw (.BoolOp .Or (a::b::rest) pos) (fun δ=>orB (ga δ) (gb δ)):=
 PW.weak (pw_or ha hb) fun σ H Q ⟨W₀,H₀,W,δ,st,q⟩=>test_read st q fun H2 c k st2 _ q2=>by
  cases c with
  |true=>rw [if_pos rfl] at q2 ⊢;exact q2 H2 (Same.refl _)
  |false=>rw [if_neg Bool.false_ne_true] at q2 ⊢;exact ⟨W₀,H₀,W,δ,st2,q2⟩
theorem dt_not (ha:DT X xw a ga):DT X xw (.UnaryOp .Not a pos) (fun δ=>(ga δ).bind fun k=> .ok (!k)):=
 PT.weak (pt_not ha) fun σ H Q ⟨W₀,H₀,W,δ,st,q⟩=>test_read st q fun H2 c k st2 _ q2=>q2 H2 (Same.refl _)
def andD (x:Res D) (y:Res D):Res D:=x.bind fun k=>match k with
 | .bl true=>y
 | .bl false=> .ok (.bl false)
 |_=> .stuck
def orD (x:Res D) (y:Res D):Res D:=x.bind fun k=>match k with
 | .bl true=> .ok (.bl true)
 | .bl false=>y
 |_=> .stuck
def notD:D→Res D
 | .bl k=> .ok (.bl (!k))
 |_=> .stuck
theorem one_readE {σ:L2.St} {H:Hp} {W₀ W:WS} {H₀:Hp} {δ:DSt} {op:D→Res D} {Q:VK} {R:V→Hp→Prop} (st:StHas X.K W₀ H₀ W H σ δ)
  (q:RE X.K xw W H ((fa δ).bind op) Q)
  (h:∀ H2 d v,Same H H2→WL W H2→StHas X.K W₀ H₀ W H2 σ δ→Has X.K W H2 d v→fa δ= .ok d→RE X.K xw W H2 (op d) Q→R v H2):
  tDE X.K xw fa σ H fun x H1=>R x H1:=by
 refine ⟨W₀,H₀,W,δ,st,?_⟩
 cases h1:fa δ with
 |stuck=>rw [h1] at q;exact q
 |ex c fs=>rw [h1] at q;exact q
 |ok d=>
  rw [h1] at q
  intro v H1 k1 hv
  exact h H1 d v k1 (st.fr.wl.same k1) (st.same k1) hv h1 (RE.same (r:=op d) q k1)
theorem de_one {op} (h:DE X xw a fa):DE X xw (.BoolOp op [a] pos) fa:=pe_one h
theorem de_and (ha:DE X xw a fa) (hb:DE X xw (.BoolOp .And (b::rest) pos) fb):DE X xw (.BoolOp .And (a::b::rest) pos) (fun δ=>andD (fa δ) (fb δ)):=
 PE.weak (pe_and ha hb) fun σ H Q ⟨W₀,H₀,W,δ,st,q⟩=>one_readE st q fun H2 d v k w st2 hv _ q2=>by
  split at q2
  ·rw [Has] at hv
   exact ⟨true,hv,by rw [if_pos rfl];exact ⟨W₀,H₀,W,δ,st2,q2⟩⟩
  ·rw [Has] at hv
   exact ⟨false,hv,by rw [if_neg Bool.false_ne_true];exact q2.bl⟩
  ·exact q2.elim
theorem de_or (ha:DE X xw a fa) (hb:DE X xw (.BoolOp .Or (b::rest) pos) fb):DE X xw (.BoolOp .Or (a::b::rest) pos) (fun δ=>orD (fa δ) (fb δ)):=
 PE.weak (pe_or ha hb) fun σ H Q ⟨W₀,H₀,W,δ,st,q⟩=>one_readE st q fun H2 d v k w st2 hv _ q2=>by
  split at q2
  ·rw [Has] at hv
   exact ⟨true,hv,by rw [if_pos rfl];exact q2.bl⟩
  ·rw [Has] at hv
   exact ⟨false,hv,by rw [if_neg Bool.false_ne_true];exact ⟨W₀,H₀,W,δ,st2,q2⟩⟩
  ·exact q2.elim
theorem de_not (ha:DE X xw a fa):DE X xw (.UnaryOp .Not a pos) (fun δ=>(fa δ).bind notD):=
 PE.weak (pe_not ha) fun σ H Q ⟨W₀,H₀,W,δ,st,q⟩=>one_readE st q fun H2 d v k w st2 hv _ q2=>by
  unfold notD at q2
  split at q2
  ·rw [Has] at hv
   exact ⟨_,hv,q2.bl⟩
  ·exact q2.elim
theorem de_if (hc:DT X xw c ga) (ha:DE X xw a fa) (hb:DE X xw b fb):DE X xw (.IfExp c a b pos) (fun δ=>(ga δ).bind fun k=>if k=true then fa δ else fb δ):=
 PE.weak (pe_ifExp hc ha hb) fun σ H Q ⟨W₀,H₀,W,δ,st,q⟩=>by
  dsimp only at q
  refine ⟨W₀,H₀,W,δ,st,?_⟩
  cases h1:ga δ with
  |stuck=>rw [h1] at q;exact q
  |ex c fs=>rw [h1] at q;exact q
  |ok k=>
   rw [h1] at q
   intro H1 k1
   have q':RE X.K xw W H (if k=true then fa δ else fb δ) Q:=q
   cases k with
   |true=>rw [if_pos rfl] at q' ⊢;exact ⟨W₀,H₀,W,δ,st.same k1,q'.same k1⟩
   |false=>rw [if_neg Bool.false_ne_true] at q' ⊢;exact ⟨W₀,H₀,W,δ,st.same k1,q'.same k1⟩
variable {es:List Expr} {fs:DSt→Res (List D)}
theorem da_nil:DA X xw [] (fun _=> .ok []):=PA.weak pa_nil fun σ H Q ⟨W₀,H₀,W,δ,st,q⟩=>q [] H (Same.refl H) HasL.nil
def consR (x:Res D) (r:Res (List D)):Res (List D):=x.bind fun d=>r.bind fun ds=> .ok (d::ds)
theorem da_cons (ha:DE X xw a fa) (hr:DA X xw es fs) (hs:starEach (a::es) X.env=(false,eval a X.env)::starEach es X.env:=by rfl):DA X xw (a::es) (fun δ=>consR (fa δ) (fs δ)):=
 PA.weak (pa_cons ha hr hs) fun σ H Q ⟨W₀,H₀,W,δ,st,q⟩=>by
  refine ⟨W₀,H₀,W,δ,st,?_⟩
  unfold consR at q
  dsimp only at q
  cases h1:fa δ with
  |stuck=>rw [h1] at q;exact q
  |ex c fs=>rw [h1] at q;exact q
  |ok d=>
   rw [h1] at q
   intro v H1 k1 hv
   refine ⟨W₀,H₀,W,δ,st.same k1,?_⟩
   have q':RA X.K xw W H ((fs δ).bind fun ds=> .ok (d::ds)) Q:=q
   cases h2:fs δ with
   |stuck=>rw [h2] at q';exact q'
   |ex c gs=>rw [h2] at q';exact fun H2 k2=>q' H2 (k1.trans k2)
   |ok ds=>
    rw [h2] at q'
    intro vs H2 k2 hvs
    have q2:RA X.K xw W H (.ok (d::ds)) Q:=q'
    exact q2 (v::vs) H2 (k1.trans k2) (HasL.cons (hv.same k2 (st.fr.wl.same k1)) hvs)
theorem args_read {σ:L2.St} {H:Hp} {W₀ W:WS} {H₀:Hp} {δ:DSt} {op:List D→Res D} {Q:VK} {R:List V→Hp→Prop} (st:StHas X.K W₀ H₀ W H σ δ)
  (q:RE X.K xw W H ((fs δ).bind op) Q)
  (h:∀ H2 ds vs,Same H H2→WL W H2→StHas X.K W₀ H₀ W H2 σ δ→HasL X.K W H2 ds vs→fs δ= .ok ds→RE X.K xw W H2 (op ds) Q→R vs H2):
  tDA X.K xw fs σ H fun x H1=>R x H1:=by
 refine ⟨W₀,H₀,W,δ,st,?_⟩
 cases h1:fs δ with
 |stuck=>rw [h1] at q;exact q
 |ex c gs=>rw [h1] at q;exact q
 |ok d=>
  rw [h1] at q
  intro v H1 k1 hv
  exact h H1 d v k1 (st.fr.wl.same k1) (st.same k1) hv h1 (RE.same (r:=op d) q k1)
noncomputable def tupR (ds:List D):Res D:=@ite (Res D) (ds.length≤1000) (Classical.propDecidable _) (.ok (.tup ds)) .stuck
theorem k1000:(1000:Nat)≤sizeLine:=by rw [sizeLine_eq];decide
theorem de_tup {x1} (h:DA X xw es fs):DE X xw (.Tuple es x1 pos) (fun δ=>(fs δ).bind tupR):=
 PE.weak (pe_tup h) fun σ H Q ⟨W₀,H₀,W,δ,st,q⟩=>args_read st q fun H2 ds vs k w st2 hv _ q2=>by
  unfold tupR at q2
  split at q2
  ·rename_i hz
   exact ⟨by rw [←hv.length];exact Nat.le_trans hz k1000,fun p hp=>q2.newT w hp hv⟩
  ·exact q2.elim
noncomputable def lstR (ds:List D):Res (List D):=@ite (Res (List D)) (ds.length≤1000) (Classical.propDecidable _) (.ok ds) .stuck
theorem df_lst (h:DA X xw es fs):DF X xw (.List es pos) (fun δ=>(fs δ).bind lstR):=
 PE.weak (pe_lst h) fun σ H Q ⟨W₀,H₀,W,δ,st,q⟩=>by
  dsimp only at q
  refine ⟨W₀,H₀,W,δ,st,?_⟩
  cases h1:fs δ with
  |stuck=>rw [h1] at q;exact q
  |ex c gs=>rw [h1] at q;exact q
  |ok ds=>
   rw [h1] at q
   intro vs H1 k1 hv
   have q':RF X.K xw W H (lstR ds) Q:=q
   unfold lstR at q'
   split at q'
   ·rename_i hz
    exact ⟨by rw [←hv.length];exact Nat.le_trans hz k1000,fun p hp=>q' p vs H1 k1 hp hv⟩
   ·exact q'.elim
noncomputable def ixR:D→D→Res D
 | .tup ds, .int i=>match atI ds i with
  |some d=> .ok d
  |none=> .stuck
 | .lst ds, .int i=>match atI ds i with
  |some d=> .ok d
  |none=> .stuck
 | .str z, .int i=>@ite (Res D) (z.length≤sizeLine) (Classical.propDecidable _) (match atI z.cps.toList i with
  |some c=> .ok (.str ⟨#[c]⟩)
  |none=> .stuck) .stuck
 |_,_=> .stuck
theorem atI_has {K:PySem.W.Frag} {W:WS} {H:Hp} {ds:List D} {xs:List V} {i:Int} {d:D} (r:HasL K W H ds xs) (h:atI ds i=some d):∃ x,atI xs i=some x∧Has K W H d x:=by
 unfold atI at h ⊢
 rw [r.length] at h
 cases e:ixN xs.length i with
 |none=>rw [e] at h;cases h
 |some j=>
  rw [e] at h
  obtain ⟨x,h1,h2⟩:=r.get (show ds[j]? =some d from h)
  exact ⟨x,h1,h2⟩
theorem de_ix (ha:DP X xw a fa) (hb:DP X xw b fb) (hs:PlainIx b:=by intro _ _;rfl):DE X xw (.Subscript a b pos) (fun δ=>(fa δ).bind fun x=>(fb δ).bind fun y=>ixR x y):=
 PE.weak (pe_ix ix_seq ha hb hs) fun σ H Q ⟨W₀,H₀,W,δ,st,q⟩=>two_read st q fun H2 d e v u k w hv hu _ _ q2=>by
  unfold ixR at q2
  split at q2
  ·split at q2
   ·rename_i d' hd
    obtain ⟨p,xs,e1,sq,r⟩:=hv.tup
    obtain ⟨x,h1,h2⟩:=atI_has r hd
    exact .inr (.inl ⟨p,xs,_,x,e1,hu.int,sq,h1,q2 x H2 (Same.refl _) h2⟩)
   ·exact q2.elim
  ·split at q2
   ·rename_i d' hd
    obtain ⟨p,xs,e1,sq,r⟩:=hv.lst
    obtain ⟨x,h1,h2⟩:=atI_has r hd
    exact .inl ⟨p,xs,_,x,e1,hu.int,sq,h1,q2 x H2 (Same.refl _) h2⟩
   ·exact q2.elim
  ·split at q2
   ·rename_i hz
    split at q2
    ·rename_i cc hc
     exact .inr (.inr ⟨_,_,cc,hv.str,hu.int,hz,hc,q2.str⟩)
    ·exact q2.elim
   ·exact q2.elim
  ·exact q2.elim
def DO (X:Cx) (xw:XW) (e:Option Expr) (f:DSt→Res (Option Int)):Prop:=PO X e (fun σ H Q=>∃ W₀ H₀ W δ,StHas X.K W₀ H₀ W H σ δ∧match f δ with
 | .ok o=>∀ H',Same H H'→Q o H'
 | .ex c fs=>∀ H',Same H H'→xw c fs H'
 | .stuck=>False)
theorem PO.weak {X:Cx} {e:Option Expr} {t t':TO} (h:PO X e t) (k:∀ σ H Q,t' σ H Q→t σ H Q):PO X e t':=fun pins s σ H Q I q=>h pins s σ H Q I (k σ H Q q)
theorem do_none:DO X xw none (fun _=> .ok none):=PO.weak po_none fun σ H Q ⟨_,_,_,_,_,q⟩=>q H (Same.refl H)
def partR:D→Res (Option Int)
 | .int i=> .ok (some i)
 |_=> .stuck
theorem do_some (h:DE X xw e f):DO X xw (some e) (fun δ=>(f δ).bind partR):=PO.weak (po_some h) fun σ H Q ⟨W₀,H₀,W,δ,st,q⟩=>by
 dsimp only at q
 refine ⟨W₀,H₀,W,δ,st,?_⟩
 cases h1:f δ with
 |stuck=>rw [h1] at q;exact q
 |ex c fs=>rw [h1] at q;exact q
 |ok d=>
  rw [h1] at q
  intro v H1 k1 hv
  cases d with
  |int i=>rw [Has] at hv;exact ⟨i,hv,q H1 k1⟩
  |_=>exact q.elim
def cutD (xs:List D) (lo hi:Option Int):List D:=(xs.drop (HT.sIx xs.length 0 lo)).take (HT.sIx xs.length xs.length hi-HT.sIx xs.length 0 lo)
theorem cut_has {K:PySem.W.Frag} {W:WS} {H:Hp} {ds:List D} {xs:List V} (r:HasL K W H ds xs) (lo hi:Option Int):HasL K W H (cutD ds lo hi) (cutV xs lo hi):=by
 unfold cutD cutV
 rw [r.length]
 exact (r.drop _).take _
variable {lo hi:Option Expr} {fl fh:DSt→Res (Option Int)} {p2:Pos}
def whole (n:Nat) (lo hi:Option Int):Prop:=HT.sIx n 0 lo=0∧HT.sIx n n hi=n
instance {n:Nat} {lo hi:Option Int}:Decidable (whole n lo hi):=inferInstanceAs (Decidable (_∧_))
theorem sl_read {σ:L2.St} {H:Hp} {W₀ W:WS} {H₀:Hp} {δ:DSt} {α:Type} {op:D→Option Int→Option Int→Res α} {R:V→Option Int→Option Int→Hp→Prop} {G:Hp→Res α→Prop} (st:StHas X.K W₀ H₀ W H σ δ)
  (hex:∀ H c gs,G H (.ex c gs)→∀ H',Same H H'→xw c gs H') (hst:∀ H,G H .stuck→False) (hG:∀ H H' r,Same H H'→G H r→G H' r)
  (q:G H ((fa δ).bind fun x=>(fl δ).bind fun l=>(fh δ).bind fun u=>op x l u))
  (h:∀ H2 d v l u,Same H H2→WL W H2→HasT X.K W H2 d v→G H2 (op d l u)→R v l u H2):
  tDP X.K xw fa σ H fun x H1=>(fun σ H Q=>∃ W₀ H₀ W δ,StHas X.K W₀ H₀ W H σ δ∧match fl δ with
 | .ok o=>∀ H',Same H H'→Q o H'
 | .ex c fs=>∀ H',Same H H'→xw c fs H'
 | .stuck=>False:TO) σ H1 fun l H2=>(fun σ H Q=>∃ W₀ H₀ W δ,StHas X.K W₀ H₀ W H σ δ∧match fh δ with
 | .ok o=>∀ H',Same H H'→Q o H'
 | .ex c fs=>∀ H',Same H H'→xw c fs H'
 | .stuck=>False:TO) σ H2 fun u H3=>R x l u H3:=by
 refine ⟨W₀,H₀,W,δ,st,?_⟩
 cases h1:fa δ with
 |stuck=>rw [h1] at q;exact hst _ q
 |ex c fs=>rw [h1] at q;exact hex _ _ _ q
 |ok d=>
  rw [h1] at q
  intro v H1 k1 hv
  refine ⟨W₀,H₀,W,δ,st.same k1,?_⟩
  have q':G H ((fl δ).bind fun l=>(fh δ).bind fun u=>op d l u):=q
  cases h2:fl δ with
  |stuck=>rw [h2] at q';exact hst _ q'
  |ex c fs=>rw [h2] at q';exact fun H2 k2=>hex _ _ _ q' H2 (k1.trans k2)
  |ok l=>
   rw [h2] at q'
   intro H2 k2
   refine ⟨W₀,H₀,W,δ,(st.same k1).same k2,?_⟩
   have q2:G H ((fh δ).bind fun u=>op d l u):=q'
   cases h3:fh δ with
   |stuck=>rw [h3] at q2;exact hst _ q2
   |ex c fs=>rw [h3] at q2;exact fun H3 k3=>hex _ _ _ q2 H3 ((k1.trans k2).trans k3)
   |ok u=>
    rw [h3] at q2
    intro H3 k3
    have w1:=st.fr.wl.same k1
    exact h H3 d v l u ((k1.trans k2).trans k3) (st.fr.wl.same ((k1.trans k2).trans k3)) (hv.same (k2.trans k3) w1) (hG _ _ _ ((k1.trans k2).trans k3) q2)
def slL (d:D) (lo hi:Option Int):Res (List D):=match d with
 | .lst ds=> .ok (cutD ds lo hi)
 |_=> .stuck
theorem df_slL (ha:DP X xw a fa) (hl:DO X xw lo fl) (hh:DO X xw hi fh):DF X xw (.Subscript a (.Slice lo hi none p2) pos) (fun δ=>(fa δ).bind fun x=>(fl δ).bind fun l=>(fh δ).bind fun u=>slL x l u):=
 PE.weak (pe_slice sl_list ha hl hh) fun σ H Q ⟨W₀,H₀,W,δ,st,q⟩=>sl_read (G:=fun H r=>RF X.K xw W H r Q) st (fun _ _ _ q=>q) (fun _ q=>q) (fun _ _ _ k q=>RF.same q k) q fun H2 d v l u k w hv q2=>by
  unfold slL at q2
  split at q2
  ·obtain ⟨a1,xs,e1,sq,r⟩:=hv.lst
   exact ⟨a1,xs,e1,sq,fun p hp=>q2 p _ H2 (Same.refl _) hp (cut_has r l u)⟩
  ·exact q2.elim
end
end L3
namespace L3
open PySem PySem.Spec PyProof.Rows L2 SeqAt
inductive Out where
 |nx (δ:DSt)|rt (d:D)|bk (δ:DSt)|ct (δ:DSt)|ex (c:Str) (fs:List D)|stuck
structure Step (W:WS) (H:Hp) (W':WS) (H':Hp):Prop where
 keep:Keep W H H'
 new:∀ b,W' b→W b∨H b=none
section
variable {W W1 W2:WS} {H H1 H2:Hp}
theorem Step.refl:Step W H W H:=⟨fun _ _ e _=>e,fun _ z=> .inl z⟩
theorem Step.same (k:Same H H1):Step W H W H1:=⟨Same.keep k,fun _ z=> .inl z⟩
theorem Step.trans (a:Step W H W1 H1) (b:Step W1 H1 W2 H2):Step W H W2 H2:=by
 refine ⟨fun c o e n=>b.keep c o (a.keep c o e n) fun z=> ?_,fun c z=> ?_⟩
 ·rcases a.new c z with q|q
  ·exact n q
  ·rw [e] at q;cases q
 ·rcases b.new c z with q|q
  ·exact a.new c q
  ·by_cases hw:W c
   ·exact .inl hw
   ·right
    cases e:H c with
    |none=>rfl
    |some o=>rw [a.keep c o e hw] at q;cases q
end
section
variable (K:PySem.W.Frag) (xw:XW)
def RS (W₀:WS) (H₀:Hp) (W:WS) (H:Hp) (o:Out) (Dn:Ends):Prop:=match o with
 | .nx δ=>∀ W' H' σ,Step W H W' H'→StHas K W₀ H₀ W' H' σ δ→Dn.nx σ H'
 | .bk δ=>∀ W' H' σ,Step W H W' H'→StHas K W₀ H₀ W' H' σ δ→Dn.bk σ H'
 | .ct δ=>∀ W' H' σ,Step W H W' H'→StHas K W₀ H₀ W' H' σ δ→Dn.ct σ H'
 | .rt d=>∀ v H',Same H₀ H'→Has K W₀ H' d v→Dn.rt v H'
 | .ex c fs=>∀ H',Same H₀ H'→xw c fs H'
 | .stuck=>False
def tDS (g:DSt→Out):TS:=fun Dn σ H=>∃ W₀ H₀ W δ,StHas K W₀ H₀ W H σ δ∧RS K xw W₀ H₀ W H (g δ) Dn
end
def DS (X:Cx) (xw:XW) (st:Stmt) (g:DSt→Out):Prop:=PS X st (tDS X.K xw g)
def DSs (X:Cx) (xw:XW) (sts:List Stmt) (g:DSt→Out):Prop:=PSs X sts (tDS X.K xw g)
theorem PS.weak {X:Cx} {st:Stmt} {t t':TS} (h:PS X st t) (k:∀ Dn σ H,t' Dn σ H→t Dn σ H):PS X st t':=fun pins s σ H Dn I q=>h pins s σ H Dn I (k Dn σ H q)
theorem PSs.weak {X:Cx} {st:List Stmt} {t t':TS} (h:PSs X st t) (k:∀ Dn σ H,t' Dn σ H→t Dn σ H):PSs X st t':=fun pins s σ H Dn I q=>h pins s σ H Dn I (k Dn σ H q)
section
variable {K:PySem.W.Frag} {xw:XW} {W₀ W W1:WS} {H₀ H H1:Hp} {o:Out} {Dn:Ends}
theorem RS.step (h:RS K xw W₀ H₀ W H o Dn) (k:Step W H W1 H1):RS K xw W₀ H₀ W1 H1 o Dn:=by
 cases o with
 |nx δ=>exact fun W' H' σ k' st=>h W' H' σ (k.trans k') st
 |bk δ=>exact fun W' H' σ k' st=>h W' H' σ (k.trans k') st
 |ct δ=>exact fun W' H' σ k' st=>h W' H' σ (k.trans k') st
 |rt d=>exact h
 |ex c fs=>exact h
 |stuck=>exact h
end
def ofR {α:Type} (r:Res α) (k:α→Out):Out:=match r with
 | .ok a=>k a
 | .ex c fs=> .ex c fs
 | .stuck=> .stuck
def seqO (o:Out) (g:DSt→Out):Out:=match o with
 | .nx δ=>g δ
 |o=>o
section
variable {X:Cx} {xw:XW} {e:Expr} {f:DSt→Res D} {pos:Pos} {st:Stmt} {sts:List Stmt} {g g1 g2:DSt→Out}
theorem dss_nil:DSs X xw [] .nx:=PSs.weak pss_nil fun Dn σ H ⟨W₀,H₀,W,δ,st,q⟩=>q W H σ Step.refl st
theorem dss_cons (h1:DS X xw st g1) (h2:DSs X xw sts g2):DSs X xw (st::sts) (fun δ=>seqO (g1 δ) g2):=PSs.weak (pss_cons h1 h2) fun Dn σ H ⟨W₀,H₀,W,δ,st,q⟩=>by
 refine ⟨W₀,H₀,W,δ,st,?_⟩
 dsimp only at q
 cases h:g1 δ with
 |nx δ'=>
  rw [h] at q
  exact fun W' H' σ' k st'=>⟨W₀,H₀,W',δ',st',RS.step (o:=g2 δ') q k⟩
 |bk δ'=>rw [h] at q;exact q
 |ct δ'=>rw [h] at q;exact q
 |rt d=>rw [h] at q;exact q
 |ex c fs=>rw [h] at q;exact q
 |stuck=>rw [h] at q;exact q
theorem dss_one (h1:DS X xw st g1):DSs X xw [st] g1:=pss_one h1
theorem val_read {σ:L2.St} {H:Hp} {W₀ W:WS} {H₀:Hp} {δ:DSt} {k:D→Out} {Dn:Ends} {R:V→Hp→Prop} (st:StHas X.K W₀ H₀ W H σ δ) (q:RS X.K xw W₀ H₀ W H (ofR (f δ) k) Dn)
  (h:∀ H2 d v,StHas X.K W₀ H₀ W H2 σ δ→Has X.K W H2 d v→RS X.K xw W₀ H₀ W H2 (k d) Dn→R v H2):tDE X.K xw f σ H R:=by
 refine ⟨W₀,H₀,W,δ,st,?_⟩
 cases h1:f δ with
 |stuck=>rw [h1] at q;exact q
 |ex c fs=>rw [h1] at q;exact fun H' k'=>q H' (st.fr.ext.trans k')
 |ok d=>
  rw [h1] at q
  exact fun v H1 k1 hv=>h H1 d v (st.same k1) hv (RS.step (o:=k d) q (Step.same k1))
theorem ds_ret (he:DE X xw e f):DS X xw (.Return (some e) pos) (fun δ=>ofR (f δ) fun d=> .rt d):=PS.weak (ps_ret he) fun Dn σ H ⟨W₀,H₀,W,δ,st,q⟩=>
 val_read st q fun H2 d v st2 hv q2=>q2 v H2 st2.fr.ext (Has.keep (fun _ _ e _=>e) st2.fr.wl (fun b z=> .inl (st2.fr.sub b z)) hv)
theorem ds_retV (i:Nat) {x:Str} {pos':Pos} (hN:X.N[i]? =some x:=by rfl) (hv:Vis X.env.scope x:=by first|exact Or.inl rfl|exact Or.inr (Or.inl rfl)|exact Or.inr (Or.inr rfl)) (hd:(x==("__debug__":Str))=false:=by decide)
  (hcd:(x==("__classdict__":Str))=false:=by decide):DS X xw (.Return (some (.Name x pos')) pos) (fun δ=>ofR (slotP i δ) fun d=> .rt d):=PS.weak (ps_ret (pe_var hN hv hd hcd)) fun Dn σ H ⟨W₀,H₀,W,δ,st,q⟩=>by
 have up:∀ b,W₀ b→W b∨H b=none:=fun b z=> .inl (st.fr.sub b z)
 unfold slotP at q
 dsimp only at q
 split at q
 ·rename_i d h
  obtain ⟨v,e,r⟩:=st.at' i _ h
  exact ⟨v,e,q v H st.fr.ext (Has.keep (fun _ _ e _=>e) st.fr.wl up r)⟩
 ·rename_i ds h
  obtain ⟨v,e,a,xs,r1,r2,r3,r4,r5⟩:=st.at' i _ h
  refine ⟨v,e,q v H st.fr.ext ?_⟩
  rw [Has]
  refine ⟨a,xs,r1, .inl ⟨r4,fun z=> ?_⟩,HasL.keep (fun _ _ e _=>e) st.fr.wl up r5⟩
  obtain ⟨ys,z',_⟩:=st.fr.wl0 a z
  rw [r3] at z';cases z'
 ·exact q.elim
theorem ds_set (i:Nat) {x:Str} {pos':Pos} (hN:X.N.Nodup) (he:DE X xw e f) (hi:X.N[i]? =some x:=by rfl) (hx:Loc X.env.scope x:=by first|exact Or.inl rfl|exact Or.inr rfl) (hs:swapsWith e (some (.Name x pos')) pos.line X.env=pure false:=by rfl)
  (hf:X.fn x=true∨X.env.scope.names.lookup x=some .local:=by first|exact .inl rfl|exact .inr rfl|assumption):DS X xw (.Assign [.Name x pos'] e pos) (fun δ=>ofR (f δ) fun d=> .nx (δ.set i (some (.d d)))):=
 PS.weak (ps_set hN hi hx he hs hf) fun Dn σ H ⟨W₀,H₀,W,δ,st,q⟩=>val_read st q fun H2 d v st2 hv q2=>q2 W H2 _ Step.refl (st2.set hv)
theorem new_read {σ:L2.St} {H:Hp} {W₀ W:WS} {H₀:Hp} {δ:DSt} {ff:DSt→Res (List D)} {i:Nat} {Dn:Ends} (st:StHas X.K W₀ H₀ W H σ δ) (q:RS X.K xw W₀ H₀ W H (ofR (ff δ) fun ds=> .nx (δ.set i (some (.o ds)))) Dn):
  tDF X.K xw ff σ H fun x H1=>gName i x σ H1 Dn.nx:=by
 refine ⟨W₀,H₀,W,δ,st,?_⟩
 cases h1:ff δ with
 |stuck=>rw [h1] at q;exact q
 |ex c fs=>rw [h1] at q;exact fun H' k'=>q H' (st.fr.ext.trans k')
 |ok ds=>
  rw [h1] at q
  intro a xs H1 k n r
  have st1:=(st.same k).own (i:=i) n r
  refine q _ _ _ ⟨fun b o e nb=> ?_,fun b z=>z.elim .inl fun z=> .inr (by rw [z];exact Same.free k n)⟩ st1
  rw [upd_ne (ne_of_none (k b o e) n)];exact k b o e
theorem ds_own (i:Nat) {x:Str} {pos':Pos} {ff:DSt→Res (List D)} (hN:X.N.Nodup) (he:DF X xw e ff) (hi:X.N[i]? =some x:=by rfl) (hx:Loc X.env.scope x:=by first|exact Or.inl rfl|exact Or.inr rfl) (hs:swapsWith e (some (.Name x pos')) pos.line X.env=pure false:=by rfl)
  (hf:X.fn x=true∨X.env.scope.names.lookup x=some .local:=by first|exact .inl rfl|exact .inr rfl|assumption):DS X xw (.Assign [.Name x pos'] e pos) (fun δ=>ofR (ff δ) fun ds=> .nx (δ.set i (some (.o ds)))):=
 PS.weak (ps_set hN hi hx he hs hf) fun Dn σ H ⟨W₀,H₀,W,δ,st,q⟩=>new_read st q
def ifO (c:Res Bool) (a b:Out):Out:=ofR c fun k=>if k=true then a else b
variable {c:Expr} {ga:DSt→Res Bool} {as bs:List Stmt}
theorem ds_if (hc:DT X xw c ga) (ha:DSs X xw as g1) (hb:DSs X xw bs g2):DS X xw (.If c as bs pos) (fun δ=>ifO (ga δ) (g1 δ) (g2 δ)):=PS.weak (ps_if hc ha hb) fun Dn σ H ⟨W₀,H₀,W,δ,st,q⟩=>by
 refine ⟨W₀,H₀,W,δ,st,?_⟩
 unfold ifO at q
 dsimp only at q
 cases h1:ga δ with
 |stuck=>rw [h1] at q;exact q
 |ex c fs=>rw [h1] at q;exact fun H' k'=>q H' (st.fr.ext.trans k')
 |ok k=>
  rw [h1] at q
  intro H1 k1
  have q':RS X.K xw W₀ H₀ W H (if k=true then g1 δ else g2 δ) Dn:=q
  cases k with
  |true=>rw [if_pos rfl] at q' ⊢;exact ⟨W₀,H₀,W,δ,st.same k1,q'.step (Step.same k1)⟩
  |false=>rw [if_neg Bool.false_ne_true] at q' ⊢;exact ⟨W₀,H₀,W,δ,st.same k1,q'.step (Step.same k1)⟩
def tDG (K:PySem.W.Frag) (t:D→DSt→Res DSt):TG:=fun v σ H Q=>∃ W₀ H₀ W δ d,StHas K W₀ H₀ W H σ δ∧Has K W H d v∧match t d δ with
 | .ok δ'=>∀ σ',StHas K W₀ H₀ W H σ' δ'→Q σ' H
 |_=>False
def DG (X:Cx) (tg:Expr) (t:D→DSt→Res DSt):Prop:=PG X tg (tDG X.K t)
theorem PG.weak {X:Cx} {tg:Expr} {t t':TG} (h:PG X tg t) (k:∀ v σ H Q,t' v σ H Q→t v σ H Q):PG X tg t':=fun pins s σ H v u Q I r q=>h pins s σ H v u Q I r (k v σ H Q q)
def setI (i:Nat) (d:D) (δ:DSt):Res DSt:= .ok (δ.set i (some (.d d)))
theorem dg_name (i:Nat) {x:Str} (hN:X.N.Nodup) (hi:X.N[i]? =some x:=by rfl) (hx:Loc X.env.scope x:=by first|exact Or.inl rfl|exact Or.inr rfl) (hf:X.fn x=true∨X.env.scope.names.lookup x=some .local:=by first|exact .inl rfl|exact .inr rfl|assumption):
  DG X (.Name x pos) (setI i):=PG.weak (pg_name hN hi hx hf) fun v σ H Q ⟨W₀,H₀,W,δ,d,st,hv,q⟩=>q _ (st.set hv)
def tDGs (K:PySem.W.Frag) (t:List D→DSt→Res DSt):TGs:=fun vs σ H Q=>∃ W₀ H₀ W δ ds,StHas K W₀ H₀ W H σ δ∧HasL K W H ds vs∧match t ds δ with
 | .ok δ'=>∀ σ',StHas K W₀ H₀ W H σ' δ'→Q σ' H
 |_=>False
def DGs (X:Cx) (tgs:List Expr) (t:List D→DSt→Res DSt):Prop:=PGs X tgs (tDGs X.K t)
theorem PGs.weak {X:Cx} {tg:List Expr} {t t':TGs} (h:PGs X tg t) (k:∀ v σ H Q,t' v σ H Q→t v σ H Q):PGs X tg t':=fun pins s σ H v u Q I r q=>h pins s σ H v u Q I r (k v σ H Q q)
def unNil (ds:List D) (δ:DSt):Res DSt:=match ds with
 | []=> .ok δ
 |_=> .stuck
def unCons (t:D→DSt→Res DSt) (r:List D→DSt→Res DSt) (ds:List D) (δ:DSt):Res DSt:=match ds with
 |d::ds=>(t d δ).bind fun δ'=>r ds δ'
 | []=> .stuck
variable {tg:Expr} {tgs:List Expr} {t:D→DSt→Res DSt} {ts:List D→DSt→Res DSt}
theorem dgs_nil:DGs X [] unNil:=PGs.weak pgs_nil fun vs σ H Q ⟨W₀,H₀,W,δ,ds,st,hv,q⟩=>by
 unfold unNil at q
 cases ds with
 |nil=>rw [HasL] at hv;exact ⟨hv,q σ st⟩
 |cons=>exact q.elim
theorem dgs_cons (h1:DG X tg t) (h2:DGs X tgs ts) (hs:(assignEach (tg::tgs) X.env).map (·.2)=assign tg X.env::(assignEach tgs X.env).map (·.2):=by rfl):DGs X (tg::tgs) (unCons t ts):=
 PGs.weak (pgs_cons h1 h2 hs) fun vs σ H Q ⟨W₀,H₀,W,δ,ds,st,hv,q⟩=>by
  unfold unCons at q
  cases ds with
  |nil=>exact q.elim
  |cons d ds=>
   rw [HasL] at hv
   obtain ⟨x,r,e,h,hr⟩:=hv
   refine ⟨x,r,e,W₀,H₀,W,δ,d,st,h,?_⟩
   dsimp only at q
   cases h1:t d δ with
   |stuck=>rw [h1] at q;exact q
   |ex c fs=>rw [h1] at q;exact q
   |ok δ'=>
    rw [h1] at q
    exact fun σ' st'=>⟨W₀,H₀,W,δ',ds,st',hr,q⟩
def unTup (n:Nat) (ts:List D→DSt→Res DSt) (d:D) (δ:DSt):Res DSt:=match d with
 | .tup ds=>if ds.length=n then ts ds δ else .stuck
 |_=> .stuck
theorem dg_tup {k:Nat} {n:Nat} (hc:X.calm=true) (h:DGs X tgs ts) (hn:(assignEach tgs X.env).length=n:=by rfl) (hst:(assignEach tgs X.env).findIdx? (·.1)=none:=by rfl):DG X (.Tuple tgs k pos) (unTup n ts):=
 PG.weak (pg_tup hc h hn hst) fun v σ H Q ⟨W₀,H₀,W,δ,d,st,hv,q⟩=>by
  unfold unTup at q
  cases d with
  |tup ds=>
   dsimp only at q
   split at q
   ·rename_i hl
    split at hl
    ·rename_i hl'
     rw [Has] at hv
     obtain ⟨a,xs,e,sq,r⟩:=hv
     refine ⟨a,xs,e,sq,by rw [←r.length];exact hl',W₀,H₀,W,δ,ds,st,r,?_⟩
     rw [hl]
     exact q
    ·cases hl
   ·exact q.elim
  |_=>exact q.elim
def ItOk (K:PySem.W.Frag) (W:WS) (H:Hp) (J:It) (ds:List D):Prop:=∀ W' H2,Step W H W' H2→WL W' H2→
 (∀ i d,ds[i]? =some d→J.go i H2∧∀ x H3,J.yld i H2 x H3→Same H2 H3∧Has K W' H3 d x)∧J.stop ds.length H2
def tDI (K:PySem.W.Frag) (xw:XW) (f:DSt→Res (List D)):TI:=fun σ H R=>∃ W₀ H₀ W δ,StHas K W₀ H₀ W H σ δ∧match f δ with
 | .ok ds=>∀ J H',Same H H'→ItOk K W H' J ds→R J H'
 | .ex c fs=>∀ H',Same H H'→xw c fs H'
 | .stuck=>False
def DI (X:Cx) (xw:XW) (tg iter:Expr) (f:DSt→Res (List D)):Prop:=PI X tg iter (tDI X.K xw f)
theorem PI.weak {X:Cx} {tg iter:Expr} {t t':TI} (h:PI X tg iter t) (k:∀ σ H R,t' σ H R→t σ H R):PI X tg iter t':=fun pins s σ H R I q=>h pins s σ H R I (k σ H R q)
theorem SqL.lr {K:PySem.W.Frag} {W W':WS} {H H2:Hp} {a:Addr} {xs:List V} (h:LR K W H a xs) (k:Step W H W' H2) (w:WL W H):LR K W' H2 a xs:=h.keep k.keep w k.new
theorem itl_ok {K:PySem.W.Frag} {W:WS} {H:Hp} {a:Addr} {xs:List V} {ds:List D} (w:WL W H) (h:LR K W H a xs) (r:HasL K W H ds xs):ItOk K W H (Itl K a) ds:=by
 intro W' H2 k w2
 have h2:=(SqL.lr h k w).sq
 refine ⟨fun i d e=> ?_,xs,h2,by rw [r.length];exact Nat.le_refl _⟩
 obtain ⟨x,e1,hx⟩:=r.get e
 refine ⟨⟨xs,x,h2,e1⟩,fun y H3 z=> ?_⟩
 obtain ⟨rfl,z⟩:=z
 have:y=x:=by
  have q:=z xs h2
  rw [e1] at q;exact (Option.some.inj q).symm
 subst this
 exact ⟨Same.refl _,Has.keep k.keep w k.new hx⟩
theorem itt_ok {K:PySem.W.Frag} {W:WS} {H:Hp} {a:Addr} {xs:List V} {ds:List D} (w:WL W H) (h:SqT K H a xs) (r:HasL K W H ds xs):ItOk K W H (Itt K a) ds:=by
 intro W' H2 k w2
 have h2:=sqT_keep k.keep w h
 refine ⟨fun i d e=> ?_,xs,h2,by rw [r.length];exact Nat.le_refl _⟩
 obtain ⟨x,e1,hx⟩:=r.get e
 refine ⟨⟨xs,x,h2,e1⟩,fun y H3 z=> ?_⟩
 obtain ⟨rfl,z⟩:=z
 have:y=x:=by
  have q:=z xs h2
  rw [e1] at q;exact (Option.some.inj q).symm
 subst this
 exact ⟨Same.refl _,Has.keep k.keep w k.new hx⟩
def rngD (lo:Int) (n:Nat):List D:=(List.range n).map fun (i:Nat)=>D.int (lo+i)
theorem itr_ok {K:PySem.W.Frag} {W:WS} {H:Hp} (lo:Int) (n:Nat):ItOk K W H (Itr lo n) (rngD lo n):=by
 intro W' H2 k w2
 unfold rngD
 refine ⟨fun i d e=> ?_,by simp [Itr]⟩
 rw [List.getElem?_map] at e
 have hi:i<n:=by
  refine Nat.lt_of_not_le fun z=> ?_
  rw [List.getElem?_eq_none (by simpa using z)] at e;cases e
 rw [List.getElem?_range hi] at e
 have e':D.int (lo+(i:Nat))=d:=Option.some.inj e
 subst e'
 refine ⟨hi,fun x H3 z=> ?_⟩
 obtain ⟨rfl,rfl⟩:=z
 exact ⟨Same.refl _,by rw [Has]⟩
noncomputable def rng1R (ds:List D):Res (List D):=match ds with
 | [.int j]=>@ite (Res (List D)) (-(2^62)≤j∧j<2^62) (Classical.propDecidable _) (.ok (rngD 0 j.toNat)) .stuck
 |_=> .stuck
theorem HasL.one {K:PySem.W.Frag} {W:WS} {H:Hp} {i:Int} {vs:List V} (h:HasL K W H [.int i] vs):vs= [.int i]:=by
 rw [HasL] at h
 obtain ⟨x,r,rfl,h1,h2⟩:=h
 rw [HasL] at h2
 rw [Has] at h1
 rw [h1,h2]
theorem HasL.two {K:PySem.W.Frag} {W:WS} {H:Hp} {i j:Int} {vs:List V} (h:HasL K W H [.int i, .int j] vs):vs= [.int i, .int j]:=by
 rw [HasL] at h
 obtain ⟨x,r,rfl,h1,h2⟩:=h
 rw [Has] at h1
 rw [h1,h2.one]
variable {a b:Expr} {fs:DSt→Res (List D)} {p:Pos}
theorem di_range1 (hm:X.mg "range"=none) (ha:DA X xw [a] fs) (hg:Gl X "range":=by rfl) (hs:starEach [a] X.env= [(false,eval a X.env)]:=by rfl):DI X xw tg (.Call (.Name "range" p) [a] [] pos) (fun δ=>(fs δ).bind rng1R):=
 PI.weak (pi_range1 hg hm ha hs) fun σ H R ⟨W₀,H₀,W,δ,st,q⟩=>by
  refine ⟨W₀,H₀,W,δ,st,?_⟩
  dsimp only at q
  cases h1:fs δ with
  |stuck=>rw [h1] at q;exact q
  |ex c fs=>rw [h1] at q;exact q
  |ok ds=>
   rw [h1] at q
   intro vs H1 k1 hv
   dsimp only [Res.bind] at q
   unfold rng1R at q
   split at q
   ·rename_i ds' hq
    split at hq
    ·rename_i j
     split at hq
     ·rename_i hj
      have e':rngD 0 j.toNat=ds':=by cases hq;rfl
      subst e'
      exact ⟨j,hv.one,hj.1,hj.2,q _ H1 k1 (itr_ok 0 _)⟩
     ·cases hq
    ·cases hq
   ·rename_i hq
    split at hq
    ·split at hq<;>cases hq
    ·cases hq
   ·exact q.elim
def forD (t:D→DSt→Res DSt) (body:DSt→Out):List D→DSt→Out
 | [],δ=> .nx δ
 |d::ds,δ=>match t d δ with
  | .ok δ'=>match body δ' with
   | .nx δ2=>forD t body ds δ2
   | .ct δ2=>forD t body ds δ2
   | .bk δ2=> .nx δ2
   | .rt d=> .rt d
   | .ex c fs=> .ex c fs
   | .stuck=> .stuck
  |_=> .stuck
theorem ds_for {iter:Expr} {fi:DSt→Res (List D)} (hp:PassesOwn (model X.prog X.w) X.A X.env X.xe) (hc:X.calm=true) (hi:DI X xw tg iter fi) (hg:DG X tg t) (hb:DSs X xw sts g)
  (hs:∀ x,foldedSetIterable iter X.env x=pure x:=by intro _;rfl):DS X xw (.For tg iter sts [] pos) (fun δ=>ofR (fi δ) fun ds=>forD t g ds δ):=
 PS.weak (ps_for hp hc hi hg hb hs) fun Dn σ H ⟨W₀,H₀,W,δ,st,q⟩=>by
  refine ⟨W₀,H₀,W,δ,st,?_⟩
  dsimp only at q
  cases h1:fi δ with
  |stuck=>rw [h1] at q;exact q
  |ex c fs=>rw [h1] at q;exact fun H' k'=>q H' (st.fr.ext.trans k')
  |ok ds=>
   rw [h1] at q
   intro J H1 k1 it
   have q1:RS X.K xw W₀ H₀ W H1 (forD t g ds δ) Dn:=RS.step (o:=forD t g ds δ) q (Step.same k1)
   refine ⟨fun i m σ' H'=>∃ W' δ',m=ds.length-i∧i≤ds.length∧StHas X.K W₀ H₀ W' H' σ' δ'∧Step W H1 W' H'∧RS X.K xw W₀ H₀ W' H' (forD t g (ds.drop i) δ') Dn,
    ⟨_,W,δ,rfl,Nat.zero_le _,st.same k1,Step.refl,q1⟩,?_⟩
   rintro i m σ' H' ⟨W',δ',rfl,hi,st',k',q'⟩
   obtain ⟨items,stop⟩:=it W' H' k' st'.fr.wl
   by_cases hl:i<ds.length
   ·right
    have e:ds[i]? =some ds[i]:=List.getElem?_eq_getElem hl
    obtain ⟨go,yld⟩:=items i _ e
    have ed:ds.drop i=ds[i]::ds.drop (i+1):=List.drop_eq_getElem_cons hl
    rw [ed] at q'
    unfold forD at q'
    refine ⟨go,fun σ2 H2=>∃ W2 δ2,StHas X.K W₀ H₀ W2 H2 σ2 δ2∧Step W H1 W2 H2∧RS X.K xw W₀ H₀ W2 H2 (forD t g (ds.drop (i+1)) δ2) Dn,fun σ2 H2 ⟨W2,δ2,a1,a2,a3⟩=>⟨ds.length-(i+1),by omega,W2,δ2,rfl,hl,a1,a2,a3⟩,fun x H3 z=> ?_⟩
    obtain ⟨k3,hx⟩:=yld x H3 z
    refine ⟨W₀,H₀,W',δ',ds[i],st'.same k3,hx,?_⟩
    cases h2:t ds[i] δ' with
    |stuck=>rw [h2] at q';exact q'
    |ex c fs=>rw [h2] at q';exact q'
    |ok δ2=>
     rw [h2] at q'
     intro σ2 st2
     refine ⟨W₀,H₀,W',δ2,st2,?_⟩
     dsimp only at q'
     have kk:Step W' H' W' H3:=Step.same k3
     cases h3:g δ2 with
     |nx δ3=>rw [h3] at q';exact fun W3 H4 σ3 k4 st3=>⟨W3,δ3,st3,(k'.trans kk).trans k4,RS.step (o:=forD t g (ds.drop (i+1)) δ3) q' (kk.trans k4)⟩
     |ct δ3=>rw [h3] at q';exact fun W3 H4 σ3 k4 st3=>⟨W3,δ3,st3,(k'.trans kk).trans k4,RS.step (o:=forD t g (ds.drop (i+1)) δ3) q' (kk.trans k4)⟩
     |bk δ3=>rw [h3] at q';exact fun W3 H4 σ3 k4 st3=>q' W3 H4 σ3 (kk.trans k4) st3
     |rt d=>rw [h3] at q';exact q'
     |ex c fs=>rw [h3] at q';exact q'
     |stuck=>rw [h3] at q';exact q'
   ·left
    have ei:i=ds.length:=by omega
    subst ei
    rw [List.drop_length] at q'
    exact ⟨stop,q' W' H' σ' Step.refl st'⟩
def whileD (c:DSt→Res Bool) (body:DSt→Out):Nat→DSt→Out
 |0,_=> .stuck
 |n+1,δ=>match c δ with
  | .ok true=>match body δ with
   | .nx δ2=>whileD c body n δ2
   | .ct δ2=>whileD c body n δ2
   | .bk δ2=> .nx δ2
   | .rt d=> .rt d
   | .ex c fs=> .ex c fs
   | .stuck=> .stuck
  | .ok false=> .nx δ
  | .ex c fs=> .ex c fs
  | .stuck=> .stuck
end
end L3
namespace L3
open PySem PySem.Spec PyProof.Rows L2 SeqAt
def noex {α:Type}:Res α→Res α
 | .ok a=> .ok a
 |_=> .stuck
def compD (t:D→DSt→Res DSt) (c:DSt→Res Bool) (fe:DSt→Res D):List D→DSt→Res (List D)
 | [],_=> .ok []
 |d::ds,δ=>match t d δ with
  | .ok δ'=>(noex (c δ')).bind fun k=>if k=true then (noex (fe δ')).bind fun x=>(compD t c fe ds δ').bind fun r=> .ok (x::r) else compD t c fe ds δ'
  |_=> .stuck
abbrev xwF:XW:=fun _ _ _=>False
section
variable {K:PySem.W.Frag} {W₀ W:WS} {H₀ H:Hp} {σ:L2.St} {δ:DSt} {a:Addr}
theorem StHas.acc {xs ys:List V} (h:StHas K W₀ (upd H₀ a (.lst xs)) W H σ δ) (ha:H a=some (.lst xs)) (hW:W a):StHas K W₀ (upd H₀ a (.lst ys)) W (upd H a (.lst ys)) σ δ:=by
 have kk:Keep W H (upd H a (.lst ys)):=fun b o e n=>by
  rw [upd_ne (fun z=>n (by rw [z];exact hW))];exact e
 have hw:∀ b,W b→W b∨H b=none:=fun b z=> .inl z
 have fr':FrOk W₀ (upd H₀ a (.lst ys)) W (upd H a (.lst ys)):=by
  refine ⟨fun b o e=> ?_,h.fr.sub,fun b z=> ?_,fun b z=> ?_⟩
  ·by_cases hb:b=a
   ·subst hb;rw [upd_same] at e ⊢;exact e
   ·rw [upd_ne hb] at e ⊢
    exact h.fr.ext b o (by rw [upd_ne hb];exact e)
  ·by_cases hb:b=a
   ·rw [hb];exact ⟨_,upd_same,trivial⟩
   ·rw [upd_ne hb];exact h.fr.wl b z
  ·by_cases hb:b=a
   ·rw [hb];exact ⟨_,upd_same,trivial⟩
   ·have:=h.fr.wl0 b z
    rw [upd_ne hb] at this ⊢;exact this
 have na:∀ (j:Nat) (s:S) (v:V) (b:Addr),δ[j]? =some (some s)→σ[j]? =some (some v)→Owns H s v b→b≠a:=fun j s v b e e' o z=>by
  obtain ⟨v',h1,h2⟩:=h.at' j s e
  rw [e'] at h1;cases h1
  obtain ⟨_,g,_⟩:=h2.owns o
  rw [z,upd_same] at g;cases g
 have bk:∀ (j:Nat) (s:S) (v:V) (b:Addr),δ[j]? =some (some s)→σ[j]? =some (some v)→Owns (upd H a (.lst ys)) s v b→Owns H s v b:=fun j s v b e e' o=>by
  obtain ⟨v',h1,h2⟩:=h.at' j s e
  rw [e'] at h1;cases h1
  refine Owns.back h2 (fun c o ec z y=> ?_) o
  rcases y with ⟨y,_⟩|⟨zs,y⟩
  ·rw [upd_ne (na j _ _ c e e' y)];exact z
  ·rw [upd_ne (fun q=>by rw [q,ha] at z;cases z;cases y)];exact z
 refine ⟨fr',h.len,fun j s e=> ?_,fun i j s t u v b ij e1 e2 e3 e4 o1 o2=>h.ap i j s t u v b ij e1 e2 e3 e4 (bk i s u b e1 e3 o1) (bk j t v b e2 e4 o2)⟩
 obtain ⟨v,h1,h2⟩:=h.at' j s e
 refine ⟨v,h1,?_⟩
 cases s with
 |d x=>exact Has.keep kk h.fr.wl hw h2
 |o ds'=>
  obtain ⟨b,zs,e',g1,g2,g3,g4⟩:=h2
  have hb:b≠a:=fun z=>by
   rw [z,upd_same] at g2;cases g2
  rw [upd_ne hb] at g2
  exact ⟨b,zs,e',g1,by rw [upd_ne hb];exact g2,by rw [upd_ne hb];exact g3,HasL.keep kk h.fr.wl hw g4⟩
 |q ks' ds'=>
  obtain ⟨b,zs,e',g1,g2,g3,g4,g5⟩:=h2
  have hb:b≠a:=fun z=>by
   rw [z,upd_same] at g2;cases g2
  rw [upd_ne hb] at g2
  exact ⟨b,zs,e',g1,by rw [upd_ne hb];exact g2,by rw [upd_ne hb];exact g3,g4,HasL.keep kk h.fr.wl hw g5⟩
 |w dss=>
  obtain ⟨b,bs,e',g1,g2,g3,g4,g5,g6,g7⟩:=h2
  have hb:b≠a:=fun z=>by
   rw [z,upd_same] at g2;cases g2
  rw [upd_ne hb] at g2
  refine ⟨b,bs,e',g1,by rw [upd_ne hb];exact g2,by rw [upd_ne hb];exact g3,g4,g5,g6,fun i c ds e1 e2=> ?_⟩
  obtain ⟨f1,f2,xs',f3,f4⟩:=g7 i c ds e1 e2
  have hc:c≠a:=fun z=>by
   rw [z,upd_same] at f2;cases f2
  rw [upd_ne hc] at f2
  exact ⟨f1,by rw [upd_ne hc];exact f2,xs',by rw [upd_ne hc];exact f3,HasL.keep kk h.fr.wl hw f4⟩
 |k t cs=>
  obtain ⟨b,ob,e',g1,g2,g3,g4,g5,g6⟩:=h2
  have hb:b≠a:=fun z=>by
   by_cases m:TpM t
   ·have:=(g3 m).2
    rw [z,upd_same] at this;cases this
   ·obtain ⟨zs,rfl⟩:=g2.tup m
    rw [z,ha] at g1;cases g1
  refine ⟨b,ob,e',by rw [upd_ne hb];exact g1,g2,fun m=>⟨(g3 m).1,by have:=(g3 m).2;rw [upd_ne hb] at this ⊢;exact this⟩,g4,g5,fun i c x e1 e2=> ?_⟩
  have hc:=g6 i c x e1 e2
  cases c with
  |d y=>exact Has.keep kk h.fr.wl hw hc
  |l ds'=>
   obtain ⟨b,zs,e',g1,g2,g3,g4⟩:=hc
   have hb:b≠a:=fun z=>by
    rw [z,upd_same] at g2;cases g2
   rw [upd_ne hb] at g2
   exact ⟨b,zs,e',g1,by rw [upd_ne hb];exact g2,by rw [upd_ne hb];exact g3,HasL.keep kk h.fr.wl hw g4⟩
  |q ks' ds'=>
   obtain ⟨b,zs,e',g1,g2,g3,g4,g5⟩:=hc
   have hb:b≠a:=fun z=>by
    rw [z,upd_same] at g2;cases g2
   rw [upd_ne hb] at g2
   exact ⟨b,zs,e',g1,by rw [upd_ne hb];exact g2,by rw [upd_ne hb];exact g3,g4,HasL.keep kk h.fr.wl hw g5⟩
theorem StHas.block (n:Nat) (h:StHas K W₀ H₀ W H σ δ) (ha:H a=none):StHas K W₀ (upd H₀ a (.lst [])) (fun b=>W b∨b=a) (upd H a (.lst [])) (List.replicate n none++σ) (List.replicate n none++δ):=by
 have hw:∀ b,(W b∨b=a)→W b∨H b=none:=fun b z=>z.elim .inl fun z=> .inr (by rw [z];exact ha)
 have k:Same H (upd H a (.lst [])):=same_upd ha
 have kk:Keep W H (upd H a (.lst [])):=Same.keep k
 have ha0:H₀ a=none:=Same.free h.fr.ext ha
 have fr':FrOk W₀ (upd H₀ a (.lst [])) (fun b=>W b∨b=a) (upd H a (.lst [])):=by
  refine ⟨fun b o e=> ?_,fun b z=> .inl (h.fr.sub b z),fun b z=>z.elim (h.fr.wl.same k b) fun z=>by rw [z];exact ⟨_,upd_same,trivial⟩,h.fr.wl0.same (same_upd ha0)⟩
  by_cases hb:b=a
  ·subst hb;rw [upd_same] at e ⊢;exact e
  ·rw [upd_ne hb] at e ⊢
   exact h.fr.ext b o e
 have idx:∀ {α:Type} (l:List (Option α)) (j:Nat) (x:α),(List.replicate n none++l)[j]? =some (some x)→n≤j∧l[j-n]? =some (some x):=fun l j x e=>by
  by_cases hj:j<n
  ·rw [List.getElem?_append_left (by simpa using hj),List.getElem?_replicate] at e
   split at e<;>cases e
  ·refine ⟨Nat.le_of_not_lt hj,?_⟩
   rw [List.getElem?_append_right (by simpa using hj),List.length_replicate] at e;exact e
 have back:∀ {α:Type} (l:List (Option α)) (j:Nat) (x:Option α),n≤j→l[j-n]? =some x→(List.replicate n none++l)[j]? =some x:=fun l j x hj e=>by
  rw [List.getElem?_append_right (by simpa using hj),List.length_replicate];exact e
 refine ⟨fr',by simp [h.len],fun j s e=> ?_,fun i j s1 s2 u u' b hij e1 e2 e3 e4 os ot=> ?_⟩
 ·obtain ⟨hj,e⟩:=idx _ _ _ e
  obtain ⟨v,h1,h2⟩:=h.at' _ s e
  refine ⟨v,back _ _ _ hj h1,?_⟩
  cases s with
  |d x=>exact Has.keep kk h.fr.wl hw h2
  |o ds'=>
   obtain ⟨b,ys,e',g1,g2,g3,g4⟩:=h2
   have hb:b≠a:=ne_of_none g3 ha
   exact ⟨b,ys,e', .inl g1,by rw [upd_ne hb];exact g2,k _ _ g3,HasL.keep kk h.fr.wl hw g4⟩
  |q ks' ds'=>
   obtain ⟨b,ys,e',g1,g2,g3,g4,g5⟩:=h2
   have hb:b≠a:=ne_of_none g3 ha
   exact ⟨b,ys,e', .inl g1,by rw [upd_ne hb];exact g2,k _ _ g3,g4,HasL.keep kk h.fr.wl hw g5⟩
  |w dss=>
   obtain ⟨b,bs,e',g1,g2,g3,g4,g5,g6,g7⟩:=h2
   have hb:b≠a:=ne_of_none g3 ha
   refine ⟨b,bs,e', .inl g1,by rw [upd_ne hb];exact g2,k _ _ g3,g4,g5,g6,fun i c ds e1 e2=> ?_⟩
   obtain ⟨f1,f2,xs',f3,f4⟩:=g7 i c ds e1 e2
   have hc:c≠a:=ne_of_none f3 ha
   exact ⟨.inl f1,by rw [upd_ne hc];exact f2,xs',k _ _ f3,HasL.keep kk h.fr.wl hw f4⟩
  |k t cs=>
   obtain ⟨b,ob,e',g1,g2,g3,g4,g5,g6⟩:=h2
   have hb:b≠a:=ne_of_none g1 ha
   refine ⟨b,ob,e',k _ _ g1,g2,fun m=>⟨.inl (g3 m).1,by rw [upd_ne hb];exact (g3 m).2⟩,g4,g5,fun i c x e1 e2=> ?_⟩
   have hc:=g6 i c x e1 e2
   cases c with
   |d y=>exact Has.keep kk h.fr.wl hw hc
   |l ds'=>
    obtain ⟨b,ys,e',g1,g2,g3,g4⟩:=hc
    have hb:b≠a:=ne_of_none g3 ha
    exact ⟨b,ys,e', .inl g1,by rw [upd_ne hb];exact g2,k _ _ g3,HasL.keep kk h.fr.wl hw g4⟩
   |q ks' ds'=>
    obtain ⟨b,ys,e',g1,g2,g3,g4,g5⟩:=hc
    have hb:b≠a:=ne_of_none g3 ha
    exact ⟨b,ys,e', .inl g1,by rw [upd_ne hb];exact g2,k _ _ g3,g4,HasL.keep kk h.fr.wl hw g5⟩
 ·obtain ⟨hi,e1⟩:=idx _ _ _ e1
  obtain ⟨hj,e2⟩:=idx _ _ _ e2
  obtain ⟨_,e3⟩:=idx _ _ _ e3
  obtain ⟨_,e4⟩:=idx _ _ _ e4
  have bk:∀ (j:Nat) (s:S) (v:V),δ[j]? =some (some s)→σ[j]? =some (some v)→Owns _ s v b→Owns H s v b:=fun j s v e e' o=>by
   obtain ⟨v',h1,h2⟩:=h.at' j s e
   rw [e'] at h1;cases h1
   exact Owns.back h2 (fun c o _ z _=>k _ _ z) o
  exact h.ap (i-n) (j-n) s1 s2 u u' b (by omega) e1 e2 e3 e4 (bk _ _ _ e1 e3 os) (bk _ _ _ e2 e4 ot)
end
section
variable {X:Cx} {xw:XW} {scope:Scope} {elt tg iter e:Expr} {ifs:List Expr} {pos:Pos} {fi:DSt→Res (List D)} {t:D→DSt→Res DSt} {gc:DSt→Res Bool} {fe f:DSt→Res D}
noncomputable def compR (n:Nat) (t:D→DSt→Res DSt) (gc:DSt→Res Bool) (fe:DSt→Res D) (δ:DSt) (ds:List D):Res (List D):=@ite (Res (List D)) (ds.length≤100000) (Classical.propDecidable _) (noex (compD t gc fe ds (List.replicate n none++δ))) .stuck
def DTs (X:Cx) (ifs:List Expr) (g:DSt→Res Bool):Prop:=PTs X ifs (tDT X.K xwF g)
theorem dts_nil:DTs X [] (fun _=> .ok true):=fun pins s σ H Q I ⟨_,_,_,_,_,q⟩=>pts_nil pins s σ H Q I (q H (Same.refl H))
theorem comp_read {Nc:Nat} {σ:L2.St} {H:Hp} {Q:VK} (q:tDF X.K xw (fun δ=>(fi δ).bind fun ds=>compR Nc t gc fe δ ds) σ H Q):
  tComp Nc (tDI X.K xw fi) (tDG X.K t) (tDT X.K xwF gc) (tDE X.K xwF fe) σ H Q:=by
 obtain ⟨W₀,H₀,W,δ,st,q⟩:=q
 refine ⟨W₀,H₀,W,δ,st,?_⟩
 dsimp only at q
 cases h1:fi δ with
 |stuck=>rw [h1] at q;exact q
 |ex c fs=>rw [h1] at q;exact q
 |ok ds=>
  rw [h1] at q
  intro J H1 k1 it a ha
  have q1:RF X.K xw W H (compR Nc t gc fe δ ds) Q:=q
  unfold compR at q1
  split at q1
  case isFalse=>exact q1.elim
  rename_i hlen
  have st1:=st.same k1
  cases hc:compD t gc fe ds (List.replicate Nc none++δ) with
  |stuck=>rw [hc] at q1;exact q1.elim
  |ex c fs=>rw [hc] at q1;exact q1.elim
  |ok all=>
  rw [hc] at q1
  have q2:∀ a xs H1,Same H H1→H1 a=none→HasL X.K W H1 all xs→Q (.ref a) (upd H1 a (.lst xs)):=q1
  refine ⟨fun i m xs σ' H'=>∃ δ' acc rest,m=ds.length-i∧i≤ds.length∧StHas X.K W₀ (upd H₀ a (.lst xs)) (fun b=>W b∨b=a) H' σ' δ'∧H' a=some (.lst xs)∧(∀ b o,H1 b=some o→H' b=some o)∧
    HasL X.K (fun b=>W b∨b=a) H' acc xs∧compD t gc fe (ds.drop i) δ'= .ok rest∧acc++rest=all∧xs.length≤i,
   ⟨_,List.replicate Nc none++δ,[],all,rfl,Nat.zero_le _,st1.block Nc ha,upd_same,fun b o e=>by rw [upd_ne (ne_of_none e ha)];exact e,HasL.nil,hc,rfl,Nat.zero_le _⟩,?_⟩
  rintro i m xs σ' H' ⟨δ',acc,rest,rfl,hi,st',hxs,ks,hacc,hrest,hall,hxl⟩
  refine ⟨hxs,?_⟩
  have k':Step W H1 (fun b=>W b∨b=a) H':=⟨fun b o e _=>ks b o e,fun b z=>z.elim .inl fun z=> .inr (by rw [z];exact ha)⟩
  obtain ⟨items,stop⟩:=it _ H' k' st'.fr.wl
  by_cases hl:i<ds.length
  ·right
   have e:ds[i]? =some ds[i]:=List.getElem?_eq_getElem hl
   obtain ⟨go,yld⟩:=items i _ e
   have ed:ds.drop i=ds[i]::ds.drop (i+1):=List.drop_eq_getElem_cons hl
   rw [ed] at hrest
   unfold compD at hrest
   refine ⟨go,fun x H3 z=> ?_⟩
   obtain ⟨k3,hx⟩:=yld x H3 z
   refine ⟨W₀,_,_,δ',ds[i],st'.same k3,hx,?_⟩
   cases h2:t ds[i] δ' with
   |stuck=>rw [h2] at hrest;cases hrest
   |ex c fs=>rw [h2] at hrest;cases hrest
   |ok δ2=>
    rw [h2] at hrest
    dsimp only at hrest
    intro σ2 st2
    refine ⟨W₀,_,_,δ2,st2,?_⟩
    cases h3:gc δ2 with
    |stuck=>rw [h3] at hrest;cases hrest
    |ex c fs=>rw [h3] at hrest;cases hrest
    |ok k=>
     rw [h3] at hrest
     intro H4 k4
     cases k with
     |false=>
      rw [if_neg Bool.false_ne_true]
      have hr':compD t gc fe (ds.drop (i+1)) δ2= .ok rest:=hrest
      exact ⟨ds.length-(i+1),by omega,δ2,acc,rest,rfl,hl,st2.same k4,k4 _ _ (k3 _ _ hxs),fun b o e=>k4 _ _ (k3 _ _ (ks b o e)),(hacc.same k3 st'.fr.wl).same k4 (st'.fr.wl.same k3),hr',hall,by omega⟩
     |true=>
      rw [if_pos rfl]
      have hr':(noex (fe δ2)).bind (fun x=>(compD t gc fe (ds.drop (i+1)) δ2).bind fun r=> .ok (x::r))= .ok rest:=hrest
      refine ⟨W₀,_,_,δ2,st2.same k4,?_⟩
      cases h5:fe δ2 with
      |stuck=>rw [h5] at hr';cases hr'
      |ex c fs=>rw [h5] at hr';cases hr'
      |ok y=>
       rw [h5] at hr'
       intro v H5 k5 hv
       have hr2:(compD t gc fe (ds.drop (i+1)) δ2).bind (fun r=> .ok (y::r))= .ok rest:=hr'
       cases h6:compD t gc fe (ds.drop (i+1)) δ2 with
       |stuck=>rw [h6] at hr2;cases hr2
       |ex c fs=>rw [h6] at hr2;cases hr2
       |ok r=>
        rw [h6] at hr2
        have er:y::r=rest:=by cases hr2;rfl
        have h5a:H5 a=some (.lst xs):=k5 _ _ (k4 _ _ (k3 _ _ hxs))
        have w3:=st'.fr.wl.same k3
        have w4:=w3.same k4
        have w5:=w4.same k5
        have acc5:=((hacc.same k3 st'.fr.wl).same k4 w3).same k5 w4
        have kk:Keep (fun b=>W b∨b=a) H5 (upd H5 a (.lst (xs++ [v]))):=fun b o e n=>by
         rw [upd_ne (fun z=>n (.inr z))];exact e
        have sz:sizeLine=16777216:=sizeLine_eq
        refine ⟨h5a,by omega,ds.length-(i+1),by omega,δ2,acc++ [y],r,rfl,hl,((st2.same k4).same k5).acc h5a (.inr rfl),upd_same,fun b o e=> ?_,HasL.keep kk w5 (fun b z=> .inl z) (acc5.snoc hv),h6,?_,?_⟩
        ·rw [upd_ne (ne_of_none e ha)];exact k5 _ _ (k4 _ _ (k3 _ _ (ks b o e)))
        ·rw [List.append_assoc];show acc++(y::r)=all;rw [er];exact hall
        ·rw [List.length_append,List.length_singleton];omega
  ·left
   have ei:i=ds.length:=by omega
   subst ei
   rw [List.drop_length] at hrest
   unfold compD at hrest
   have er:rest= []:=by cases hrest;rfl
   subst er
   rw [List.append_nil] at hall
   subst hall
   refine ⟨stop,?_⟩
   have hm:(fun b=>if b=a then none else H' b:Hp) a=none:=if_pos rfl
   have eu:upd (fun b=>if b=a then none else H' b:Hp) a (.lst xs)=H':=by
    funext b
    by_cases hb:b=a
    ·rw [hb,upd_same,hxs]
    ·rw [upd_ne hb,if_neg hb]
   have r:=q2 a xs (fun b=>if b=a then none else H' b) (fun b o e=>by
    have e1:=k1 b o e
    show (if b=a then none else H' b)=some o
    rw [if_neg (ne_of_none e1 ha)];exact ks b o e1) hm (HasL.keep (W:=fun b=>W b∨b=a) (W':=W) (fun b o e n=>by show (if b=a then none else H' b)=some o;rw [if_neg (fun z=>n (.inr z))];exact e) st'.fr.wl (fun b z=> .inl (.inl z)) hacc)
   rw [eu] at r
   exact r
theorem df_comp (Nc Nx:List Str) (c:CompOk X scope Nc Nx) (hcalm:X.calm=true) (hi:DI X xw tg iter fi)
  (hY:∀ (C:Addr) (fp:List Addr) (pins:List (Addr×Obj)) (s:Shared) (H:Hp),DG (compCx X scope Nc Nx C fp pins s H) tg t∧DTs (compCx X scope Nc Nx C fp pins s H) ifs gc∧DE (compCx X scope Nc Nx C fp pins s H) xwF elt fe)
  (hs:∀ x,foldedSetIterable iter X.env x=pure x:=by intro _;rfl):
  DF X xw (.ListComp elt [⟨tg,iter,ifs,0⟩] scope pos) (fun δ=>(fi δ).bind fun ds=>compR Nc.length t gc fe δ ds):=
 PE.weak (pe_comp (g:=tDG X.K t) (tt:=tDT X.K xwF gc) (te:=tDE X.K xwF fe) c hcalm hi hY hs) fun σ H Q q=>comp_read q
noncomputable def appO (i:Nat) (δ:DSt) (r:Res D):Out:=match δ[i]? with
 |some (some (.o ds))=>@ite Out (ds.length≤100000) (Classical.propDecidable _) (ofR r fun d=> .nx (δ.set i (some (.o (ds++ [d]))))) .stuck
 |_=> .stuck
theorem ds_append (i:Nat) {x:Str} {p1 p2 p3:Pos} (he:DE X xw e f) (hN:X.N[i]? =some x:=by rfl) (hv:Vis X.env.scope x:=by first|exact Or.inl rfl|exact Or.inr (Or.inl rfl)|exact Or.inr (Or.inr rfl)) (hd:(x==("__debug__":Str))=false:=by decide)
  (hcd:(x==("__classdict__":Str))=false:=by decide)
  (hsE:starEach [e] X.env=(false,eval e X.env)::starEach [] X.env:=by rfl)
  (hbase:attributeBase (.Name x p1) "append" X.env (eval (.Name x p1) X.env)=eval (.Name x p1) X.env:=by rfl)
  (hfew:((backTo p3 (starEach [e] X.env)).all (fun x=> !x.1)&&(backToKw p3 (keywordEach [] X.env)).all (fun x=>x.1.isSome)
   &&decide (([e]:List Expr).length+([]:List Keyword).length+(if ([]:List Keyword).isEmpty then 0 else 1)<30))=true:=by rfl)
  (hline:(p2.endLine==p3.line)=true:=by rfl) (hplain:(backTo p3 (starEach [] X.env)).any (·.1)=false:=by rfl)
  (hsw:swapsWith (.Call (.Attribute (.Name x p1) "append" p2) [e] [] p3) none pos.line X.env=pure false:=by rfl):
  DS X xw (.Expr (.Call (.Attribute (.Name x p1) "append" p2) [e] [] p3) pos) (fun δ=>appO i δ (f δ)):=
 PS.weak (ps_expr (pe_bm PySem.F.plainAttrs_list PySem.F.slot_list_append PySem.F.type_list_append mt_append (pe_var hN hv hd hcd) (pa_cons he pa_nil hsE) hbase hfew hline hsE hplain) hsw) fun Dn σ H ⟨W₀,H₀,W,δ,st,q⟩=>by
  unfold appO at q
  dsimp only at q
  split at q
  ·rename_i ds h
   split at q
   ·rename_i hlen
    obtain ⟨v,e1,a,xs,rfl,r2,r3,r4,r5⟩:=st.at' i _ h
    refine ⟨_,e1, .inl ⟨rfl,xs, .of r4⟩,?_⟩
    refine val_read st q fun H2 d u st2 hu q2=> ?_
    obtain ⟨v',e1',a',ys,e',r2',r3',r4',r5'⟩:=st2.at' i _ h
    rw [e1] at e1'
    cases e1'
    cases e'
    have sz:sizeLine=16777216:=sizeLine_eq
    refine ⟨a,ys,u,rfl,rfl,r4',?_,?_⟩
    ·rw [←r5'.length];omega
    ·refine q2 W _ σ ⟨fun b o e n=> ?_,fun _ z=> .inl z⟩ (st2.change h e1 r4' r2' (r5'.snoc hu))
     rw [upd_ne (fun z=>n (by rw [z];exact r2'))];exact e
   ·exact q.elim
  ·exact q.elim
def spD (K:PySem.W.Frag) (n:Nat) (m:List D→Res D):Sp:=fun vs H Q _=>vs.length=n∧∃ W ds,WL W H∧HasL K W H ds vs∧match m ds with
 | .ok d=>∀ v H',Same H H'→Has K W H' d v→Q v H'
 |_=>False
structure Fn (P:Program) (w:World) (K:PySem.W.Frag) (mg:Str→Option Value) (base:Heap) (k:Nat) (x:Str) (n:Nat) (m:List D→Res D):Prop where
 ex:∃ f fd ps,FnOk P w K mg base CX0 k f fd ps (spD K n m)∧mg x=some (.ref f)∧PySem.W.keepIn K (.ref f)=true∧Binds K fd ps []
theorem Fn.mono {P:Program} {w:World} {K:PySem.W.Frag} {mg:Str→Option Value} {base:Heap} {j k n:Nat} {x:Str} {m:List D→Res D} (F:Fn P w K mg base j x n m) (h:j≤k):Fn P w K mg base k x n m:=by
 obtain ⟨f,fd,ps,a,b⟩:=F.ex
 exact ⟨f,fd,ps,a.mono h,b⟩
def startD (n:Nat) (ds:List D):DSt:=ds.map (fun d=>some (.d d))++List.replicate (n-ds.length) none
def runD (n:Nat) (g:DSt→Out) (ds:List D):Res D:=match g (startD n ds) with
 | .rt d=> .ok d
 | .nx _=> .ok .non
 |_=> .stuck
theorem start_has {K:PySem.W.Frag} {W:WS} {H:Hp} {N:List Str} {ds:List D} {vs:List V} (w:WL W H) (r:HasL K W H ds vs):StHas K W H W H (L2.start N vs) (startD N.length ds):=by
 have hl:=r.length
 have idx:∀ {α:Type} (l:List α) (j:Nat) (x:α) (m:Nat),(l.map some++List.replicate m none)[j]? =some (some x)→l[j]? =some x:=fun l j x m e=>by
  by_cases hj:j<l.length
  ·rw [List.getElem?_append_left (by simpa using hj),List.getElem?_map] at e
   cases q:l[j]? with
   |none=>rw [q] at e;cases e
   |some z=>rw [q] at e;cases e;rfl
  ·rw [List.getElem?_append_right (by simpa using hj),List.getElem?_replicate] at e
   split at e<;>cases e
 have eS:startD N.length ds=(ds.map S.d).map some++List.replicate (N.length-ds.length) none:=by
  unfold startD;rw [List.map_map];rfl
 refine ⟨⟨Same.refl _,fun _ z=>z,w,w⟩,?_,fun i s e=> ?_,fun i j s1 s2 u u' a _ e1 _ _ _ os _=> ?_⟩
 ·unfold L2.start startD;simp [hl]
 ·rw [eS] at e
  have e':=idx _ _ _ _ e
  rw [List.getElem?_map] at e'
  cases q:ds[i]? with
  |none=>rw [q] at e';cases e'
  |some d=>
   rw [q] at e'
   cases e'
   obtain ⟨x,h1,h2⟩:=r.get q
   refine ⟨x,?_,h2⟩
   unfold L2.start
   have hi:i<vs.length:=(List.getElem?_eq_some_iff.mp h1).1
   rw [List.getElem?_append_left (by simpa using hi),List.getElem?_map,h1];rfl
 ·rw [eS] at e1
  have e':=idx _ _ _ _ e1
  rw [List.getElem?_map] at e'
  cases q:ds[i]? with
  |none=>rw [q] at e';cases e'
  |some d=>rw [q] at e';cases e';exact os
theorem fn_body {P:Program} {w:World} {K:PySem.W.Frag} {mg:Str→Option Value} {base:Heap} {k:Nat} {x qual:Str} {st:Stmt} {fa:Addr} {fd:FuncData} {N ps:List Str} {g:DSt→Out} (F:Fun K x qual st fa fd) (S:FnScope N ps (defScope st))
  (hm:mg x=some (.ref fa)) (hb:Binds K fd ps [])
  (body:∀ (cdv:Value) (A:Around) (outer:List Env) (s:Shared) (H:Hp) (E:XK),Room k (A.deeper (envOfC qual (defScope st) s.heap.objs.size fa cdv))→
   DSs (cxOf CX0 P w K mg base N qual (defScope st) fa cdv A outer s H E).nox xwF (defBody st) g):Fn P w K mg base (k+1) x ps.length (runD N.length g):=by
 refine ⟨fa,fd,ps,F.ok S (fun vs H Q E h=>h.1) (fun cdv A outer s H vs Q E hr h=> ?_),hm,F.kp,hb⟩
 obtain ⟨hl,W,ds,hw,hd,q⟩:=h
 refine ⟨_,body cdv A outer s H E hr,W,H,W,startD N.length ds,start_has hw hd,?_⟩
 unfold runD at q
 cases h:g (startD N.length ds) with
 |rt d=>rw [h] at q;exact fun v H' k hv=>q v H' k hv
 |nx δ=>rw [h] at q;exact fun W' H' σ' k st'=>q .non H' st'.fr.ext (by rw [Has])
 |bk δ=>rw [h] at q;exact q.elim
 |ct δ=>rw [h] at q;exact q.elim
 |ex c fs=>rw [h] at q;exact q.elim
 |stuck=>rw [h] at q;exact q.elim
def callR (n:Nat) (m:List D→Res D) (ds:List D):Res D:=if ds.length=n then noex (m ds) else .stuck
theorem de_call {a:Expr} {es:List Expr} {k n:Nat} {x:Str} {m:List D→Res D} {fs:DSt→Res (List D)} {p:Pos} (F:Fn X.prog X.w X.K X.mg X.base k x n m) (hr:Room k X.A) (ha:DA X xw (a::es) fs) (hg:Gl X x:=by rfl)
  (hdb:(x==("__debug__":Str))=false:=by decide) (he:starEach (a::es) X.env=(false,eval a X.env)::starEach es X.env:=by rfl) (hpl:(backTo pos (starEach es X.env)).any (·.1)=false:=by rfl):
  DE X xw (.Call (.Name x p) (a::es) [] pos) (fun δ=>(fs δ).bind fun ds=>callR n m ds):=by
 obtain ⟨fa,fd,ps,G,hm,hk,hb⟩:=F.ex
 refine PE.weak (pe_call G hr hg hm hk hb .nil pass0 ha hdb he hpl) fun σ H Q ⟨W₀,H₀,W,δ,st,q⟩=> ?_
 refine args_read st q fun H2 ds vs k w st2 hv _ q2=> ?_
 unfold callR at q2
 split at q2
 ·rename_i hn
  rw [List.append_nil]
  refine ⟨by rw [←hv.length];exact hn,W,ds,w,hv,?_⟩
  cases h:m ds with
  |ok d=>rw [h] at q2;exact q2
  |ex c fs=>rw [h] at q2;exact q2
  |stuck=>rw [h] at q2;exact q2
 ·exact q2.elim
theorem de_callB1 {a:Expr} {fa:DSt→Res D} {x:Str} {id:String} {r:List V→Hp→VK→Prop} {op:D→Res D} {p:Pos} (hc:CallR X (.builtin id) r) (hop:∀ W H d v Q,WL W H→HasT X.K W H d v→RE X.K xw W H (op d) Q→r [v] H Q)
  (hm:X.mg x=none) (hv:bootBuiltins x=some (.builtin id)) (ha:DP X xw a fa) (hg:Gl X x) (hn:x≠"__name__") (hdb:(x==("__debug__":Str))=false)
  (he:starEach [a] X.env=(false,eval a X.env)::starEach [] X.env) (hpl:(backTo pos (starEach [] X.env)).any (·.1)=false):DE X xw (.Call (.Name x p) [a] [] pos) (fun δ=>(fa δ).bind op):=
 PE.weak (pe_callB hc hg hm hv (pa_cons ha pa_nil he) hn hdb he hpl) fun σ H Q ⟨W₀,H₀,W,δ,st,q⟩=>one_read st q fun H2 d v k w st2 hv _ q2=>hop W H2 d v Q w hv q2
theorem de_callT1 {a:Expr} {fa:DSt→Res D} {x:Str} {id:String} {r:List V→Hp→VK→Prop} {op:D→Res D} {p:Pos} (hc:CallR X (.type id) r) (hop:∀ W H d v Q,WL W H→HasT X.K W H d v→RE X.K xw W H (op d) Q→r [v] H Q)
  (hm:X.mg x=none) (hv:bootBuiltins x=some (.type id)) (ha:DP X xw a fa) (hg:Gl X x) (hn:x≠"__name__") (hdb:(x==("__debug__":Str))=false)
  (he:starEach [a] X.env=(false,eval a X.env)::starEach [] X.env) (hpl:(backTo pos (starEach [] X.env)).any (·.1)=false):DE X xw (.Call (.Name x p) [a] [] pos) (fun δ=>(fa δ).bind op):=
 PE.weak (pe_callTy hc hg hm hv (pa_cons ha pa_nil he) hn hdb he hpl) fun σ H Q ⟨W₀,H₀,W,δ,st,q⟩=>one_read st q fun H2 d v k w st2 hv _ q2=>hop W H2 d v Q w hv q2
noncomputable def lenR:D→Res D
 | .tup ds=> .ok (.int ds.length)
 | .lst ds=> .ok (.int ds.length)
 | .str z=>@ite (Res D) (z.length≤sizeLine) (Classical.propDecidable _) (.ok (.int z.length)) .stuck
 |_=> .stuck
variable {a b:Expr} {fa fb:DSt→Res D} {p:Pos}
theorem de_len (hm:X.mg "len"=none) (ha:DP X xw a fa) (hg:Gl X "len":=by rfl) (he:starEach [a] X.env=(false,eval a X.env)::starEach [] X.env:=by rfl) (hpl:(backTo pos (starEach [] X.env)).any (·.1)=false:=by rfl):
  DE X xw (.Call (.Name "len" p) [a] [] pos) (fun δ=>(fa δ).bind lenR):=
 de_callB1 call_len (fun W H d v Q w hv q=>by
  unfold lenR at q
  split at q
  ·obtain ⟨p,xs,e,sq,r⟩:=hv.tup
   rw [e]
   exact ⟨_,xs.length,rfl, .inr ⟨xs,sq,rfl⟩,by rw [←r.length];exact q.int⟩
  ·obtain ⟨p,xs,e,sq,r⟩:=hv.lst
   rw [e]
   exact ⟨_,xs.length,rfl, .inl ⟨xs,sq,rfl⟩,by rw [←r.length];exact q.int⟩
  ·split at q
   ·rename_i hz
    rw [hv.str]
    exact ⟨_,_,rfl,⟨hz,rfl⟩,q.int⟩
   ·exact q.elim
  ·exact q.elim) hm PySem.boot_len ha hg (by decide) (by decide) he hpl
def tyD:D→Option String
 | .non=>some "NoneType"
 | .bl _=>some "bool"
 | .int _=>some "int"
 | .str _=>some "str"
 | .tup _=>some "tuple"
 | .lst _=>some "list"
 | .dct _ _=>some "dict"
 | .exc _ _=>none
 | .obj _ _ _=>none
def isiB (T C:String):Bool:=T==C||(T=="bool"&&C=="int")
def isiR (C:String) (d:D):Res D:=match tyD d with
 |some T=> .ok (.bl (isiB T C))
 |none=> .stuck
def isiOk (C:String):Prop:=∀ (K:PySem.W.Frag),∀ T∈ ["NoneType","bool","int","str","tuple","list","dict"],PySem.W.kitOne K (.type T) (.type C)=some (isiB T C)
theorem isi_int:isiOk "int":=by intro K T hT;simp only [List.mem_cons,List.not_mem_nil,or_false] at hT;rcases hT with rfl|rfl|rfl|rfl|rfl|rfl|rfl<;>kernel_rfl
theorem isi_bool:isiOk "bool":=by intro K T hT;simp only [List.mem_cons,List.not_mem_nil,or_false] at hT;rcases hT with rfl|rfl|rfl|rfl|rfl|rfl|rfl<;>kernel_rfl
theorem isi_str:isiOk "str":=by intro K T hT;simp only [List.mem_cons,List.not_mem_nil,or_false] at hT;rcases hT with rfl|rfl|rfl|rfl|rfl|rfl|rfl<;>kernel_rfl
theorem isi_tuple:isiOk "tuple":=by intro K T hT;simp only [List.mem_cons,List.not_mem_nil,or_false] at hT;rcases hT with rfl|rfl|rfl|rfl|rfl|rfl|rfl<;>kernel_rfl
theorem isi_list:isiOk "list":=by intro K T hT;simp only [List.mem_cons,List.not_mem_nil,or_false] at hT;rcases hT with rfl|rfl|rfl|rfl|rfl|rfl|rfl<;>kernel_rfl
theorem call_isi {C:String} (hC:isiOk C):CallR X (.builtin "isinstance") (fun xs H Q=>∃ W d x T,xs= [x, .ty C]∧HasT X.K W H d x∧tyD d=some T∧Q (.bl (isiB T C)) H):=by
 intro pins s σ H xs us Q I r h
 obtain ⟨W,d,x,T,rfl,hd,ht,q⟩:=h
 obtain ⟨u,u2,rfl,rx,rc⟩:=r.two
 obtain rfl:u2=Value.type C:=rc
 have hk:=hC X.K T (by cases d<;>cases ht<;>simp)
 have fin:∀ tk,EP X pins σ Q (.bool (isiB T C)) {s with toks:=tk}:=fun tk=>⟨.bl _,H,I.tok tk,rfl,q⟩
 cases d with
 |non=>
  cases ht
  have:=hd.non;subst this
  cases (show u=Value.none from rx)
  exact PySem.W.kia_one PySem.W.kitx_none I.kIn True.intro hk (fun z=>nomatch z) fin
 |bl b=>
  cases ht
  have:=hd.bl;subst this
  cases (show u=Value.bool b from rx)
  exact PySem.W.kia_one PySem.W.kitx_bool I.kIn True.intro hk (fun z=>nomatch z) fin
 |int b=>
  cases ht
  have:=hd.int;subst this
  obtain ⟨t,rfl⟩:=(show ∃ t,u=Value.int b t from rx)
  exact PySem.W.kia_one PySem.W.kitx_int I.kIn True.intro hk (fun z=>nomatch z) fin
 |str b=>
  cases ht
  have:=hd.str;subst this
  obtain ⟨t,rfl⟩:=(show ∃ t,u=Value.str b t from rx)
  exact PySem.W.kia_one PySem.W.kitx_str I.kIn True.intro hk (fun z=>nomatch z) fin
 |tup ds=>
  cases ht
  obtain ⟨a,xs,rfl,sq,_⟩:=hd.tup
  cases (show u=Value.ref a from rx)
  obtain ⟨its,_,⟨o,h1,h2,_⟩,_⟩:=I.tuple sq
  exact PySem.W.kia_one PySem.W.kitx_tuple I.kIn ⟨o,h1,h2⟩ hk (fun z=>nomatch z) fin
 |lst ds=>
  cases ht
  obtain ⟨a,xs,rfl,sq,_⟩:=hd.lst
  cases (show u=Value.ref a from rx)
  obtain ⟨its,_,⟨o,n,h1,h2,_⟩,_⟩:=I.list sq
  exact PySem.W.kia_one PySem.W.kitx_list I.kIn ⟨o,h1,h2⟩ hk (fun z=>nomatch z) fin
 |dct ks ds=>
  cases ht
  rcases hd with hd|⟨_,_,_,z,_⟩
  ·rw [Has] at hd
   obtain ⟨a,kvs,rfl,⟨ob,ea⟩,_⟩:=hd
   cases (show u=Value.ref a from rx)
   obtain ⟨_,_,_,vs,_,p⟩:=(show ObjOk X.prog X.w H s.heap a (.frz ob (.dK kvs)) from I.hok a _ ea)
   obtain ⟨o,es,ep,h1,h2,_⟩:=p
   exact PySem.W.kia_one PySem.W.kitx_dict I.kIn ⟨o,h1,h2.1⟩ hk (fun z=>nomatch z) fin
  ·cases z
 |exc c ds=>cases ht
 |obj c k ds=>cases ht
theorem de_isi {C:String} {c:Str} {p2:Pos} (hC:isiOk C) (hbc:bootBuiltins c=some (.type C)) (hm:X.mg "isinstance"=none) (hmc:X.mg c=none) (ha:DP X xw a fa) (hg:Gl X "isinstance":=by rfl) (hgc:Gl X c:=by rfl) (hcn:c≠"__name__":=by decide)
  (hcd:(c==("__debug__":Str))=false:=by decide)
  (he:starEach [a, .Name c p2] X.env=(false,eval a X.env)::starEach [.Name c p2] X.env:=by rfl) (he2:starEach [.Name c p2] X.env=(false,eval (.Name c p2) X.env)::starEach [] X.env:=by rfl)
  (hpl:(backTo pos (starEach [.Name c p2] X.env)).any (·.1)=false:=by rfl):
  DE X xw (.Call (.Name "isinstance" p) [a, .Name c p2] [] pos) (fun δ=>(fa δ).bind (isiR C)):=
 PE.weak (pe_callB (call_isi hC) hg hm (by decide +kernel) (pa_cons ha (pa_cons (pe_bltn (v:= .ty C) hgc hmc hbc rfl hcn hcd) pa_nil he2) he) (by decide) (by decide) he hpl) fun σ H Q ⟨W₀,H₀,W,δ,st,q⟩=>one_read st q fun H2 d v k w st2 hv _ q2=>by
  unfold isiR at q2
  split at q2
  ·rename_i T hT
   exact ⟨W,d,v,T,rfl,hv,hT,q2.bl⟩
  ·exact q2.elim
def asBools:List D→Option (List Bool)
 | []=>some []
 | .bl b::r=>(asBools r).map (b:: ·)
 |_=>none
def allR:D→Res D
 | .lst ds=>match asBools ds with
  |some bs=> .ok (.bl (bs.all id))
  |none=> .stuck
 |_=> .stuck
theorem asBools_get:∀ {ds:List D} {bs:List Bool} {i:Nat} {d:D},asBools ds=some bs→ds[i]? =some d→∃ b,d= .bl b∧bs[i]? =some b
 | [],_,_,_,_,e=>by simp at e
 | .bl b::r,bs,i,d,h,e=>by
  rw [asBools] at h
  obtain ⟨bs',h1,rfl⟩:=Option.map_eq_some_iff.mp h
  cases i with
  |zero=>simp at e;subst e;exact ⟨b,rfl,rfl⟩
  |succ i=>
   obtain ⟨b',e1,e2⟩:=asBools_get h1 (by simpa using e)
   exact ⟨b',e1,by simpa using e2⟩
 | .non::_,_,_,_,h,_=>by simp [asBools] at h
 | .int _::_,_,_,_,h,_=>by simp [asBools] at h
 | .str _::_,_,_,_,h,_=>by simp [asBools] at h
 | .tup _::_,_,_,_,h,_=>by simp [asBools] at h
 | .lst _::_,_,_,_,h,_=>by simp [asBools] at h
 | .dct _ _::_,_,_,_,h,_=>by simp [asBools] at h
 | .exc _ _::_,_,_,_,h,_=>by simp [asBools] at h
 | .obj _ _ _::_,_,_,_,h,_=>by simp [asBools] at h
theorem asBools_len:∀ {ds:List D} {bs:List Bool},asBools ds=some bs→bs.length=ds.length
 | [],_,h=>by rw [asBools] at h;cases h;rfl
 | .bl b::r,bs,h=>by
  rw [asBools] at h
  obtain ⟨bs',h1,rfl⟩:=Option.map_eq_some_iff.mp h
  rw [List.length_cons,List.length_cons,asBools_len h1]
 | .non::_,_,h=>by simp [asBools] at h
 | .int _::_,_,h=>by simp [asBools] at h
 | .str _::_,_,h=>by simp [asBools] at h
 | .tup _::_,_,h=>by simp [asBools] at h
 | .lst _::_,_,h=>by simp [asBools] at h
 | .dct _ _::_,_,h=>by simp [asBools] at h
 | .exc _ _::_,_,h=>by simp [asBools] at h
 | .obj _ _ _::_,_,h=>by simp [asBools] at h
theorem range_all (bs:List Bool):(List.range bs.length).all (fun i=>bs.getD i false)=bs.all id:=by
 induction bs with
 |nil=>rfl
 |cons b bs ih=>
  rw [List.length_cons,List.range_succ_eq_map,List.all_cons,List.all_map,List.all_cons,←ih]
  rfl
theorem call_allL (hc:X.calm=true):CallR X (.builtin "all") (fun xs H Q=>∃ W ds bs v,xs= [v]∧HasT X.K W H (.lst ds) v∧asBools ds=some bs∧Q (.bl (bs.all id)) H):=by
 intro pins s σ H xs us Q I r h
 obtain ⟨W,ds,bs,v,rfl,hd,hb,q⟩:=h
 obtain ⟨u,rfl,rx⟩:=vals1 r
 obtain ⟨a,ys,rfl,sq,rl⟩:=hd.lst
 cases (show u=Value.ref a from rx)
 obtain ⟨its,rv,pl,hz⟩:=I.list sq
 have hlt:a<s.heap.objs.size:=by obtain ⟨_,e,_⟩:=pl.isList;exact Heap.lt_size e
 have hh:X.A.in1.handled=none:=I.ok.hd hc
 refine call_all_walk (wpAny_pyIter_list pl.isList ?_)
 refine ⟨s.heap.objs.size,_,_,_,_,_,fun i=>bs.getD i false,rfl,Walks.list hh s.heap.objs.size a (Nat.ne_of_lt hlt) its.toArray,⟨⟨_,Heap.get?_push_size _ rfl,rfl,rfl⟩,pl.isList.push _⟩,fun i v s' Q' E' hP hQ'=> ?_,fun h' tk hk=> ?_⟩
 ·have hi:its[i]? =some v:=by simpa using hP
  have hil:i<ys.length:=by rw [rv.length];exact (List.getElem?_eq_some_iff.mp hi).1
  obtain ⟨x,e1⟩:∃ x,ys[i]? =some x:=⟨_,List.getElem?_eq_getElem hil⟩
  obtain ⟨d,e2,hx⟩:=rl.at' e1
  obtain ⟨b,rfl,e3⟩:=asBools_get hb e2
  rw [Has] at hx
  subst hx
  obtain ⟨w',e4,rw'⟩:=rv.get e1
  rw [hi] at e4;cases e4
  cases (show v=Value.bool b from rw')
  refine wpAny_truthy_bool ?_
  have:bs.getD i false=b:=by rw [List.getD_eq_getElem?_getD,e3];rfl
  dsimp only at hQ'
  rw [this] at hQ'
  exact hQ'
 ·have e:its.toArray.size=bs.length:=by rw [List.size_toArray,asBools_len hb,rl.length,rv.length]
  rw [e,range_all]
  refine ⟨.bl _,H,?_,rfl,q⟩
  refine I.kept (fun b o e=>hk b o ?_ (Heap.get?_push_of_some _ e))
  intro z
  have:b=s.heap.objs.size:=by simpa using z
  exact absurd (Heap.lt_size e) (by rw [this];exact Nat.lt_irrefl _)
theorem de_all (hc:X.calm=true) (hm:X.mg "all"=none) (ha:DP X xw a fa) (hg:Gl X "all":=by rfl) (he:starEach [a] X.env=(false,eval a X.env)::starEach [] X.env:=by rfl) (hpl:(backTo pos (starEach [] X.env)).any (·.1)=false:=by rfl):
  DE X xw (.Call (.Name "all" p) [a] [] pos) (fun δ=>(fa δ).bind allR):=
 de_callB1 (call_allL hc) (fun W H d v Q w hv q=>by
  unfold allR at q
  split at q
  ·split at q
   ·rename_i hb
    exact ⟨W,_,_,v,rfl,hv,hb,q.bl⟩
   ·exact q.elim
  ·exact q.elim) hm PyProof.Rows.boot_all ha hg (by decide) (by decide) he hpl
end
end L3
namespace L3
open PySem PySem.Spec PyProof.Rows L2 SeqAt
def kD (d:D):DSt→Res D:=fun _=> .ok d
def b1 {α β:Type} (op:α→Res β) (f:DSt→Res α):DSt→Res β:=fun δ=>(f δ).bind op
def b2 (op:D→D→Res D) (f g:DSt→Res D):DSt→Res D:=fun δ=>(f δ).bind fun x=>(g δ).bind fun y=>op x y
def b3 {β:Type} (op:D→Option Int→Option Int→Res β) (f:DSt→Res D) (g h:DSt→Res (Option Int)):DSt→Res β:=fun δ=>(f δ).bind fun x=>(g δ).bind fun l=>(h δ).bind fun u=>op x l u
def bCh (op op':D→D→Res D) (fa fb fc:DSt→Res D):DSt→Res D:=fun δ=>(fa δ).bind fun x=>(fb δ).bind fun y=>chainR op op' x y (fc δ)
def tR (f:DSt→Res D):DSt→Res Bool:=fun δ=>(f δ).bind boolR
def tAnd2 (a b:DSt→Res Bool):DSt→Res Bool:=fun δ=>andB (a δ) (b δ)
def tOr2 (a b:DSt→Res Bool):DSt→Res Bool:=fun δ=>orB (a δ) (b δ)
def tNot1 (a:DSt→Res Bool):DSt→Res Bool:=fun δ=>(a δ).bind fun k=> .ok (!k)
def vAnd (a b:DSt→Res D):DSt→Res D:=fun δ=>andD (a δ) (b δ)
def vOr (a b:DSt→Res D):DSt→Res D:=fun δ=>orD (a δ) (b δ)
def vIf (c:DSt→Res Bool) (a b:DSt→Res D):DSt→Res D:=fun δ=>(c δ).bind fun k=>if k=true then a δ else b δ
def aNil:DSt→Res (List D):=fun _=> .ok []
def aCons (f:DSt→Res D) (fs:DSt→Res (List D)):DSt→Res (List D):=fun δ=>consR (f δ) (fs δ)
def oNone:DSt→Res (Option Int):=fun _=> .ok none
def asD (f:DSt→Res (List D)):DSt→Res D:=fun δ=>(f δ).bind fun ds=> .ok (.lst ds)
noncomputable def vComp (n:Nat) (t:D→DSt→Res DSt) (gc:DSt→Res Bool) (fe:DSt→Res D) (fi:DSt→Res (List D)):DSt→Res (List D):=fun δ=>(fi δ).bind fun ds=>compR n t gc fe δ ds
def sSeq (g1 g2:DSt→Out):DSt→Out:=fun δ=>seqO (g1 δ) g2
def sSet (i:Nat) (f:DSt→Res D):DSt→Out:=fun δ=>ofR (f δ) fun d=> .nx (δ.set i (some (.d d)))
def sOwn (i:Nat) (f:DSt→Res (List D)):DSt→Out:=fun δ=>ofR (f δ) fun ds=> .nx (δ.set i (some (.o ds)))
def sIf (c:DSt→Res Bool) (a b:DSt→Out):DSt→Out:=fun δ=>ifO (c δ) (a δ) (b δ)
def sFor (t:D→DSt→Res DSt) (g:DSt→Out) (fi:DSt→Res (List D)):DSt→Out:=fun δ=>ofR (fi δ) fun ds=>forD t g ds δ
def sWhile (n:Nat) (c:DSt→Res Bool) (g:DSt→Out):DSt→Out:=fun δ=>whileD c g n δ
noncomputable def sApp (i:Nat) (f:DSt→Res D):DSt→Out:=fun δ=>appO i δ (f δ)
def sRet (f:DSt→Res D):DSt→Out:=fun δ=>ofR (f δ) fun d=> .rt d
def sRetN:DSt→Out:=fun _=> .rt .non
def sExpr (f:DSt→Res D):DSt→Out:=fun δ=>ofR (f δ) fun _=> .nx δ
def asgO (t:D→DSt→Res DSt) (δ:DSt) (d:D):Out:=match t d δ with
 | .ok δ'=> .nx δ'
 |_=> .stuck
def sAsg (t:D→DSt→Res DSt) (f:DSt→Res D):DSt→Out:=fun δ=>ofR (f δ) (asgO t δ)
section
variable {X:Cx} {xw:XW} {e a b c:Expr} {f fa fb:DSt→Res D} {pos p:Pos} {st:Stmt} {tg:Expr} {t:D→DSt→Res DSt} {fs:DSt→Res (List D)}
theorem ds_no:DS X xw st (fun _=> .stuck):=PS.weak ps_never fun Dn σ H ⟨W₀,H₀,W,δ,st,q⟩=>q
theorem de_globI {x:Str} {i:Int} (hm:∃ t,X.mg x=some (.int i t)) (hg:Gl X x:=by rfl) (hdb:(x==("__debug__":Str))=false:=by decide):DE X xw (.Name x pos) (kD (.int i)):=by
 obtain ⟨t,hm⟩:=hm
 exact de_glob (v:= .int i) hm ⟨t,rfl⟩ (fun W H=>by rw [Has]) hg hdb
theorem de_globS {x y:Str} (hm:∃ t,X.mg x=some (.str y t)) (hg:Gl X x:=by rfl) (hdb:(x==("__debug__":Str))=false:=by decide):DE X xw (.Name x pos) (kD (.str y)):=by
 obtain ⟨t,hm⟩:=hm
 exact de_glob (v:= .str y) hm ⟨t,rfl⟩ (fun W H=>by rw [Has]) hg hdb
theorem one_readF {σ:L2.St} {H:Hp} {W₀ W:WS} {H₀:Hp} {δ:DSt} {op:D→Res (List D)} {Q:VK} {R:V→Hp→Prop} (st:StHas X.K W₀ H₀ W H σ δ)
  (q:RF X.K xw W H ((fa δ).bind op) Q)
  (h:∀ H2 d v,Same H H2→WL W H2→StHas X.K W₀ H₀ W H2 σ δ→HasT X.K W H2 d v→fa δ= .ok d→RF X.K xw W H2 (op d) Q→R v H2):
  tDP X.K xw fa σ H fun x H1=>R x H1:=by
 refine ⟨W₀,H₀,W,δ,st,?_⟩
 cases h1:fa δ with
 |stuck=>rw [h1] at q;exact q
 |ex c fs=>rw [h1] at q;exact q
 |ok d=>
  rw [h1] at q
  intro v H1 k1 hv
  exact h H1 d v k1 (st.fr.wl.same k1) (st.same k1) hv h1 (RF.same (r:=op d) q k1)
def seqR:D→Res (List D)
 | .tup ds=> .ok ds
 | .lst ds=> .ok ds
 |_=> .stuck
theorem df_listof (hm:X.mg "list"=none) (ha:DP X xw a fa) (hg:Gl X "list":=by rfl) (he:starEach [a] X.env=(false,eval a X.env)::starEach [] X.env:=by rfl) (hpl:(backTo pos (starEach [] X.env)).any (·.1)=false:=by rfl):
  DF X xw (.Call (.Name "list" p) [a] [] pos) (b1 seqR fa):=
 PE.weak (pe_callTy call_list_of hg hm (by decide +kernel) (pa_cons ha pa_nil he) (by decide) (by decide) he hpl) fun σ H Q ⟨W₀,H₀,W,δ,st,q⟩=>one_readF st q fun H2 d v k w st2 hv _ q2=>by
  unfold seqR at q2
  split at q2
  ·obtain ⟨p,xs,e,sq,r⟩:=hv.tup
   rw [e]
   exact ⟨p,xs,rfl, .inr sq,fun l hl=>q2 l xs H2 (Same.refl _) hl r⟩
  ·obtain ⟨p,xs,e,sq,r⟩:=hv.lst
   rw [e]
   exact ⟨p,xs,rfl, .inl sq,fun l hl=>q2 l xs H2 (Same.refl _) hl r⟩
  ·exact q2.elim
def tupofR:D→Res D
 | .tup ds=> .ok (.tup ds)
 | .lst ds=> .ok (.tup ds)
 |_=> .stuck
theorem de_tupof (hm:X.mg "tuple"=none) (ha:DP X xw a fa) (hg:Gl X "tuple":=by rfl) (he:starEach [a] X.env=(false,eval a X.env)::starEach [] X.env:=by rfl) (hpl:(backTo pos (starEach [] X.env)).any (·.1)=false:=by rfl):
  DE X xw (.Call (.Name "tuple" p) [a] [] pos) (b1 tupofR fa):=
 de_callT1 call_tuple_of (fun W H d v Q w hv q2=>by
  unfold tupofR at q2
  split at q2
  ·obtain ⟨p,xs,e,sq,r⟩:=hv.tup
   rw [e]
   exact ⟨p,xs,rfl, .inr ⟨sq,q2 _ H (Same.refl _) (by rw [Has];exact ⟨p,xs,rfl,sq,r⟩)⟩⟩
  ·obtain ⟨p,xs,e,sq,r⟩:=hv.lst
   rw [e]
   exact ⟨p,xs,rfl, .inl ⟨sq,fun l hl=>q2.newT w hl r⟩⟩
  ·exact q2.elim) hm (by decide +kernel) ha hg (by decide) (by decide) he hpl
def maxR:List D→Res D
 | [.int i, .int j]=> .ok (.int (max i j))
 |_=> .stuck
def minR:List D→Res D
 | [.int i, .int j]=> .ok (.int (min i j))
 |_=> .stuck
def absR:D→Res D
 | .int i=> .ok (.int (if i<0 then -i else i))
 |_=> .stuck
variable {lo hi:Option Expr} {fl fh:DSt→Res (Option Int)} {p2:Pos}
def slD (d:D) (lo hi:Option Int):Res D:=match d with
 | .tup ds=>if whole ds.length lo hi then .stuck else .ok (.tup (cutD ds lo hi))
 | .lst ds=> .ok (.lst (cutD ds lo hi))
 |_=> .stuck
def iSeq (K:PySem.W.Frag) (tl:TE):TI:=fun σ H R=>tl σ H fun x H1=>∃ a,x= .ref a∧(((∃ xs,SqL K H1 a xs)∧R (Itl K a) H1)∨((∃ xs,SqT K H1 a xs)∧R (Itt K a) H1))
theorem pi_seq {l:Expr} {tl:TE} (hl:PE X l tl):PI X tg l (iSeq X.K tl):=by
 intro pins s σ H R I h
 refine thn (hl pins s σ H _ I h) fun v s1 ⟨x,H1,I1,r1,q1⟩=> ?_
 obtain ⟨a,e,q1⟩:=q1
 subst e
 cases r1
 rcases q1 with ⟨⟨xs,hq⟩,q⟩|⟨⟨xs,hq⟩,q⟩
 ·obtain ⟨its,rv,p,hz⟩:=I1.list hq
  refine wpAny_pyIter_list p.isList ?_
  refine ⟨s1.heap.objs.size,[s1.heap.objs.size],_,_,H1,rfl,I1.kept (t':=s1.toks) fun b o e=>Heap.get?_push_of_some _ e,turn_list a _,⟨_,Heap.get?_push_size _ rfl,rfl,rfl⟩,fun b hb=> ?_,q⟩
  have e:b=s1.heap.objs.size:=by simpa using hb
  subst e
  exact I1.fpOk (Nat.le_refl _) (I1.hok.fresh (Nat.le_refl _))
 ·obtain ⟨its,rv,p,hz⟩:=I1.tuple hq
  refine wpAny_pyIter_tuple (show s1.heap.IsTuple a its.toArray from p) ?_
  refine ⟨s1.heap.objs.size,[s1.heap.objs.size],_,_,H1,rfl,I1.kept (t':=s1.toks) fun b o e=>Heap.get?_push_of_some _ e,turn_tuple a _,⟨_,Heap.get?_push_size _ rfl,rfl,rfl⟩,fun b hb=> ?_,q⟩
  have e:b=s1.heap.objs.size:=by simpa using hb
  subst e
  exact I1.fpOk (Nat.le_refl _) (I1.hok.fresh (Nat.le_refl _))
theorem di_seq (h:DE X xw e f):DI X xw tg e (b1 seqR f):=PI.weak (pi_seq h) fun σ H R ⟨W₀,H₀,W,δ,st,q⟩=>by
 refine ⟨W₀,H₀,W,δ,st,?_⟩
 simp only [b1] at q
 cases h1:f δ with
 |stuck=>rw [h1] at q;exact q
 |ex c fs=>rw [h1] at q;exact q
 |ok d=>
  rw [h1] at q
  intro v H1 k1 hv
  cases d with
  |lst ds=>
   rw [Has] at hv
   obtain ⟨a,xs,e,sq,r⟩:=hv
   exact ⟨a,e, .inl ⟨⟨xs,sq.sq⟩,q _ H1 k1 (itl_ok (st.fr.wl.same k1) sq r)⟩⟩
  |tup ds=>
   rw [Has] at hv
   obtain ⟨a,xs,e,sq,r⟩:=hv
   exact ⟨a,e, .inr ⟨⟨xs,sq⟩,q _ H1 k1 (itt_ok (st.fr.wl.same k1) sq r)⟩⟩
  |_=>exact q.elim
theorem dk_empty {P:Program} {w:World} {H:Hp} (h:Heap) (hb:sysModules<h.objs.size):ObjOk P w H (h.push {cls:= .type "dict",data:= .dict #[]}) h.objs.size (.dK []):=
 ⟨Nat.zero_le _,beq_eq_false_iff_ne.mpr (Ne.symm (Nat.ne_of_lt hb)),[], .nil,Heap.DictOf.new h⟩
end
section
variable {X:Cx} {xw:XW} {a:Expr} {fa:DSt→Res D} {pos:Pos}
end
theorem hu40 {A:Around} {k:Nat} (hr:Room k A):A.units+40<cLine:=by have:=hr.units;omega
theorem fn_bodyO {P:Program} {w:World} {K:PySem.W.Frag} {mg:Str→Option Value} {base:Heap} {k:Nat} {x qual:Str} {st:Stmt} {fa:Addr} {fd:FuncData} {N ps:List Str} {g:DSt→Out} (F:Fun K x qual st fa fd) (S:FnScope N ps (defScope st))
  (body:∀ (cdv:Value) (A:Around) (outer:List Env) (s:Shared) (H:Hp) (E:XK),Room k (A.deeper (envOfC qual (defScope st) s.heap.objs.size fa cdv))→
   DSs (cxOf CX0 P w K mg base N qual (defScope st) fa cdv A outer s H E).nox xwF (defBody st) g):FnOk P w K mg base CX0 (k+1) fa fd ps (spD K ps.length (runD N.length g)):=by
 refine F.ok S (fun vs H Q E h=>h.1) (fun cdv A outer s H vs Q E hr h=> ?_)
 obtain ⟨hl,W,ds,hw,hd,q⟩:=h
 refine ⟨_,body cdv A outer s H E hr,W,H,W,startD N.length ds,start_has hw hd,?_⟩
 unfold runD at q
 cases h:g (startD N.length ds) with
 |rt d=>rw [h] at q;exact fun v H' k hv=>q v H' k hv
 |nx δ=>rw [h] at q;exact fun W' H' σ' k st'=>q .non H' st'.fr.ext (by rw [Has])
 |bk δ=>rw [h] at q;exact q.elim
 |ct δ=>rw [h] at q;exact q.elim
 |ex c fs=>rw [h] at q;exact q.elim
 |stuck=>rw [h] at q;exact q.elim
def spLaw (K:PySem.W.Frag):Sp:=fun vs H Q _=>∃ (a:Addr) (ns:List Int),vs= [.ref a]∧SqL K H a (ns.map V.int)∧ns.length≤63∧∀ H',Q (.bl true) H'
theorem law_of {P:Program} {w:World} {K:PySem.W.Frag} {mg:Str→Option Value} {base:Heap} {k:Nat} {f:Addr} {fd:FuncData} {ps:List Str} {m:List D→Res D} (G:FnOk P w K mg base CX0 k f fd ps (spD K 1 m))
  (h:∀ ns:List Int,ns.length≤63→m [.lst (ns.map D.int)]= .ok (.bl true)):FnOk P w K mg base CX0 k f fd ps (spLaw K):=by
 refine G.imp fun vs H Q E q=> ?_
 obtain ⟨a,ns,rfl,sq,hl,q⟩:=q
 refine ⟨rfl,fun _=>False,[.lst (ns.map D.int)],fun b z=>z.elim,HasL.cons ?_ HasL.nil,?_⟩
 ·rw [Has]
  refine ⟨a,_,rfl,?_,HasL.ints⟩
  rcases sq with (z|z)|z
  ·exact .inl ⟨z,fun z=>z⟩
  ·exact .inr (.inl z)
  ·exact .inr (.inr z)
 ·rw [h ns hl]
  intro v H' k hv
  rw [Has] at hv
  rw [hv]
  exact q H'
end L3
namespace L3
open PySem
section
variable {prog:Program} {w:World} {A:Around} {E:Value→Shared→Prop} {s:Shared}
theorem nextT_item {it t:Addr} {i:Nat} {items:Array Value} {x:Value} {Q:Value→Shared→Prop} (hi:s.heap.IsTupleIter it t i) (ht:s.heap.IsTuple t items) (hx:items[i]? =some x)
  (hQ:∀ h',h'.IsTupleIter it t (i+1)→Heap.SameBut it s.heap h'→Q x {s with heap:=h'}):wpAny (model prog w) A (Builtin.SmallTypes.nextOf (.ref it)) Q E s:=by
 obtain ⟨o,h1,h2,h3⟩:=id hi
 obtain ⟨u,g1,g2,m,g3⟩:=ht
 unfold Builtin.SmallTypes.nextOf
 refine wpAny_bind (wpAny_callSpecial?_slot (name:=Str.ofString "__next__") hi.typeIs F.slot_tuple_iterator_next (wpAny_call_entry F.slot_tuple_iterator_next hi.typeIs F.entry_tuple_iterator_next ?_ (F.args_tuple_iterator_next_1 _)))
 show wpAny _ _ (field (.ref it) 0 >>= _) _ _ s;refine wpAny_bind (wpAny_field h1 h3 (x:= .ref t) rfl ?_)
 show wpAny _ _ (if (Value.ref t==Value.none)=true then _ else _) _ _ s;rw [if_neg (show ¬ ((Value.ref t==Value.none)=true) from Bool.false_ne_true)]
 show wpAny _ _ (field (.ref it) 1 >>= _) _ _ s;refine wpAny_bind (wpAny_field h1 h3 (x:= .int i 0) rfl ?_)
 show wpAny _ _ (seqItems? (.ref t) >>= _) _ _ s;refine wpAny_bind (wpAny_seqItems g1 g3 ?_)
 simp only [Int.toNat_natCast,hx]
 refine wpAny_bind (wpAny_setField h1 h3 (by simp) (wpAny_pure ⟨x,rfl,wpAny_pure (hQ _ ⟨_,Heap.get?_update_self _ h1 (Obj.isFreed_of_fields (Obj.data_mapFields h3 _)),(Obj.cls_mapFields ..).trans h2,?_⟩ (Heap.SameBut.update ..))⟩))
 rw [Obj.data_mapFields h3];simp [rawInt]
theorem nextT_end {it t:Addr} {i:Nat} {items:Array Value} {Q:Value→Shared→Prop} (hh:A.handled=none) (hi:s.heap.IsTupleIter it t i) (ht:s.heap.IsTuple t items) (hx:items[i]? =none)
  (hE:∀ h' e,Heap.ExtBut it s.heap h'→(∃ o,h'.get? e=some o∧o.cls= .type "StopIteration")→E (.ref e) {s with heap:=h'}):wpAny (model prog w) A (Builtin.SmallTypes.nextOf (.ref it)) Q E s:=by
 obtain ⟨o,h1,h2,h3⟩:=id hi
 obtain ⟨u,g1,g2,m,g3⟩:=ht
 unfold Builtin.SmallTypes.nextOf
 refine wpAny_bind (wpAny_callSpecial?_slot (name:=Str.ofString "__next__") hi.typeIs F.slot_tuple_iterator_next (wpAny_call_entry F.slot_tuple_iterator_next hi.typeIs F.entry_tuple_iterator_next ?_ (F.args_tuple_iterator_next_1 _)))
 show wpAny _ _ (field (.ref it) 0 >>= _) _ _ s;refine wpAny_bind (wpAny_field h1 h3 (x:= .ref t) rfl ?_)
 show wpAny _ _ (if (Value.ref t==Value.none)=true then _ else _) _ _ s;rw [if_neg (show ¬ ((Value.ref t==Value.none)=true) from Bool.false_ne_true)]
 show wpAny _ _ (field (.ref it) 1 >>= _) _ _ s;refine wpAny_bind (wpAny_field h1 h3 (x:= .int i 0) rfl ?_)
 show wpAny _ _ (seqItems? (.ref t) >>= _) _ _ s;refine wpAny_bind (wpAny_seqItems g1 g3 ?_)
 simp only [Int.toNat_natCast,hx]
 refine wpAny_bind (wpAny_rule (wpAny_bind (wpAny_setField h1 h3 (by simp) ?_)));show wpAny _ _ (newExc (.type "StopIteration") [] >>= _) _ _ _
 refine wpAny_bind ?_;simp only [newExc,newTuple]
 refine wpAny_bind (wpAny_newObj_type ?_ (by size_fits));refine wpAny_bind (m:=firstArgMember _ _) (wpAny_of_eq (a:=Value.none) (by first|rfl|(simp only [firstArgMember];rfl)) ?_)
 refine wpAny_newObj_type ?_ (by size_fits);simp only [raiseNew]
 refine wpAny_bind (wpAny_handled ?_);first|rw [show A.in1.handled=none from hh]|rw [hh]
 refine wpAny_bind (wpAny_pure (wpAny_throw (hE _ _ (((Heap.SameBut.update ..).extBut.push _).push _) ⟨_,Heap.get?_push_size _ rfl,rfl⟩)))
end
theorem drawsT {prog:Program} {w:World} {A:Around} (hh:A.handled=none) (it t:Addr) (hne:t≠it) (items:Array Value):Draws prog w A it [it,t] items.size (fun i v=>items[i]? =some v) (fun i h=>h.IsTupleIter it t i∧h.IsTuple t items) where
 live:=fun _ _ st=>let ⟨o,ho,_⟩:=st.1;⟨o,ho⟩
 frame:=fun _ _ _ st hk=>⟨let ⟨o,e,r⟩:=st.1;⟨o,hk it (by simp) o e,r⟩,let ⟨o,e,r⟩:=st.2;⟨o,hk t (by simp) o e,r⟩⟩
 item:=fun i s Q E hi st hQ=>nextT_item st.1 st.2 (x:=items[i]) (by simp [hi]) fun h' z hs=>hQ _ h' s.toks (by simp [hi]) ⟨z,let ⟨o,e,r⟩:=st.2;⟨o,hs.extBut _ _ hne e,r⟩⟩ hs
 done:=fun s Q E st hE=>nextT_end hh st.1 st.2 (by simp) hE
structure ZA (z TI TO i1 i2:Addr) (f1 f2:List Addr):Prop where
 a1:TI≠z
 a2:TO≠z
 a3:TI≠TO
 m1:i1∈f1
 m2:i2∈f2
 z1:z∉f1
 z2:z∉f2
 o1:TO∉f1
 o2:TO∉f2
 t1:TI∉f1
 t2:TI∉f2
 x1:i2∉f1
 x2:i1∉f2
section
variable {prog:Program} {w:World} {A:Around} {E:Value→Shared→Prop} {s:Shared} {z TI TO i1 i2:Addr} {f1 f2:List Addr} {n1 n2 k:Nat} {P1 P2:Nat→Value→Prop} {S1 S2:Nat→Heap→Prop} {a b:Value}
end
end L3
namespace L3
open PySem
def IsSq (tup:Bool) (h:Heap) (l:Addr) (xs:Array Value):Prop:=match tup with
 |true=>h.IsTuple l xs
 |false=>h.IsList l xs
def itO (tup:Bool) (l:Addr):Obj:=match tup with
 |true=> {cls:= .type "tuple_iterator",data:= .fields #[.ref l, .int 0 0]}
 |false=> {cls:= .type "list_iterator",data:= .fields #[.ref l, .int 0 0]}
def SqI (tup:Bool) (h:Heap) (i l:Addr) (k:Nat):Prop:=match tup with
 |true=>h.IsTupleIter i l k
 |false=>h.IsListIter i l k
theorem IsSq.at' {tup:Bool} {h h':Heap} {l:Addr} {xs:Array Value} (q:IsSq tup h l xs) (k:∀ o,h.get? l=some o→h'.get? l=some o):IsSq tup h' l xs:=by
 cases tup with
 |true=>obtain ⟨o,e,r⟩:=q;exact ⟨o,k o e,r⟩
 |false=>exact Heap.IsList.at q k
theorem SqI.at' {tup:Bool} {h h':Heap} {i l:Addr} {k:Nat} (q:SqI tup h i l k) (f:∀ o,h.get? i=some o→h'.get? i=some o):SqI tup h' i l k:=by
 cases tup with
 |true=>obtain ⟨o,e,r⟩:=q;exact ⟨o,f o e,r⟩
 |false=>obtain ⟨o,e,r⟩:=q;exact ⟨o,f o e,r⟩
theorem SqI.rec {tup:Bool} {h:Heap} {i l:Addr} {k:Nat} (q:SqI tup h i l k):∃ o vs,h.get? i=some o∧o.data= .fields vs:=by
 cases tup with
 |true=>obtain ⟨o,e,_,r⟩:=q;exact ⟨o,_,e,r⟩
 |false=>obtain ⟨o,e,_,r⟩:=q;exact ⟨o,_,e,r⟩
theorem IsSq.lt {tup:Bool} {h:Heap} {l:Addr} {xs:Array Value} (q:IsSq tup h l xs):l<h.objs.size:=by
 cases tup with
 |true=>obtain ⟨o,e,_⟩:=q;exact Heap.lt_size e
 |false=>obtain ⟨o,e,_⟩:=q;exact Heap.lt_size e
theorem drawsS {prog:Program} {w:World} {A:Around} (hh:A.handled=none) (tup:Bool) (it l:Addr) (hne:l≠it) (xs:Array Value):Draws prog w A it [it,l] xs.size (fun i v=>xs[i]? =some v) (fun i h=>SqI tup h it l i∧IsSq tup h l xs):=by
 cases tup with
 |true=>exact drawsT hh it l hne xs
 |false=>exact Draws.list hh it l hne xs
theorem sq_iter {prog:Program} {w:World} {A:Around} {E:Value→Shared→Prop} {s:Shared} {tup:Bool} {l:Addr} {xs:Array Value} {Q:Value→Shared→Prop} (q:IsSq tup s.heap l xs) (h:Q (.ref s.heap.objs.size) {s with heap:=s.heap.push (itO tup l)}):
  wpAny (model prog w) A (pyIter (.ref l)) Q E s:=by
 cases tup with
 |true=>exact wpAny_pyIter_tuple q h
 |false=>exact wpAny_pyIter_list q h
section
variable {prog:Program} {w:World} {A:Around} {E:Value→Shared→Prop} {s:Shared} {z TI TO i1 i2 l1 l2:Addr} {t1 t2:Bool} {xs ys:Array Value} {k:Nat} {a b x y:Value}
theorem ZA.of (h1:TI≠z) (h2:TO≠z) (h3:TI≠TO) (h:∀ c,c=i1∨c=i2∨c=l1∨c=l2→c≠z∧c≠TO∧c≠TI) (e1:i1≠i2) (e2:l1≠i2) (e3:l2≠i1):ZA z TI TO i1 i2 [i1,l1] [i2,l2]:=by
 obtain ⟨a1,a2,a3⟩:=h i1 (by simp)
 obtain ⟨b1,b2,b3⟩:=h i2 (by simp)
 obtain ⟨c1,c2,c3⟩:=h l1 (by simp)
 obtain ⟨d1,d2,d3⟩:=h l2 (by simp)
 have no:∀ {c p q:Addr},p≠c→q≠c→c∉ [p,q]:=fun u v m=>by
  rcases List.mem_cons.mp m with m|m
  ·exact u m.symm
  ·exact v (List.mem_singleton.mp m).symm
 exact ⟨h1,h2,h3,by simp,by simp,no a1 c1,no b1 d1,no a2 c2,no b2 d2,no a3 c3,no b3 d3,no e1 e2,no e1.symm e3⟩
end
end L3
namespace L3
open PySem PySem.Spec PyProof.Rows L2
def SqK (t:Bool) (K:PySem.W.Frag) (H:Hp) (l:Addr) (xs:List V):Prop:=match t with
 |true=>SqT K H l xs
 |false=>SqL K H l xs
section
variable {X:Cx} {pins:List (Addr×Obj)} {σ:L2.St} {H:Hp} {s:Shared} {h':Heap}
theorem inv_sq (I:Inv X pins σ H s) {t:Bool} {l:Addr} {xs:List V} (h:SqK t X.K H l xs):∃ its:List Value,Vals xs its∧IsSq t s.heap l its.toArray∧xs.length≤sizeLine:=by
 cases t with
 |true=>obtain ⟨its,r,p,z⟩:=I.tuple h;exact ⟨its,r,p,z⟩
 |false=>obtain ⟨its,r,p,z⟩:=I.list h;exact ⟨its,r,p.isList,z⟩
theorem inv_sq_inj (I:Inv X pins σ H s) {t:Bool} {l:Addr} {xs ys:List V} (h:SqK t X.K H l xs) (h':SqK t X.K H l ys):xs=ys:=by
 cases t with
 |true=>exact I.tuple_inj h h'
 |false=>exact I.list_inj h h'
theorem inv_turnT {t':Nat} {ch:List Addr} {n:Addr} {xs:List V} {its:List Value} (I:Inv X pins σ H s) (hf:∀ b∈ch,FpOk X pins H b) (k:∀ b o,b∉ch→s.heap.get? b=some o→h'.get? b=some o)
  (hn:s.heap.objs.size≤n) (r:Vals xs its) (hz:xs.length≤sizeLine) (new:IsTup h' n its.toArray):Inv X pins σ (upd H n (.tup xs)) {s with heap:=h',toks:=t'}:=by
 have hfree:=I.hok.fresh hn
 have nch:∀ b u,H b=some u→b∉ch:=fun b u e m=>by rw [(hf b m).1] at e;cases e
 have nn:∀ b o,s.heap.get? b=some o→b≠n:=fun b o e=>Nat.ne_of_lt (Nat.lt_of_lt_of_le (Heap.lt_size e) hn)
 refine I.step (g':=s.gens) (d':=s.drawn) (ch:=ch) (fun b hb=>⟨(hf b hb).2.2.2.1,(hf b hb).2.1,(hf b hb).2.2.2.2.1,(hf b hb).2.2.2.2.2⟩) (fun b o _ _ hc e _=>k b o hc e) (fun b o _ _ hc e _=>⟨o.slots,k b o hc e⟩)
  (fun b o hc e q=>by rw [upd_ne (nn b o e)];exact q) (fun b o hc e=>⟨o,k b o hc e⟩) (fun b ys e=>by rw [upd_ne (ne_of_none e hfree)];exact e) (fun b o u e=>by rw [upd_ne (ne_of_none e hfree)];exact e)
  (fun b ps e=>⟨#[],by rw [upd_ne (ne_of_none e hfree),e];simp⟩) (fun m hm=> ?_) (fun b u e=> ?_) I.bare
 ·obtain ⟨o,es,ep,ho,q⟩:=hm
  exact ⟨o,es,ep,k _ o (fun z=>(hf _ z).2.1 rfl) ho,q⟩
 ·by_cases hb:b=n
  ·subst hb
   rw [upd_same] at e;cases e
   exact ⟨hz,its,r,new⟩
  ·rw [upd_ne hb] at e
   refine (I.hok b u e).stay (fun c v hc q=>k c v ?_ q) (fun c q=>by rw [upd_ne (ne_of_none q hfree)];exact q) fun c ys q=>by rw [upd_ne (ne_of_none q hfree)];exact q
   rcases hc with z|z
   ·rw [z];exact nch b u e
   ·exact nch c _ z
theorem inv_turns {t':Nat} {ch:List Addr} (I:Inv X pins σ H s) (hf:∀ b∈ch,FpOk X pins H b) (k:∀ b o,b∉ch→s.heap.get? b=some o→h'.get? b=some o):Inv X pins σ H {s with heap:=h',toks:=t'}:=by
 have nch:∀ b u,H b=some u→b∉ch:=fun b u e m=>by rw [(hf b m).1] at e;cases e
 refine I.step (g':=s.gens) (d':=s.drawn) (ch:=ch) (fun b hb=>⟨(hf b hb).2.2.2.1,(hf b hb).2.1,(hf b hb).2.2.2.2.1,(hf b hb).2.2.2.2.2⟩) (fun b o _ _ hc e _=>k b o hc e) (fun b o _ _ hc e _=>⟨o.slots,k b o hc e⟩)
  (fun _ _ _ _ q=>q) (fun b o hc e=>⟨o,k b o hc e⟩) (fun _ _ e=>e) (fun _ _ _ e=>e) (fun b ps e=>⟨#[],by rw [e];simp⟩) (fun m hm=> ?_) (fun b u e=> ?_) I.bare
 ·obtain ⟨o,es,ep,ho,q⟩:=hm
  exact ⟨o,es,ep,k _ o (fun z=>(hf _ z).2.1 rfl) ho,q⟩
 ·refine (I.hok b u e).stay (fun c v hc q=>k c v ?_ q) (fun _ q=>q) fun _ _ q=>q
  rcases hc with z|z
  ·rw [z];exact nch b u e
  ·exact nch c _ z
end
section
variable {X:Cx} {xw:XW} {elts:List Expr} {kt:Nat} {pt p pos:Pos} {a b:Expr} {fs:DSt→Res (List D)}
def itemsD:D→Option (List D)
 | .tup ds=>some ds
 | .lst ds=>some ds
 |_=>none
theorem sqk_of {K:PySem.W.Frag} {W:WS} {H:Hp} {d:D} {v:V} {ds:List D} (w:WL W H) (h:Has K W H d v) (e:itemsD d=some ds):
  ∃ t l xs,v= .ref l∧HasL K W H ds xs∧∀ W' H2,Step W H W' H2→SqK t K H2 l xs:=by
 cases d with
 |tup es=>
  cases e
  rw [Has] at h
  obtain ⟨a,xs,e1,sq,r⟩:=h
  exact ⟨true,a,xs,e1,r,fun W' H2 k=>sqT_keep k.keep w sq⟩
 |lst es=>
  cases e
  rw [Has] at h
  obtain ⟨a,xs,e1,sq,r⟩:=h
  exact ⟨false,a,xs,e1,r,fun W' H2 k=>(sq.keep k.keep w k.new).sq⟩
 |_=>cases e
end
end L3
namespace L3
open PySem PySem.Spec PyProof.Rows L2
section
variable {α β:Type}
theorem ofR_ok (a:α) (k:α→Out):ofR (.ok a) k=k a:=rfl
theorem ofR_ex (c:Str) (fs:List D) (k:α→Out):ofR (.ex c fs) k= .ex c fs:=rfl
theorem ofR_stuck (k:α→Out):ofR .stuck k= .stuck:=rfl
theorem seqO_nx (δ:DSt) (g:DSt→Out):seqO (.nx δ) g=g δ:=rfl
theorem seqO_rt (d:D) (g:DSt→Out):seqO (.rt d) g= .rt d:=rfl
theorem seqO_ex (c:Str) (fs:List D) (g:DSt→Out):seqO (.ex c fs) g= .ex c fs:=rfl
theorem seqO_stuck (g:DSt→Out):seqO .stuck g= .stuck:=rfl
theorem ifO_ok (c:Bool) (a b:Out):ifO (.ok c) a b=if c=true then a else b:=rfl
theorem andB_ok (c:Bool) (y:Res Bool):andB (.ok c) y=if c=true then y else .ok false:=rfl
theorem orB_ok (c:Bool) (y:Res Bool):orB (.ok c) y=if c=true then .ok true else y:=rfl
theorem andD_bl (c:Bool) (y:Res D):andD (.ok (.bl c)) y=if c=true then y else .ok (.bl false):=by cases c<;>rfl
theorem orD_bl (c:Bool) (y:Res D):orD (.ok (.bl c)) y=if c=true then .ok (.bl true) else y:=by cases c<;>rfl
theorem boolR_bl (c:Bool):boolR (.bl c)= .ok c:=rfl
theorem notD_bl (c:Bool):notD (.bl c)= .ok (.bl (!c)):=rfl
theorem eqR_ii (i j:Int):eqR (.int i) (.int j)= .ok (.bl (i==j)):=by simp [eqR,shal,eqD]
theorem neR_ii (i j:Int):neR (.int i) (.int j)= .ok (.bl (!(i==j))):=by simp [neR,shal,eqD]
theorem eqR_bb (i j:Bool):eqR (.bl i) (.bl j)= .ok (.bl (i==j)):=by simp [eqR,shal,eqD]
theorem ltR_ii (i j:Int):ltR (.int i) (.int j)= .ok (.bl (decide (i<j))):=rfl
theorem leR_ii (i j:Int):leR (.int i) (.int j)= .ok (.bl (decide (i≤j))):=rfl
theorem gtR_ii (i j:Int):gtR (.int i) (.int j)= .ok (.bl (decide (j<i))):=rfl
theorem geR_ii (i j:Int):geR (.int i) (.int j)= .ok (.bl (decide (j≤i))):=rfl
theorem addD_ii (i j:Int):addD (.int i) (.int j)= .ok (.int (i+j)):=rfl
theorem addD_tt (xs ys:List D):addD (.tup xs) (.tup ys)=@ite (Res D) (xs.length+ys.length≤sizeLine) (Classical.propDecidable _) (.ok (.tup (xs++ys))) .stuck:=rfl
theorem addD_small (xs ys:List D) (h:xs.length+ys.length≤1000):addD (.tup xs) (.tup ys)= .ok (.tup (xs++ys)):=by
 rw [addD_tt,if_pos (Nat.le_trans h k1000)]
theorem subD_ii (i j:Int):subD (.int i) (.int j)= .ok (.int (i-j)):=rfl
theorem negD_i (i:Int):negD (.int i)= .ok (.int (-i)):=rfl
theorem modD_ii (i j:Int):modD (.int i) (.int j)=@ite (Res D) (0<j) (Classical.propDecidable _) (.ok (.int (i%j))) .stuck:=rfl
theorem fdivD_ii (i j:Int):fdivD (.int i) (.int j)=@ite (Res D) (0<j∧j<1073741824) (Classical.propDecidable _) (.ok (.int (i / j))) .stuck:=rfl
theorem maxR_ii (i j:Int):maxR [.int i, .int j]= .ok (.int (max i j)):=rfl
theorem minR_ii (i j:Int):minR [.int i, .int j]= .ok (.int (min i j)):=rfl
theorem absR_i (i:Int):absR (.int i)= .ok (.int (if i<0 then -i else i)):=rfl
theorem lenR_t (ds:List D):lenR (.tup ds)= .ok (.int ds.length):=rfl
theorem lenR_l (ds:List D):lenR (.lst ds)= .ok (.int ds.length):=rfl
theorem seqR_t (ds:List D):seqR (.tup ds)= .ok ds:=rfl
theorem seqR_l (ds:List D):seqR (.lst ds)= .ok ds:=rfl
theorem tupofR_t (ds:List D):tupofR (.tup ds)= .ok (.tup ds):=rfl
theorem tupofR_l (ds:List D):tupofR (.lst ds)= .ok (.tup ds):=rfl
theorem partR_i (i:Int):partR (.int i)= .ok (some i):=rfl
theorem consR_ok (d:D) (ds:List D):consR (.ok d) (.ok ds)= .ok (d::ds):=rfl
theorem noex_ok (a:α):noex (.ok a)= .ok a:=rfl
theorem slD_l (ds:List D) (lo hi:Option Int):slD (.lst ds) lo hi= .ok (.lst (cutD ds lo hi)):=rfl
theorem slotD_0 (x:D) (l:DSt):slotD 0 (some (.d x)::l)= .ok x:=rfl
theorem slotD_s (n:Nat) (a:Option S) (l:DSt):slotD (n+1) (a::l)=slotD n l:=by simp [slotD]
theorem slotP_0 (x:D) (l:DSt):slotP 0 (some (.d x)::l)= .ok x:=rfl
theorem slotP_0o (x:List D) (l:DSt):slotP 0 (some (.o x)::l)= .ok (.lst x):=rfl
theorem slotP_s (n:Nat) (a:Option S) (l:DSt):slotP (n+1) (a::l)=slotP n l:=by simp [slotP]
theorem callR_eq (n:Nat) (m:List D→Res D) (ds:List D) (d:D) (h:m ds= .ok d) (hn:ds.length=n):callR n m ds= .ok d:=by
 unfold callR;rw [if_pos hn,h];rfl
theorem ixR_t (ds:List D) (i:Int) (d:D) (h:atI ds i=some d):ixR (.tup ds) (.int i)= .ok d:=by show (match atI ds i with|some d=>Res.ok d|none=>Res.stuck)=_;rw [h]
theorem ixR_l (ds:List D) (i:Int) (d:D) (h:atI ds i=some d):ixR (.lst ds) (.int i)= .ok d:=by show (match atI ds i with|some d=>Res.ok d|none=>Res.stuck)=_;rw [h]
theorem atI_pos {xs:List α} {i:Int} {d:α} (h0:0≤i) (h:xs[i.toNat]? =some d):atI xs i=some d:=by
 have hl:=(List.getElem?_eq_some_iff.mp h).1
 unfold atI ixN
 rw [if_pos h0,if_pos (by omega)]
 exact h
theorem atI_in {xs:List α} {i:Int} (h0:0≤i) (h1:i<xs.length):∃ d,atI xs i=some d∧d∈xs:=by
 have hl:i.toNat<xs.length:=by omega
 exact ⟨xs[i.toNat],atI_pos h0 (List.getElem?_eq_getElem hl),List.getElem_mem hl⟩
end
section
variable {t:D→DSt→Res DSt} {body:DSt→Out}
theorem forD_cons (d:D) (ds:List D) (δ δ':DSt) (h:t d δ= .ok δ'):forD t body (d::ds) δ=(match body δ' with
   | .nx δ2=>forD t body ds δ2
   | .ct δ2=>forD t body ds δ2
   | .bk δ2=> .nx δ2
   | .rt d=> .rt d
   | .ex c fs=> .ex c fs
   | .stuck=> .stuck):=by
 rw [forD,h]
 first|done|rfl|dsimp only
end
section
variable {fe:DSt→Res D} {c:DSt→Res Bool}
theorem compD_cons (t:D→DSt→Res DSt) (d:D) (ds:List D) (δ δ':DSt) (h:t d δ= .ok δ'):compD t c fe (d::ds) δ=((noex (c δ')).bind fun k=>if k=true then (noex (fe δ')).bind fun x=>(compD t c fe ds δ').bind fun r=> .ok (x::r) else compD t c fe ds δ'):=by
 rw [compD]
 rw [h]
theorem comp_filter (p:D→Bool) (f:D→D) (δ:DSt):∀ (ds:List D) (x:Option S),(∀ d∈ds,c (some (.d d)::δ)= .ok (p d)∧(p d=true→fe (some (.d d)::δ)= .ok (f d)))→compD (setI 0) c fe ds (x::δ)= .ok ((ds.filter p).map f)
 | [],_,_=>rfl
 |d::ds,x,h=>by
  obtain ⟨h1,h2⟩:=h d List.mem_cons_self
  rw [compD_cons (setI 0) d ds (x::δ) (some (.d d)::δ) rfl,h1]
  have ih:=comp_filter p f δ ds (some (.d d)) fun y hy=>h y (List.mem_cons_of_mem _ hy)
  rw [ih]
  cases hp:p d with
  |false=>rw [List.filter_cons_of_neg (by rw [hp];exact Bool.false_ne_true)];rfl
  |true=>rw [List.filter_cons_of_pos hp,h2 hp];rfl
theorem comp_map (f:D→D) (δ:DSt) (ds:List D) (x:Option S) (h:∀ d∈ds,fe (some (.d d)::δ)= .ok (f d)):compD (setI 0) (fun _=> .ok true) fe ds (x::δ)= .ok (ds.map f):=by
 rw [comp_filter (fun _=>true) f δ ds x fun d hd=>⟨rfl,fun _=>h d hd⟩]
 rw [List.filter_eq_self.mpr fun _ _=>rfl]
end
theorem asBools_map {α:Type} (f:α→Bool) (xs:List α):asBools (xs.map fun x=>D.bl (f x))=some (xs.map f):=by
 induction xs with
 |nil=>rfl
 |cons x xs ih=>simp [asBools,ih]
theorem allR_map {α:Type} (f:α→Bool) (xs:List α):allR (.lst (xs.map fun x=>D.bl (f x)))= .ok (.bl (xs.all f)):=by
 show (match asBools (xs.map fun x=>D.bl (f x)) with|some bs=>Res.ok (D.bl (bs.all id))|none=>Res.stuck)=_
 rw [asBools_map]
 simp [List.all_map]
end L3
namespace L3
open PySem PySem.Spec PyProof.Rows L2
theorem ty_str (i:Str):(tyD (.str i)=none)=False:=by simp [tyD]
def isI:D→Bool
 | .int _=>true
 |_=>false
def isB:D→Bool
 | .bl _=>true
 |_=>false
def isS:D→Bool
 | .str _=>true
 |_=>false
def isT:D→Bool
 | .tup _=>true
 |_=>false
def isL:D→Bool
 | .lst _=>true
 |_=>false
theorem isiR_int (d:D) (h:tyD d≠none):isiR "int" d= .ok (.bl (isI d||isB d)):=by cases d<;>first|exact absurd rfl h|(simp [isiR,tyD,isiB,isI,isB])
theorem isiR_bool (d:D) (h:tyD d≠none):isiR "bool" d= .ok (.bl (isB d)):=by cases d<;>first|exact absurd rfl h|(simp [isiR,tyD,isiB,isB])
theorem isiR_str (d:D) (h:tyD d≠none):isiR "str" d= .ok (.bl (isS d)):=by cases d<;>first|exact absurd rfl h|(simp [isiR,tyD,isiB,isS])
theorem isiR_tuple (d:D) (h:tyD d≠none):isiR "tuple" d= .ok (.bl (isT d)):=by cases d<;>first|exact absurd rfl h|(simp [isiR,tyD,isiB,isT])
theorem isiR_list (d:D) (h:tyD d≠none):isiR "list" d= .ok (.bl (isL d)):=by cases d<;>first|exact absurd rfl h|(simp [isiR,tyD,isiB,isL])
theorem chain_le (i j k:Int):chainR leR leR (.int i) (.int j) (.ok (.int k))= .ok (.bl (decide (i≤j∧j≤k))):=by
 unfold chainR
 rw [leR_ii]
 by_cases h:i≤j
 ·rw [decide_eq_true h]
  show leR (.int j) (.int k)=_
  rw [leR_ii];simp [h]
 ·rw [decide_eq_false h]
  simp [h,Res.bind]
theorem chain_lelt (i j k:Int):chainR leR ltR (.int i) (.int j) (.ok (.int k))= .ok (.bl (decide (i≤j∧j<k))):=by
 unfold chainR
 rw [leR_ii]
 by_cases h:i≤j
 ·rw [decide_eq_true h]
  show ltR (.int j) (.int k)=_
  rw [ltR_ii];simp [h]
 ·rw [decide_eq_false h]
  simp [h,Res.bind]
def finO:Out→Res D
 | .rt d=> .ok d
 | .nx _=> .ok .non
 |_=> .stuck
theorem runD_eq (n:Nat) (g:DSt→Out) (ds:List D):runD n g ds=finO (g (startD n ds)):=by
 unfold runD finO
 cases g (startD n ds)<;>rfl
theorem finO_rt (d:D):finO (.rt d)= .ok d:=rfl
theorem finO_nx (δ:DSt):finO (.nx δ)= .ok .non:=rfl
theorem cutD_to (xs:List D) (n:Nat):cutD xs none (some (n:Int))=xs.take n:=by
 unfold cutD
 rw [HT.sIx_nat]
 show (xs.drop 0).take (min n xs.length-0)=_
 rw [List.drop_zero,Nat.sub_zero,List.take_eq_take_iff]
 omega
end L3
namespace L3
open PySem PySem.Spec PyProof.Rows L2 SeqAt
structure XE (X:Cx) (xw:XW) (e:Expr) (f:DSt→Res D):Prop where
 h:DE X xw e f
structure XP (X:Cx) (xw:XW) (e:Expr) (f:DSt→Res D):Prop where
 h:DP X xw e f
structure XF (X:Cx) (xw:XW) (e:Expr) (f:DSt→Res (List D)):Prop where
 h:DF X xw e f
structure XT (X:Cx) (xw:XW) (e:Expr) (f:DSt→Res Bool):Prop where
 h:DT X xw e f
structure XW' (X:Cx) (xw:XW) (e:Expr) (f:DSt→Res Bool):Prop where
 h:DW X xw e f
structure XA (X:Cx) (xw:XW) (e:List Expr) (f:DSt→Res (List D)):Prop where
 h:DA X xw e f
structure XO (X:Cx) (xw:XW) (e:Option Expr) (f:DSt→Res (Option Int)):Prop where
 h:DO X xw e f
structure XG (X:Cx) (e:Expr) (f:D→DSt→Res DSt):Prop where
 h:DG X e f
structure XGs (X:Cx) (e:List Expr) (f:List D→DSt→Res DSt):Prop where
 h:DGs X e f
structure XTs (X:Cx) (e:List Expr) (f:DSt→Res Bool):Prop where
 h:DTs X e f
structure XS (X:Cx) (xw:XW) (e:Stmt) (f:DSt→Out):Prop where
 h:DS X xw e f
structure XSs (X:Cx) (xw:XW) (e:List Stmt) (f:DSt→Out):Prop where
 h:DSs X xw e f
structure XI (X:Cx) (xw:XW) (tg e:Expr) (f:DSt→Res (List D)):Prop where
 h:DI X xw tg e f
section
variable {X:Cx} {xw:XW} {e a b c:Expr} {f fa fb fc:DSt→Res D} {pos p p2:Pos} {st:Stmt} {sts as bs:List Stmt} {tg iter elt:Expr} {t:D→DSt→Res DSt} {fs:DSt→Res (List D)} {es rest:List Expr} {ga gb gc:DSt→Res Bool} {g g1 g2:DSt→Out}
 {lo hi:Option Expr} {fl fh:DSt→Res (Option Int)} {fi:DSt→Res (List D)} {scope:Scope} {ifs:List Expr} {fe:DSt→Res D}
theorem x_var (i:Nat) {x:Str} (hN:X.N[i]? =some x:=by rfl) (hv:Vis X.env.scope x:=by first|exact Or.inl rfl|exact Or.inr (Or.inl rfl)|exact Or.inr (Or.inr rfl)) (hd:(x==("__debug__":Str))=false:=by decide)
  (hcd:(x==("__classdict__":Str))=false:=by decide):XE X xw (.Name x pos) (slotD i):=⟨de_var i hN hv hd hcd⟩
theorem p_var (i:Nat) {x:Str} (hN:X.N[i]? =some x:=by rfl) (hv:Vis X.env.scope x:=by first|exact Or.inl rfl|exact Or.inr (Or.inl rfl)|exact Or.inr (Or.inr rfl)) (hd:(x==("__debug__":Str))=false:=by decide)
  (hcd:(x==("__classdict__":Str))=false:=by decide):XP X xw (.Name x pos) (slotP i):=⟨dp_var i hN hv hd hcd⟩
theorem p_of (h:XE X xw e f):XP X xw e f:=⟨DE.p h.h⟩
theorem x_globI {x:Str} {i:Int} (hm:∃ t,X.mg x=some (.int i t)) (hg:Gl X x:=by rfl) (hdb:(x==("__debug__":Str))=false:=by decide):XE X xw (.Name x pos) (kD (.int i)):=⟨de_globI hm hg hdb⟩
theorem x_globS {x y:Str} (hm:∃ t,X.mg x=some (.str y t)) (hg:Gl X x:=by rfl) (hdb:(x==("__debug__":Str))=false:=by decide):XE X xw (.Name x pos) (kD (.str y)):=⟨de_globS hm hg hdb⟩
theorem x_one {op} (h:XE X xw a fa):XE X xw (.BoolOp op [a] pos) fa:=⟨de_one h.h⟩
theorem w_and1 (ha:XT X xw a ga):XW' X xw (.BoolOp .And [a] pos) ga:=⟨dw_and1 ha.h⟩
theorem w_or1 (ha:XT X xw a ga):XW' X xw (.BoolOp .Or [a] pos) ga:=⟨dw_or1 ha.h⟩
theorem y_w (h:XW' X xw e ga):XT X xw e ga:=⟨DW.t h.h⟩
theorem f_listof (hm:X.mg "list"=none) (ha:XP X xw a fa) (hg:Gl X "list":=by rfl) (he:starEach [a] X.env=(false,eval a X.env)::starEach [] X.env:=by rfl) (hpl:(backTo pos (starEach [] X.env)).any (·.1)=false:=by rfl):
  XF X xw (.Call (.Name "list" p) [a] [] pos) (b1 seqR fa):=⟨df_listof hm ha.h hg he hpl⟩
theorem x_tuple (hm:X.mg "tuple"=none) (ha:XP X xw a fa) (hg:Gl X "tuple":=by rfl) (he:starEach [a] X.env=(false,eval a X.env)::starEach [] X.env:=by rfl) (hpl:(backTo pos (starEach [] X.env)).any (·.1)=false:=by rfl):
  XE X xw (.Call (.Name "tuple" p) [a] [] pos) (b1 tupofR fa):=⟨de_tupof hm ha.h hg he hpl⟩
theorem i_seq (h:XE X xw e f):XI X xw tg e (b1 seqR f):=⟨di_seq h.h⟩
theorem g_name (i:Nat) {x:Str} (hN:X.N.Nodup) (hi:X.N[i]? =some x:=by rfl) (hx:Loc X.env.scope x:=by first|exact Or.inl rfl|exact Or.inr rfl) (hf:X.fn x=true∨X.env.scope.names.lookup x=some .local:=by first|exact .inl rfl|exact .inr rfl|assumption):
  XG X (.Name x pos) (setI i):=⟨dg_name i hN hi hx hf⟩
theorem g_nil:XGs X [] unNil:=⟨dgs_nil⟩
theorem g_cons {tgs:List Expr} {ts:List D→DSt→Res DSt} (h1:XG X tg t) (h2:XGs X tgs ts) (hs:(assignEach (tg::tgs) X.env).map (·.2)=assign tg X.env::(assignEach tgs X.env).map (·.2):=by rfl):XGs X (tg::tgs) (unCons t ts):=⟨dgs_cons h1.h h2.h hs⟩
theorem g_tup {tgs:List Expr} {ts:List D→DSt→Res DSt} {k:Nat} {n:Nat} (hc:X.calm=true) (h:XGs X tgs ts) (hn:(assignEach tgs X.env).length=n:=by rfl) (hst:(assignEach tgs X.env).findIdx? (·.1)=none:=by rfl):XG X (.Tuple tgs k pos) (unTup n ts):=⟨dg_tup hc h.h hn hst⟩
theorem t_nil:XTs X [] (fun _=> .ok true):=⟨dts_nil⟩
theorem s_no:XS X xw st (fun _=> .stuck):=⟨ds_no⟩
theorem ss_nil:XSs X xw [] .nx:=⟨dss_nil⟩
theorem ss_one (h1:XS X xw st g1):XSs X xw [st] g1:=⟨dss_one h1.h⟩
theorem x_int {i:Int} {j}:XE X xw (.Constant (.int i) j pos) (kD (.int i)):=⟨de_int⟩
theorem x_bl {i:Bool} {j}:XE X xw (.Constant (.bool i) j pos) (kD (.bl i)):=⟨de_bl⟩
theorem x_str {i:Str} {j}:XE X xw (.Constant (.str i) j pos) (kD (.str i)):=⟨de_str⟩
theorem x_non {j}:XE X xw (.Constant .none j pos) (kD .non):=⟨de_non⟩
theorem x_add (ha:XP X xw a fa) (hb:XP X xw b fb):XE X xw (.BinOp a .Add b pos) (b2 addD fa fb):=⟨de_add ha.h hb.h⟩
theorem x_sub (ha:XP X xw a fa) (hb:XP X xw b fb):XE X xw (.BinOp a .Sub b pos) (b2 subD fa fb):=⟨de_sub ha.h hb.h⟩
theorem x_mod (ha:XP X xw a fa) (hb:XP X xw b fb):XE X xw (.BinOp a .Mod b pos) (b2 modD fa fb):=⟨de_mod ha.h hb.h⟩
theorem x_fdiv (ha:XP X xw a fa) (hb:XP X xw b fb):XE X xw (.BinOp a .FloorDiv b pos) (b2 fdivD fa fb):=⟨de_fdiv ha.h hb.h⟩
theorem x_pow (ha:XP X xw a fa) (hb:XP X xw b fb):XE X xw (.BinOp a .Pow b pos) (b2 powD fa fb):=⟨de_pow ha.h hb.h⟩
theorem x_not (ha:XE X xw a fa):XE X xw (.UnaryOp .Not a pos) (b1 notD fa):=⟨de_not ha.h⟩
theorem x_and (ha:XE X xw a fa) (hb:XE X xw (.BoolOp .And (b::rest) pos) fb):XE X xw (.BoolOp .And (a::b::rest) pos) (vAnd fa fb):=⟨de_and ha.h hb.h⟩
theorem x_or (ha:XE X xw a fa) (hb:XE X xw (.BoolOp .Or (b::rest) pos) fb):XE X xw (.BoolOp .Or (a::b::rest) pos) (vOr fa fb):=⟨de_or ha.h hb.h⟩
theorem x_cmp {o:CmpOp} {op:D→D→Res D} (hc:CmpR X xw o op) (ha:XP X xw a fa) (hb:XP X xw b fb):XE X xw (.Compare a [o] [b] pos) (b2 op fa fb):=⟨de_cmp hc ha.h hb.h⟩
theorem y_cmp {o:CmpOp} {op:D→D→Res D} (hc:CmpR X xw o op) (ha:XP X xw a fa) (hb:XP X xw b fb):XT X xw (.Compare a [o] [b] pos) (tR (b2 op fa fb)):=⟨dt_cmp hc ha.h hb.h⟩
theorem x_chain {o o':CmpOp} {op op':D→D→Res D} (hc:CmpR X xw o op) (hc':CmpR X xw o' op') (ha:XP X xw a fa) (hb:XP X xw b fb) (hcc:XP X xw c fc) (hm:lastMarks [o,o'] [b,c]=false:=by with_unfolding_all rfl):
  XE X xw (.Compare a [o,o'] [b,c] pos) (bCh op op' fa fb fc):=⟨de_chain hc hc' ha.h hb.h hcc.h hm⟩
theorem y_chain {o o':CmpOp} {op op':D→D→Res D} (hc:CmpR X xw o op) (hc':CmpR X xw o' op') (ha:XP X xw a fa) (hb:XP X xw b fb) (hcc:XP X xw c fc) (hm:lastMarks [o,o'] [b,c]=false:=by with_unfolding_all rfl):
  XT X xw (.Compare a [o,o'] [b,c] pos) (tR (bCh op op' fa fb fc)):=⟨dt_chain hc hc' ha.h hb.h hcc.h hm⟩
theorem y_isN {j pos'} (ha:XP X xw a fa):XT X xw (.Compare a [.Is] [.Constant .none j pos'] pos) (tR (b1 isNR fa)):=⟨dt_isN ha.h⟩
theorem y_val (h:XE X xw e f) (he:∀ whole,isTrue e X.env whole=(do let v ←whole;standAt e.pos;holding [v] (truthy v)):=by intro _;rfl):XT X xw e (tR f):=⟨DE.t h.h he⟩
theorem y_not (ha:XT X xw a ga):XT X xw (.UnaryOp .Not a pos) (tNot1 ga):=⟨dt_not ha.h⟩
theorem w_and (ha:XT X xw a ga) (hb:XW' X xw (.BoolOp .And (b::rest) pos) gb):XW' X xw (.BoolOp .And (a::b::rest) pos) (tAnd2 ga gb):=⟨dw_and ha.h hb.h⟩
theorem w_or (ha:XT X xw a ga) (hb:XW' X xw (.BoolOp .Or (b::rest) pos) gb):XW' X xw (.BoolOp .Or (a::b::rest) pos) (tOr2 ga gb):=⟨dw_or ha.h hb.h⟩
theorem x_if (hc:XT X xw c ga) (ha:XE X xw a fa) (hb:XE X xw b fb):XE X xw (.IfExp c a b pos) (vIf ga fa fb):=⟨de_if hc.h ha.h hb.h⟩
theorem a_nil:XA X xw [] aNil:=⟨da_nil⟩
theorem a_cons (ha:XE X xw a fa) (hr:XA X xw es fs) (hs:starEach (a::es) X.env=(false,eval a X.env)::starEach es X.env:=by rfl):XA X xw (a::es) (aCons fa fs):=⟨da_cons ha.h hr.h hs⟩
theorem x_tup {x1} (h:XA X xw es fs):XE X xw (.Tuple es x1 pos) (b1 tupR fs):=⟨de_tup h.h⟩
theorem f_lst (h:XA X xw es fs):XF X xw (.List es pos) (b1 lstR fs):=⟨df_lst h.h⟩
theorem x_new (h:XF X xw e fs):XE X xw e (asD fs):=⟨DF.de h.h⟩
theorem x_ix (ha:XP X xw a fa) (hb:XP X xw b fb) (hs:PlainIx b:=by intro _ _;rfl):XE X xw (.Subscript a b pos) (b2 ixR fa fb):=⟨de_ix ha.h hb.h hs⟩
theorem o_none:XO X xw none oNone:=⟨do_none⟩
theorem o_some (h:XE X xw e f):XO X xw (some e) (b1 partR f):=⟨do_some h.h⟩
theorem f_slL (ha:XP X xw a fa) (hl:XO X xw lo fl) (hh:XO X xw hi fh):XF X xw (.Subscript a (.Slice lo hi none p2) pos) (b3 slL fa fl fh):=⟨df_slL ha.h hl.h hh.h⟩
theorem x_len (hm:X.mg "len"=none) (ha:XP X xw a fa) (hg:Gl X "len":=by rfl) (he:starEach [a] X.env=(false,eval a X.env)::starEach [] X.env:=by rfl) (hpl:(backTo pos (starEach [] X.env)).any (·.1)=false:=by rfl):
  XE X xw (.Call (.Name "len" p) [a] [] pos) (b1 lenR fa):=⟨de_len hm ha.h hg he hpl⟩
theorem x_all (hc:X.calm=true) (hm:X.mg "all"=none) (ha:XP X xw a fa) (hg:Gl X "all":=by rfl) (he:starEach [a] X.env=(false,eval a X.env)::starEach [] X.env:=by rfl) (hpl:(backTo pos (starEach [] X.env)).any (·.1)=false:=by rfl):
  XE X xw (.Call (.Name "all" p) [a] [] pos) (b1 allR fa):=⟨de_all hc hm ha.h hg he hpl⟩
theorem x_isi {C:String} {c:Str} {p2:Pos} (hC:isiOk C) (hbc:bootBuiltins c=some (.type C)) (hm:X.mg "isinstance"=none) (hmc:X.mg c=none) (ha:XP X xw a fa) (hg:Gl X "isinstance":=by rfl) (hgc:Gl X c:=by rfl) (hcn:c≠"__name__":=by decide)
  (hcd:(c==("__debug__":Str))=false:=by decide)
  (he:starEach [a, .Name c p2] X.env=(false,eval a X.env)::starEach [.Name c p2] X.env:=by rfl) (he2:starEach [.Name c p2] X.env=(false,eval (.Name c p2) X.env)::starEach [] X.env:=by rfl)
  (hpl:(backTo pos (starEach [.Name c p2] X.env)).any (·.1)=false:=by rfl):
  XE X xw (.Call (.Name "isinstance" p) [a, .Name c p2] [] pos) (b1 (isiR C) fa):=⟨de_isi hC hbc hm hmc ha.h hg hgc hcn hcd he he2 hpl⟩
theorem x_call {k n:Nat} {x:Str} {m:List D→Res D} (F:Fn X.prog X.w X.K X.mg X.base k x n m) (hr:Room k X.A) (ha:XA X xw (a::es) fs) (hg:Gl X x:=by rfl)
  (hdb:(x==("__debug__":Str))=false:=by decide) (he:starEach (a::es) X.env=(false,eval a X.env)::starEach es X.env:=by rfl) (hpl:(backTo pos (starEach es X.env)).any (·.1)=false:=by rfl):
  XE X xw (.Call (.Name x p) (a::es) [] pos) (b1 (callR n m) fs):=⟨de_call F hr ha.h hg hdb he hpl⟩
theorem f_comp (Nc Nx:List Str) (c:CompOk X scope Nc Nx) (hcalm:X.calm=true) (hi:XI X xw tg iter fi)
  (hY:∀ (C:Addr) (fp:List Addr) (pins:List (Addr×Obj)) (s:Shared) (H:Hp),XG (compCx X scope Nc Nx C fp pins s H) tg t∧XTs (compCx X scope Nc Nx C fp pins s H) ifs gc∧XE (compCx X scope Nc Nx C fp pins s H) xwF elt fe)
  (hs:∀ x,foldedSetIterable iter X.env x=pure x:=by intro _;rfl):
  XF X xw (.ListComp elt [⟨tg,iter,ifs,0⟩] scope pos) (vComp Nc.length t gc fe fi):=⟨df_comp Nc Nx c hcalm hi.h (fun C fp pins s H=>⟨(hY C fp pins s H).1.h,(hY C fp pins s H).2.1.h,(hY C fp pins s H).2.2.h⟩) hs⟩
theorem i_range1 (hm:X.mg "range"=none) (ha:XA X xw [a] fs) (hg:Gl X "range":=by rfl) (hs:starEach [a] X.env= [(false,eval a X.env)]:=by rfl):XI X xw tg (.Call (.Name "range" p) [a] [] pos) (b1 rng1R fs):=⟨di_range1 hm ha.h hg hs⟩
theorem ss_cons (h1:XS X xw st g1) (h2:XSs X xw sts g2):XSs X xw (st::sts) (sSeq g1 g2):=⟨dss_cons h1.h h2.h⟩
theorem s_ret (he:XE X xw e f):XS X xw (.Return (some e) pos) (sRet f):=⟨ds_ret he.h⟩
theorem s_retV (i:Nat) {x:Str} {pos':Pos} (hN:X.N[i]? =some x:=by rfl) (hv:Vis X.env.scope x:=by first|exact Or.inl rfl|exact Or.inr (Or.inl rfl)|exact Or.inr (Or.inr rfl)) (hd:(x==("__debug__":Str))=false:=by decide)
  (hcd:(x==("__classdict__":Str))=false:=by decide):XS X xw (.Return (some (.Name x pos')) pos) (sRet (slotP i)):=⟨ds_retV i hN hv hd hcd⟩
theorem s_set (i:Nat) {x:Str} {pos':Pos} (hN:X.N.Nodup) (he:XE X xw e f) (hi:X.N[i]? =some x:=by rfl) (hx:Loc X.env.scope x:=by first|exact Or.inl rfl|exact Or.inr rfl) (hs:swapsWith e (some (.Name x pos')) pos.line X.env=pure false:=by rfl)
  (hf:X.fn x=true∨X.env.scope.names.lookup x=some .local:=by first|exact .inl rfl|exact .inr rfl|assumption):XS X xw (.Assign [.Name x pos'] e pos) (sSet i f):=⟨ds_set i hN he.h hi hx hs hf⟩
theorem s_own (i:Nat) {x:Str} {pos':Pos} {ff:DSt→Res (List D)} (hN:X.N.Nodup) (he:XF X xw e ff) (hi:X.N[i]? =some x:=by rfl) (hx:Loc X.env.scope x:=by first|exact Or.inl rfl|exact Or.inr rfl) (hs:swapsWith e (some (.Name x pos')) pos.line X.env=pure false:=by rfl)
  (hf:X.fn x=true∨X.env.scope.names.lookup x=some .local:=by first|exact .inl rfl|exact .inr rfl|assumption):XS X xw (.Assign [.Name x pos'] e pos) (sOwn i ff):=⟨ds_own i hN he.h hi hx hs hf⟩
theorem s_if (hc:XT X xw c ga) (ha:XSs X xw as g1) (hb:XSs X xw bs g2):XS X xw (.If c as bs pos) (sIf ga g1 g2):=⟨ds_if hc.h ha.h hb.h⟩
theorem s_for (hp:PassesOwn (model X.prog X.w) X.A X.env X.xe) (hc:X.calm=true) (hi:XI X xw tg iter fi) (hg:XG X tg t) (hb:XSs X xw sts g)
  (hs:∀ x,foldedSetIterable iter X.env x=pure x:=by intro _;rfl):XS X xw (.For tg iter sts [] pos) (sFor t g fi):=⟨ds_for hp hc hi.h hg.h hb.h hs⟩
theorem s_append (i:Nat) {x:Str} {p1 p2 p3:Pos} (he:XE X xw e f) (hN:X.N[i]? =some x:=by rfl) (hv:Vis X.env.scope x:=by first|exact Or.inl rfl|exact Or.inr (Or.inl rfl)|exact Or.inr (Or.inr rfl)) (hd:(x==("__debug__":Str))=false:=by decide)
  (hcd:(x==("__classdict__":Str))=false:=by decide)
  (hsE:starEach [e] X.env=(false,eval e X.env)::starEach [] X.env:=by rfl)
  (hbase:attributeBase (.Name x p1) "append" X.env (eval (.Name x p1) X.env)=eval (.Name x p1) X.env:=by rfl)
  (hfew:((backTo p3 (starEach [e] X.env)).all (fun x=> !x.1)&&(backToKw p3 (keywordEach [] X.env)).all (fun x=>x.1.isSome)
   &&decide (([e]:List Expr).length+([]:List Keyword).length+(if ([]:List Keyword).isEmpty then 0 else 1)<30))=true:=by rfl)
  (hline:(p2.endLine==p3.line)=true:=by rfl) (hplain:(backTo p3 (starEach [] X.env)).any (·.1)=false:=by rfl)
  (hsw:swapsWith (.Call (.Attribute (.Name x p1) "append" p2) [e] [] p3) none pos.line X.env=pure false:=by rfl):
  XS X xw (.Expr (.Call (.Attribute (.Name x p1) "append" p2) [e] [] p3) pos) (sApp i f):=⟨ds_append i he.h hN hv hd hcd hsE hbase hfew hline hplain hsw⟩
end
theorem fn_def {P:Program} {w:World} {K:PySem.W.Frag} {mg:Str→Option Value} {base:Heap} {k:Nat} {x qual:Str} {st:Stmt} {fa:Addr} {fd:FuncData} {N ps:List Str} {g:DSt→Out} (F:Fun K x qual st fa fd) (S:FnScope N ps (defScope st))
  (hm:mg x=some (.ref fa)) (hb:Binds K fd ps [])
  (body:∀ (cdv:Value) (A:Around) (outer:List Env) (s:Shared) (H:Hp) (E:XK),Room k (A.deeper (envOfC qual (defScope st) s.heap.objs.size fa cdv))→
   XSs (cxOf CX0 P w K mg base N qual (defScope st) fa cdv A outer s H E).nox xwF (defBody st) g):Fn P w K mg base (k+1) x ps.length (runD N.length g):=
 fn_body F S hm hb fun cdv A outer s H E hr=>(body cdv A outer s H E hr).h
theorem fn_law {P:Program} {w:World} {K:PySem.W.Frag} {mg:Str→Option Value} {base:Heap} {k:Nat} {x qual:Str} {st:Stmt} {fa:Addr} {fd:FuncData} {N ps:List Str} {g:DSt→Out} (F:Fun K x qual st fa fd) (S:FnScope N ps (defScope st))
  (body:∀ (cdv:Value) (A:Around) (outer:List Env) (s:Shared) (H:Hp) (E:XK),Room k (A.deeper (envOfC qual (defScope st) s.heap.objs.size fa cdv))→
   XSs (cxOf CX0 P w K mg base N qual (defScope st) fa cdv A outer s H E).nox xwF (defBody st) g):FnOk P w K mg base CX0 (k+1) fa fd ps (spD K ps.length (runD N.length g)):=
 fn_bodyO F S fun cdv A outer s H E hr=>(body cdv A outer s H E hr).h
end L3
namespace L3
open PySem PySem.Spec PyProof.Rows L2
section
variable {t:D→DSt→Res DSt} {body:DSt→Out}
theorem forD_ix (I:Nat→DSt→Prop) (ds:List D) (δ:DSt) (hb:∀ i d δ,ds[i]? =some d→I i δ→∃ δ',t d δ= .ok δ'∧∃ δ2,(body δ'= .nx δ2∨body δ'= .ct δ2)∧I (i+1) δ2) (h:I 0 δ):∃ δ2,forD t body ds δ= .nx δ2∧I ds.length δ2:=by
 induction ds generalizing I δ with
 |nil=>exact ⟨δ,rfl,h⟩
 |cons d ds ih=>
  obtain ⟨δ',e1,δ2,e2,h2⟩:=hb 0 d δ rfl h
  obtain ⟨δ3,e3,h3⟩:=ih (fun i=>I (i+1)) δ2 (fun i x δ hx hI=>hb (i+1) x δ (by simpa using hx) hI) h2
  refine ⟨δ3,?_,h3⟩
  rw [forD_cons d ds δ δ' e1]
  rcases e2 with e2|e2<;> · rw [e2];exact e3
end
section
variable {fe:DSt→Res D} {c:DSt→Res Bool}
abbrev un2:D→DSt→Res DSt:=unTup 2 (unCons (setI 0) (unCons (setI 1) unNil))
theorem compR_ok {n:Nat} {t:D→DSt→Res DSt} {δ:DSt} {ds r:List D} (h:compD t c fe ds (List.replicate n none++δ)= .ok r) (hl:ds.length≤100000):compR n t c fe δ ds= .ok r:=by
 unfold compR
 rw [if_pos hl,h];rfl
end
theorem rng1_i (j:Int) (h0:0≤j) (h:j<100000):rng1R [.int j]= .ok (rngD 0 j.toNat):=by
 unfold rng1R
 simp only
 rw [if_pos (by omega)]
theorem rngD_get {lo:Int} {n i:Nat} {d:D} (h:(rngD lo n)[i]? =some d):i<n∧d= .int (lo+i):=by
 unfold rngD at h
 rw [List.getElem?_map] at h
 have hi:i<n:=by
  refine Nat.lt_of_not_le fun z=> ?_
  rw [List.getElem?_eq_none (by simpa using z)] at h;cases h
 rw [List.getElem?_range hi] at h
 exact ⟨hi,(Option.some.inj h).symm⟩
theorem rngD_len (lo:Int) (n:Nat):(rngD lo n).length=n:=by simp [rngD]
theorem appO_eq (i:Nat) (δ:DSt) (ds:List D) (d:D) (h:δ[i]? =some (some (.o ds))) (hl:ds.length≤100000):appO i δ (.ok d)= .nx (δ.set i (some (.o (ds++ [d])))):=by
 unfold appO
 rw [h]
 show (@ite Out (ds.length≤100000) (Classical.propDecidable _) _ _)=_
 rw [if_pos hl];rfl
end L3
namespace L3
open PySem
theorem tm_fill:fillsNumberSlot (.type "tuple") "mul"=pure false:=fillsNumberSlot_seq (id:="tuple.__mul__") (r:=some (.builtin "tuple.__rmul__")) F.slot_tuple_mul.lookup (by decide +kernel) F.slot_tuple_rmul.lookup (by decide +kernel)
theorem tm_rep:seqRepeat? (.type "tuple")=pure (some (.builtin "tuple.__mul__")):=by
 unfold seqRepeat?
 rw [seqSlot_of (T:="tuple") (name:="__mul__") (id:="tuple.__mul__") F.slot_tuple_mul.lookup (by decide +kernel),seqSlot_of (T:="tuple") (name:="__rmul__") (id:="tuple.__rmul__") F.slot_tuple_rmul.lookup (by decide +kernel)];rfl
theorem tm_no (a:Int) (t:Tok) (l:Addr) (items:Array Value) (n:Nat) (dd:Option Addr) (sl:Array (Option Value)):
  Meets (Builtin.«int.__rmul__» ⟨[.int a t, .ref l],[]⟩) (fun _ R s=>s.heap.get? l=some {cls:= .type "tuple",dict:=dd,data:= .seq items n,slots:=sl}∧R (.ok (.ret Value.notImplemented)) s):=
 .of_wp fun prog w A R s h=>by
  obtain ⟨hp,g,d,tk,os⟩:=s
  obtain ⟨hl,h⟩:=h
  wp_walk
  exact ⟨_,rfl,h⟩
theorem tm_one (l:Addr) (items:Array Value) (n:Nat) (dd:Option Addr) (sl:Array (Option Value)) (u:Tok):
  Meets (Builtin.«tuple.__mul__» ⟨[.ref l, .int 1 u],[]⟩) (fun _ R s=>s.heap.get? l=some {cls:= .type "tuple",dict:=dd,data:= .seq items n,slots:=sl}∧R (.ok (.ret (Value.ref l))) s):=
 .of_wp fun prog w A R s h=>by
  obtain ⟨hp,g,d,tk,os⟩:=s
  obtain ⟨hl,h⟩:=h
  wp_walk
  exact ⟨_,rfl,h⟩
theorem tm_many (l:Addr) (items:Array Value) (n:Nat) (dd:Option Addr) (sl:Array (Option Value)) (k:Int) (u:Tok) (h0:(decide (k< -2^63)||decide (k≥2^63))=false) (h1:(items.isEmpty||k==1)=false) (h2:(decide (k≤0)||items.isEmpty)=false) (h3:¬ (items.size*k>(2^63-1) / 8)) (h4:Builtin.Tuple.tupleTooMany (items.size*k)=false) (h5:((List.replicate k.toNat items).foldl (· ++ ·) #[]).size≤sizeLine):
  Meets (Builtin.«tuple.__mul__» ⟨[.ref l, .int k u],[]⟩) (fun _ R s=>s.heap.get? l=some {cls:= .type "tuple",dict:=dd,data:= .seq items n,slots:=sl}∧R (.ok (.ret (Value.ref s.heap.objs.size))) {s with heap:=s.heap.push {cls:= .type "tuple",data:= .seq ((List.replicate k.toNat items).foldl (· ++ ·) #[])}}):=
 .of_wp fun prog w A R s h=>by
  obtain ⟨hp,g,d,tk,os⟩:=s
  obtain ⟨hl,h⟩:=h
  wp_walk
  refine wpAny_ite_false (by rw [h0];rfl) ?_
  wp_walk
  refine wpAny_ite_false (decide_eq_false h3) ?_
  wp_walk
  exact ⟨_,rfl,h⟩
end L3
namespace L3
open PySem PySem.Spec PyProof.Rows L2 SeqAt
section
variable {X:Cx} {xw:XW} {a b:Expr} {fa fb:DSt→Res D} {pos p:Pos}
theorem op_repT:OpR X (binaryOp .Mult) (fun x y H Q=>∃ l k xs,x= .ref l∧y= .int k∧SqT X.K H l xs∧xs≠ []∧1≤k∧k≤1000∧xs.length≤1000∧(k=1→Q (.ref l) H)∧(k≠1→∀ p,H p=none→Q (.ref p) (upd H p (.tup (List.replicate k.toNat xs).flatten)))):=by
 intro pins s σ H x y v u Q I rx ry h
 obtain ⟨l,k,xs,rfl,rfl,sq,hne,h1,h2,hl,q1,q2⟩:=h
 cases rx
 obtain ⟨t,rfl⟩:=ry
 obtain ⟨its,r,⟨⟨cls,dd,data,sl⟩,ho,hc,n,hd⟩,hz⟩:=I.tuple sq
 simp only at hc hd
 subst hc hd
 have hlen:=r.length
 have hi:its≠ []:=fun e=>hne (by rw [e] at hlen;exact List.eq_nil_of_length_eq_zero hlen)
 have he:its.toArray.isEmpty=false:=by cases its with
  |nil=>exact absurd rfl hi
  |cons=>simp
 have hsz:(its.toArray.size:Int)*k≤1000000:=by
  rw [List.size_toArray,←hlen]
  have h3:(xs.length:Int)*k≤1000*1000:=Int.mul_le_mul (by omega) h2 (by omega) (by decide)
  omega
 have hsz':(its.length:Int)*k≤1000000:=by simpa using hsz
 refine wpAny_binaryOp_repeat_ref (T:="tuple") (U:="int") (by decide) ⟨_,ho,rfl⟩ (fun s'=>typeIs_int s' k t) tm_fill F.fills_int_mul F.slot_int_rmul tm_rep F.slot_int_index.lookup
  (call_meets F.slot_int_rmul (typeIs_int s k t) F.entry_int_rmul (F.args_int_rmul_2 _ _) (tm_no k t l its.toArray n dd sl) ⟨ho,rfl,⟨_,ho,rfl⟩,?_⟩)
 by_cases hk:k=1
 ·subst hk
  exact call_meets F.slot_tuple_mul ⟨_,ho,rfl⟩ F.entry_tuple_mul (F.args_tuple_mul_2 _ _) (tm_one l its.toArray n dd sl t) ⟨ho,⟨.ref l,H,I,rfl,q1 rfl⟩⟩
 ·have hfl:(List.replicate k.toNat its.toArray).foldl (fun x1 x2=>x1++x2) #[]=(List.replicate k.toNat its).flatten.toArray:=by
   have:=foldl_rep its k.toNat []
   rw [List.nil_append] at this
   exact this
  have hfz:(List.replicate k.toNat its).flatten.length≤sizeLine:=by
   rw [len_rep,sizeLine_eq]
   have h3:its.length*k.toNat≤1000*1000:=Nat.mul_le_mul (by omega) (by omega)
   rw [Nat.mul_comm];omega
  refine call_meets F.slot_tuple_mul ⟨_,ho,rfl⟩ F.entry_tuple_mul (F.args_tuple_mul_2 _ _) (tm_many l its.toArray n dd sl k t ?_ ?_ ?_ ?_ ?_ ?_) ⟨ho,?_⟩
  ·simp only [Bool.or_eq_false_iff,decide_eq_false_iff_not];omega
  ·rw [he];simpa using hk
  ·rw [he];simp;omega
  ·omega
  ·unfold Builtin.Tuple.tupleTooMany
   have:((sizeLine:Nat):Int)=16777216:=by rw [sizeLine_eq];rfl
   rw [this];simp;omega
  ·rw [hfl,List.size_toArray];exact hfz
  ·rw [hfl]
   refine ⟨.ref s.heap.objs.size,_,I.laid (a:=s.heap.objs.size) (o:= .tup (List.replicate k.toNat xs).flatten) (t':=s.toks) (fun _ _ e=>Heap.get?_push_of_some _ e) (Nat.le_refl _) ⟨?_,_,r.rep k.toNat,IsTup.new _ _⟩,rfl,q2 hk _ I.fresh⟩
   rw [len_rep,sizeLine_eq]
   have h3:xs.length*k.toNat≤1000*1000:=Nat.mul_le_mul (by omega) (by omega)
   rw [Nat.mul_comm];omega
noncomputable def mulE:D→D→Res D
 | .int i, .int j=>mulD (.int i) (.int j)
 | .tup xs, .int k=>@ite (Res D) (xs≠ []∧1≤k∧k≤1000∧xs.length≤1000) (Classical.propDecidable _) (.ok (.tup (List.replicate k.toNat xs).flatten)) .stuck
 |_,_=> .stuck
theorem mulE_ii (i j:Int):mulE (.int i) (.int j)=@ite (Res D) ((-18446744073709551616<i∧i<18446744073709551616)∨(-18446744073709551616<j∧j<18446744073709551616)) (Classical.propDecidable _) (.ok (.int (i*j))) .stuck:=rfl
theorem HasL.rep {K:PySem.W.Frag} {W:WS} {H:Hp} {ds:List D} {xs:List V} (h:HasL K W H ds xs):∀ k:Nat,HasL K W H (List.replicate k ds).flatten (List.replicate k xs).flatten
 |0=>by simp [HasL]
 |k+1=>by
  rw [List.replicate_succ,List.flatten_cons,List.replicate_succ,List.flatten_cons]
  exact h.append (HasL.rep h k)
theorem x_mulE (ha:XP X xw a fa) (hb:XP X xw b fb):XE X xw (.BinOp a .Mult b pos) (b2 mulE fa fb):=⟨by
 refine de_op2 (op_mul.or op_repT) (fun W H d e v u Q w hv hu q=> ?_) ha.h hb.h
 unfold mulE at q
 split at q
 ·unfold mulD at q
  dsimp only at q
  split at q
  ·rename_i hj
   exact .inl ⟨_,_,hv.int,hu.int,hj,q.int⟩
  ·exact q.elim
 ·split at q
  ·rename_i xs k hj
   obtain ⟨l,ys,e,sq,r⟩:=hv.tup
   refine .inr ⟨l,k,ys,e,hu.int,sq,?_,hj.2.1,hj.2.2.1,by rw [←r.length];exact hj.2.2.2,fun hk=> ?_,fun _ p hp=>q.newT w hp (r.rep _)⟩
   ·intro z
    subst z
    exact hj.1 (List.eq_nil_of_length_eq_zero (by simpa using r.length))
   ·subst hk
    refine q _ H (Same.refl _) ?_
    rw [Has]
    exact ⟨l,ys,rfl,sq,by simpa using r⟩
  ·exact q.elim
 ·exact q.elim⟩
def intsOf:List D→Option (List Int)
 | []=>some []
 | .int i::r=>(intsOf r).map (i:: ·)
 |_=>none
theorem intsOf_eq:∀ {ds:List D} {ns:List Int},intsOf ds=some ns→ds=ns.map D.int
 | [],ns,h=>by rw [intsOf] at h;cases h;rfl
 | .int i::r,ns,h=>by
  rw [intsOf] at h
  obtain ⟨ms,h1,rfl⟩:=Option.map_eq_some_iff.mp h
  rw [List.map_cons,intsOf_eq h1]
 | .non::_,_,h=>by simp [intsOf] at h
 | .bl _::_,_,h=>by simp [intsOf] at h
 | .str _::_,_,h=>by simp [intsOf] at h
 | .tup _::_,_,h=>by simp [intsOf] at h
 | .lst _::_,_,h=>by simp [intsOf] at h
 | .dct _ _::_,_,h=>by simp [intsOf] at h
 | .exc _ _::_,_,h=>by simp [intsOf] at h
 | .obj _ _ _::_,_,h=>by simp [intsOf] at h
def tupT (ns:List Int):Str:=(PyData.tuple (ns.map PyData.int)).shown
theorem readsAll_ints {h:Heap}:∀ {us:List Value} {ns:List Int},IntsAre us ns→ReadsAll h us (ns.map PyData.int) []
 |_,_, .nil=> .nil
 |_,_, .cons n t r=> .cons (.int n t) (readsAll_ints r)
theorem call_strT {k:Nat} (hr:Room k X.A):CallR X (.type "str") (fun xs H Q=>∃ a ns,xs= [.ref a]∧SqT X.K H a (ns.map V.int)∧(PyData.tuple (ns.map PyData.int)).showable=true∧(tupT ns).length≤sizeLine∧Q (.str (tupT ns)) H):=by
 intro pins s σ H xs us Q I r h
 obtain ⟨a,ns,rfl,sq,hs,hz,q⟩:=h
 obtain ⟨u,rfl,rx⟩:=vals1 r
 cases (show u=Value.ref a from rx)
 obtain ⟨its,rv,⟨o,ho,hc,n,hd⟩,_⟩:=I.tuple sq
 have hI:IntsAre its ns:=intsAre_of rv
 have rd:Reads s.heap (.ref a) (.tuple (ns.map PyData.int)) []:= .tuple ho hc hd (by simpa using readsAll_ints hI)
 have hdict:∀ ms:List Int,PyData.hasDictAll (ms.map PyData.int)=false:=fun ms=>by
  induction ms with
  |nil=>rfl
  |cons m ms ih=>rw [List.map_cons,PyData.hasDictAll,ih];rfl
 have hdep:∀ ms:List Int,PyData.depthAll (ms.map PyData.int)≤1:=fun ms=>by
  induction ms with
  |nil=>simp [PyData.depthAll]
  |cons m ms ih=>rw [List.map_cons,PyData.depthAll];simp [PyData.depth];omega
 refine str_of_reads rd hs (fun z=>by rw [PyData.hasDict,hdict] at z;cases z) hr.gd ?_ (fun _ _ e=>e) (fun h' u tk hk=>⟨.str (tupT ns),H,I.kept (t':=tk) hk,⟨u,rfl⟩,q⟩) hz
 have:=hr.units
 have:=hdep ns
 rw [PyData.depth]
 omega
noncomputable def strR:D→Res D
 | .int i=>@ite (Res D) (i.natAbs.log2<1920) (Classical.propDecidable _) (.ok (.str (toString i))) .stuck
 | .tup ds=>match intsOf ds with
  |some ns=>@ite (Res D) ((PyData.tuple (ns.map PyData.int)).showable=true∧(tupT ns).length≤sizeLine) (Classical.propDecidable _) (.ok (.str (tupT ns))) .stuck
  |none=> .stuck
 |_=> .stuck
theorem x_strof {k:Nat} (hr:Room k X.A) (hm:X.mg "str"=none) (ha:XP X xw a fa) (hg:Gl X "str":=by rfl) (he:starEach [a] X.env=(false,eval a X.env)::starEach [] X.env:=by rfl) (hpl:(backTo pos (starEach [] X.env)).any (·.1)=false:=by rfl):
  XE X xw (.Call (.Name "str" p) [a] [] pos) (b1 strR fa):=⟨
 de_callT1 (call_str_int.or (call_strT hr)) (fun W H d v Q w hv q=>by
  unfold strR at q
  split at q
  ·split at q
   ·rename_i i hi
    exact .inl ⟨i,by rw [hv.int],hi,q.str⟩
   ·exact q.elim
  ·split at q
   ·rename_i ns hn
    split at q
    ·rename_i hz
     obtain ⟨a,xs,e,sq,r⟩:=hv.tup
     rw [intsOf_eq hn] at r
     have ex:xs=ns.map V.int:=by
      clear sq q hz hn
      induction ns generalizing xs with
      |nil=>rw [List.map_nil,HasL] at r;exact r
      |cons n ns ih=>
       rw [List.map_cons,HasL] at r
       obtain ⟨x,r',rfl,h1,h2⟩:=r
       rw [Has] at h1
       rw [h1,ih _ h2];rfl
     rw [ex] at sq
     exact .inr ⟨a,ns,by rw [e],sq,hz.1,hz.2,q.str⟩
    ·exact q.elim
   ·exact q.elim
  ·exact q.elim) hm (by decide +kernel) ha.h hg (by decide) (by decide) he hpl⟩
end
end L3
namespace L3
open PySem PySem.Spec PyProof.Rows L2 SeqAt
section
variable {K:PySem.W.Frag} {W₀ W:WS} {H₀ H H':Hp} {σ:L2.St} {δ:DSt}
theorem StHas.freeze {i:Nat} {ds:List D} {a:Addr} (h:StHas K W₀ H₀ W H σ δ) (hi:δ[i]? =some (some (.o ds))) (hs:σ[i]? =some (some (.ref a))):
  StHas K W₀ H₀ (fun b=>W b∧b≠a) H σ (δ.set i (some (.d (.lst ds))))∧Has K (fun b=>W b∧b≠a) H (.lst ds) (.ref a):=by
 obtain ⟨v,h1,b,xs,e',hW,h0,h3,h4⟩:=h.at' i _ hi
 rw [hs] at h1
 cases h1
 cases e'
 have hd:Has K (fun b=>W b∧b≠a) H (.lst ds) (.ref a):=by
  rw [Has]
  exact ⟨a,xs,rfl, .inl ⟨h3,fun z=>z.2 rfl⟩,HasL.keep (fun _ _ e _=>e) h.fr.wl (fun b z=> .inl z.1) h4⟩
 exact ⟨h.freezeG (owo ds) hi hs hd,hd⟩
end
section
variable {X:Cx} {xw:XW} {pos p p2:Pos} {tg a b c:Expr} {fa fb:DSt→Res D} {fs:DSt→Res (List D)}
def b2F (op:D→D→Res (List D)) (f g:DSt→Res D):DSt→Res (List D):=fun δ=>(f δ).bind fun x=>(g δ).bind fun y=>op x y
noncomputable def catR:D→D→Res (List D)
 | .lst xs, .lst ys=>@ite (Res (List D)) (xs.length+ys.length≤sizeLine) (Classical.propDecidable _) (.ok (xs++ys)) .stuck
 |_,_=> .stuck
theorem op_catL:OpR X (binaryOp .Add) (fun x y H Q=>∃ l b xs zs,x= .ref l∧y= .ref b∧SqL X.K H l xs∧SqL X.K H b zs∧xs.length+zs.length≤sizeLine∧∀ p,H p=none→Q (.ref p) (upd H p (.lst (xs++zs)))):=by
 intro pins s σ H x y v u Q I rx ry h
 obtain ⟨l,b,xs,zs,rfl,rfl,hH,hB,hz,q⟩:=h
 cases rx
 cases ry
 obtain ⟨its,r,⟨⟨cls,dd,data,sl⟩,n,e,hc,hd,hs⟩,hz1⟩:=I.list hH
 obtain ⟨its2,r2,⟨⟨cls2,dd2,data2,sl2⟩,n2,e2,hc2,hd2,hs2⟩,hz2⟩:=I.list hB
 simp only at hc hd hs hc2 hd2 hs2
 subst hc hd hs hc2 hd2 hs2
 have hl:=r.length
 have hl2:=r2.length
 refine concat_meets ⟨_,e,rfl⟩ ⟨_,e2,rfl⟩ noFill_list_add seq_list_add PySem.F.slot_list_add PySem.F.entry_list_add (PySem.F.args_list_add_2 _ _) (list_addW l b its.toArray its2.toArray n n2 none none sl sl2 (by rw [List.size_toArray,List.size_toArray];omega)) ⟨e,e2,?_⟩
 have ea:its.toArray++its2.toArray=(its++its2).toArray:=by simp
 rw [ea]
 exact ⟨.ref _,_,I.lnew (t':=s.toks) (r.append r2) (by rw [List.length_append];omega),rfl,q _ I.fresh⟩
theorem two_readF {σ:L2.St} {H:Hp} {W₀ W:WS} {H₀:Hp} {δ:DSt} {op:D→D→Res (List D)} {Q:VK} {R:V→V→Hp→Prop} (st:StHas X.K W₀ H₀ W H σ δ)
  (q:RF X.K xw W H ((fa δ).bind fun x=>(fb δ).bind fun y=>op x y) Q)
  (h:∀ H2 d e v u,Same H H2→WL W H2→HasT X.K W H2 d v→HasT X.K W H2 e u→RF X.K xw W H2 (op d e) Q→R v u H2):
  tDP X.K xw fa σ H fun x H1=>tDP X.K xw fb σ H1 fun y H2=>R x y H2:=by
 refine ⟨W₀,H₀,W,δ,st,?_⟩
 cases h1:fa δ with
 |stuck=>rw [h1] at q;exact q
 |ex c fs=>rw [h1] at q;exact q
 |ok d=>
  rw [h1] at q
  intro v H1 k1 hv
  refine ⟨W₀,H₀,W,δ,st.same k1,?_⟩
  have q':RF X.K xw W H ((fb δ).bind fun y=>op d y) Q:=q
  cases h2:fb δ with
  |stuck=>rw [h2] at q';exact q'
  |ex c fs=>rw [h2] at q';exact fun H2 k2=>q' H2 (k1.trans k2)
  |ok e=>
   rw [h2] at q'
   intro u H2 k2 hu
   have q2:RF X.K xw W H (op d e) Q:=q'
   exact h H2 d e v u (k1.trans k2) (st.fr.wl.same (k1.trans k2)) (hv.same k2 (st.fr.wl.same k1)) hu (RF.same q2 (k1.trans k2))
theorem f_cat (ha:XP X xw a fa) (hb:XP X xw b fb):XF X xw (.BinOp a .Add b pos) (b2F catR fa fb):=
 ⟨PE.weak (pe_op op_catL ha.h hb.h) fun σ H Q ⟨W₀,H₀,W,δ,st,q⟩=>two_readF st q fun H2 d e v u k w hv hu q2=>by
  unfold catR at q2
  split at q2
  ·split at q2
   ·rename_i hz
    obtain ⟨a1,xs,e1,s1,r1⟩:=hv.lst
    obtain ⟨a2,ys,e2,s2,r2⟩:=hu.lst
    exact ⟨a1,a2,xs,ys,e1,e2,s1,s2,by rw [←r1.length,←r2.length];exact hz,fun p hp=>q2 p _ H2 (Same.refl _) hp (r1.append r2)⟩
   ·exact q2.elim
  ·exact q2.elim⟩
end
end L3
namespace L3
open PySem PySem.Spec PyProof.Rows L2 SeqAt
def flatD:D→Bool
 | .non=>true
 | .bl _=>true
 | .int _=>true
 | .str _=>true
 |_=>false
section
variable {K:PySem.W.Frag} {W:WS} {H:Hp}
theorem flat_has {d:D} {v:V} (h:Has K W H d v) (f:flatD d=true):flatV v=true:=by
 cases d with
 |non=>rw [Has] at h;subst h;rfl
 |bl b=>rw [Has] at h;subst h;rfl
 |int i=>rw [Has] at h;subst h;rfl
 |str x=>rw [Has] at h;subst h;rfl
 |_=>cases f
theorem eq_has {d e:D} {v u:V} (h:Has K W H d v) (g:Has K W H e u) (f:flatD d=true) (f2:flatD e=true):eqV v u=eqD d e:=by
 cases d with
 |non=>rw [Has] at h;subst h;cases e<;>first|exact absurd (show false=true from f2) Bool.false_ne_true|(rw [Has] at g;subst g;simp [eqV,eqD])
 |bl b=>rw [Has] at h;subst h;cases e<;>first|exact absurd (show false=true from f2) Bool.false_ne_true|(rw [Has] at g;subst g;simp [eqV,eqD])
 |int i=>rw [Has] at h;subst h;cases e<;>first|exact absurd (show false=true from f2) Bool.false_ne_true|(rw [Has] at g;subst g;simp [eqV,eqD])
 |str x=>rw [Has] at h;subst h;cases e<;>first|exact absurd (show false=true from f2) Bool.false_ne_true|(rw [Has] at g;subst g;simp [eqV,eqD])
 |_=>cases f
theorem in_has {d:D} {v:V} (h:Has K W H d v) (f:flatD d=true):∀ {ds:List D} {xs:List V},HasL K W H ds xs→ds.all flatD=true→xs.all flatV=true∧inV v xs=ds.any (fun y=>eqD y d)
 | [],_,r,_=>by rw [HasL] at r;subst r;exact ⟨rfl,rfl⟩
 |e::ds,_,r,fs=>by
  rw [HasL] at r
  obtain ⟨x,q,rfl,hx,hq⟩:=r
  rw [List.all_cons,Bool.and_eq_true] at fs
  obtain ⟨h1,h2⟩:=in_has h f hq fs.2
  refine ⟨by rw [List.all_cons,flat_has hx fs.1,h1];rfl,?_⟩
  show (eqV x v||inV v q)=(eqD e d||ds.any fun y=>eqD y d)
  rw [eq_has hx h fs.1 f,h2]
end
def subS (i j:Str):Bool:= !(Builtin.Str.occurrences j i 0 j.length 1).isEmpty
def inB (d:D) (ds:List D):Bool:=ds.any fun y=>eqD y d
def inR:D→D→Res D
 | .str i, .str j=> .ok (.bl (subS i j))
 |d, .tup ds=>if (flatD d&&ds.all flatD)=true then .ok (.bl (inB d ds)) else .stuck
 |d, .lst ds=>if (flatD d&&ds.all flatD)=true then .ok (.bl (inB d ds)) else .stuck
 |_,_=> .stuck
section
variable {X:Cx} {xw:XW} {pos p p2:Pos} {tg a b c e:Expr} {f fa fb:DSt→Res D} {fs:DSt→Res (List D)}
theorem flatT {K:PySem.W.Frag} {W:WS} {H:Hp} {d:D} {v:V} (h:HasT K W H d v) (f:flatD d=true):Has K W H d v:=by
 rcases h with h|⟨ds,_,_,rfl,_⟩
 ·exact h
 ·cases f
theorem op2_in:Op2 X xw (fun x y H Q=>(∃ i j,x= .str i∧y= .str j∧Q (.bl (!(Builtin.Str.occurrences j i 0 j.length 1).isEmpty)) H)∨rIn X.K false x y H Q) inR:=by
 intro W H d e v u Q w hv hu q
 unfold inR at q
 split at q
 ·exact .inl ⟨_,_,hv.str,hu.str,q.bl⟩
 ·split at q
  ·rename_i hf
   rw [Bool.and_eq_true] at hf
   obtain ⟨a1,xs,e1,sq,r⟩:=hu.tup
   obtain ⟨h1,h2⟩:=in_has (flatT hv hf.1) hf.1 r hf.2
   exact .inr ⟨a1,xs,e1, .inr sq,flat_has (flatT hv hf.1) hf.1,h1,by rw [if_neg Bool.false_ne_true,h2];exact q.bl⟩
  ·exact q.elim
 ·split at q
  ·rename_i hf
   rw [Bool.and_eq_true] at hf
   obtain ⟨a1,xs,e1,sq,r⟩:=hu.lst
   obtain ⟨h1,h2⟩:=in_has (flatT hv hf.1) hf.1 r hf.2
   exact .inr ⟨a1,xs,e1, .inl sq,flat_has (flatT hv hf.1) hf.1,h1,by rw [if_neg Bool.false_ne_true,h2];exact q.bl⟩
  ·exact q.elim
 ·exact q.elim
theorem x_in (ha:XP X xw a fa) (hb:XP X xw b fb) (hm:behindInMarks .In b=false:=by rfl):XE X xw (.Compare a [.In] [b] pos) (b2 inR fa fb):=
 ⟨PE.weak (pe_cmpR (op_in_str.or op_in_seq) ha.h hb.h hm) fun σ H Q ⟨W₀,H₀,W,δ,st,q⟩=>two_read st q fun H2 d e v u k w hv hu _ _ q2=>op2_in W H2 d e v u Q w hv hu q2⟩
theorem y_in (ha:XP X xw a fa) (hb:XP X xw b fb) (hm:behindInMarks .In b=false:=by rfl):XT X xw (.Compare a [.In] [b] pos) (tR (b2 inR fa fb)):=
 ⟨DE.t_of (f:=b2 inR fa fb) (PT.weak (pt_cmpR (op_in_str.or op_in_seq) ha.h hb.h hm) fun σ H Q ⟨W₀,H₀,W,δ,st,q⟩=>two_read st q fun H2 d e v u k w hv hu _ _ q2=>op2_in W H2 d e v u _ w hv hu q2)⟩
def Its (x:Str):It:=⟨fun i _=>i<x.cps.size,fun i H v H'=>H'=H∧∃ c,x.cps[i]? =some c∧v= .str ⟨#[c]⟩,fun i _=>i=x.cps.size⟩
theorem turn_strA {P:Program} {w:World} {K:PySem.W.Frag} {tg:Expr} (it:Addr) (x:Str) (t:Tok):Turn P w K tg (Its x) [it] it (fun i h=>h.IsStrIter it "str_ascii_iterator" x t i) where
 mem:=by simp
 obj:=fun i h st b hb=>by
  have e:b=it:=by simpa using hb
  subst e
  obtain ⟨o,e,c,d⟩:=st
  exact ⟨o,e,fun v z=>by rw [d] at z;cases z⟩
 keep:=fun i h h' st k=>let ⟨o,ho,r⟩:=st;⟨o,k it (by simp) o ho,r⟩
 item:=by
  intro X hP hw hK hc i pins s σ H E I hf st hg
  subst hP hw hK
  obtain ⟨f0,f1,f2,f3,f4,f5⟩:=hf it (by simp)
  have W:=Walks.strAscii (prog:=X.prog) (w:=X.w) (I.ok.hd hc) it x t
  refine W.item i s _ _ hg st fun v h' tk hv st' kk=> ?_
  obtain ⟨c,u,hcx,rfl⟩:=hv
  have I1:Inv X pins σ H {s with heap:=h',toks:=tk}:=I.turned (fun b o hb e=>kk b o (by simpa using hb) e) f0 f1 f3 f4 f5
  obtain ⟨o,e,cc,d⟩:=id st'
  exact ⟨_,rfl,go_of (s:= {s with heap:=h',toks:=tk}) e cc d (by decide) ⟨.str ⟨#[c]⟩,H,I1,⟨u,rfl⟩,⟨rfl,c,hcx,rfl⟩,st',fun b hb=>(hf b hb).1⟩⟩
 done:=by
  intro X hP hw hK hc i pins s σ H E I hf st hg
  subst hP hw hK
  have hi:i=x.cps.size:=hg
  subst hi
  obtain ⟨f0,f1,f2,f3,f4,f5⟩:=hf it (by simp)
  have W:=Walks.strAscii (prog:=X.prog) (w:=X.w) (I.ok.hd hc) it x t
  exact W.done s _ _ st fun h' tk eb=>⟨rfl,I.turned (fun b o hb e=>eb b o (by simpa using hb) e) f0 f1 f3 f4 f5⟩
 self:=fun _ _ _ _ _ st h=>wpAny_pyIter_striter_ascii st h
theorem turn_strW {P:Program} {w:World} {K:PySem.W.Frag} {tg:Expr} (it:Addr) (x:Str) (t:Tok):Turn P w K tg (Its x) [it] it (fun i h=>h.IsStrIter it "str_iterator" x t i) where
 mem:=by simp
 obj:=fun i h st b hb=>by
  have e:b=it:=by simpa using hb
  subst e
  obtain ⟨o,e,c,d⟩:=st
  exact ⟨o,e,fun v z=>by rw [d] at z;cases z⟩
 keep:=fun i h h' st k=>let ⟨o,ho,r⟩:=st;⟨o,k it (by simp) o ho,r⟩
 item:=by
  intro X hP hw hK hc i pins s σ H E I hf st hg
  subst hP hw hK
  obtain ⟨f0,f1,f2,f3,f4,f5⟩:=hf it (by simp)
  have W:=Walks.strWide (prog:=X.prog) (w:=X.w) (I.ok.hd hc) it x t
  refine W.item i s _ _ hg st fun v h' tk hv st' kk=> ?_
  obtain ⟨c,u,hcx,rfl⟩:=hv
  have I1:Inv X pins σ H {s with heap:=h',toks:=tk}:=I.turned (fun b o hb e=>kk b o (by simpa using hb) e) f0 f1 f3 f4 f5
  obtain ⟨o,e,cc,d⟩:=id st'
  exact ⟨_,rfl,go_of (s:= {s with heap:=h',toks:=tk}) e cc d (by decide) ⟨.str ⟨#[c]⟩,H,I1,⟨u,rfl⟩,⟨rfl,c,hcx,rfl⟩,st',fun b hb=>(hf b hb).1⟩⟩
 done:=by
  intro X hP hw hK hc i pins s σ H E I hf st hg
  subst hP hw hK
  have hi:i=x.cps.size:=hg
  subst hi
  obtain ⟨f0,f1,f2,f3,f4,f5⟩:=hf it (by simp)
  have W:=Walks.strWide (prog:=X.prog) (w:=X.w) (I.ok.hd hc) it x t
  exact W.done s _ _ st fun h' tk eb=>⟨rfl,I.turned (fun b o hb e=>eb b o (by simpa using hb) e) f0 f1 f3 f4 f5⟩
 self:=fun _ _ _ _ _ st h=>wpAny_pyIter_striter_wide st h
def iStr (tl:TE):TI:=fun σ H R=>tl σ H fun v H1=>∃ x,v= .str x∧R (Its x) H1
theorem pi_str {l:Expr} {tl:TE} (hl:PE X l tl):PI X tg l (iStr tl):=by
 intro pins s σ H R I h
 refine thn (hl pins s σ H _ I h) fun v s1 ⟨x,H1,I1,r1,q1⟩=> ?_
 obtain ⟨y,e,q⟩:=q1
 subst e
 obtain ⟨t,rfl⟩:=r1
 have key:∀ (T:String) (o:Obj),(s1.heap.push o).IsStrIter s1.heap.objs.size T y t 0→Turn X.prog X.w X.K tg (Its y) [s1.heap.objs.size] s1.heap.objs.size (fun i h=>h.IsStrIter s1.heap.objs.size T y t i)→PIE X pins σ tg R (.ref s1.heap.objs.size) {s1 with heap:=s1.heap.push o}:=fun T o h1 h2=>by
  refine ⟨s1.heap.objs.size,[s1.heap.objs.size],_,_,H1,rfl,I1.kept (t':=s1.toks) fun b o e=>Heap.get?_push_of_some _ e,h2,h1,fun b hb=> ?_,q⟩
  have e:b=s1.heap.objs.size:=by simpa using hb
  subst e
  exact I1.fpOk (Nat.le_refl _) (I1.hok.fresh (Nat.le_refl _))
 cases ha:y.cps.all (· <128)
 ·exact wpAny_pyIter_wide ha (key _ _ ⟨_,Heap.get?_push_size _ rfl,rfl,rfl⟩ (turn_strW _ _ _))
 ·exact wpAny_pyIter_ascii ha (key _ _ ⟨_,Heap.get?_push_size _ rfl,rfl,rfl⟩ (turn_strA _ _ _))
def signL (x:Str):List D:=x.cps.toList.map fun c=>D.str ⟨#[c]⟩
def signR:D→Res (List D)
 | .str x=> .ok (signL x)
 |_=> .stuck
theorem its_ok {K:PySem.W.Frag} {W:WS} {H:Hp} (x:Str):ItOk K W H (Its x) (signL x):=by
 intro W' H2 k w2
 unfold signL
 refine ⟨fun i d e=> ?_,by simp [Its]⟩
 rw [List.getElem?_map] at e
 obtain ⟨c,hc,rfl⟩:=Option.map_eq_some_iff.mp e
 have hc':x.cps[i]? =some c:=by simpa using hc
 have hi:i<x.cps.size:=by
  refine Nat.lt_of_not_le fun z=> ?_
  rw [Array.getElem?_eq_none z] at hc';cases hc'
 refine ⟨hi,fun v H3 z=> ?_⟩
 obtain ⟨rfl,c',e',rfl⟩:=z
 rw [hc'] at e'
 cases e'
 exact ⟨Same.refl _,by rw [Has]⟩
theorem i_str (h:XE X xw e f):XI X xw tg e (b1 signR f):=⟨PI.weak (pi_str h.h) fun σ H R ⟨W₀,H₀,W,δ,st,q⟩=>by
 refine ⟨W₀,H₀,W,δ,st,?_⟩
 unfold b1 at q
 cases h1:f δ with
 |stuck=>rw [h1] at q;exact q
 |ex c fs=>rw [h1] at q;exact q
 |ok d=>
  rw [h1] at q
  intro v H1 k1 hv
  cases d with
  |str x=>
   rw [Has] at hv
   exact ⟨x,hv,q _ H1 k1 (its_ok x)⟩
  |_=>exact q.elim⟩
def rSlS:V→Option Int→Option Int→Hp→VK→Prop:=fun x lo hi H Q=>∃ z,x= .str z∧z.length≤sizeLine∧Q (.str (PySem.Txt.slice z lo hi)) H
theorem part_of {v:Value} {o:Option Int} (h:IsPart v o):∃ l:Option (Int×Tok),v=partValue l∧l.map (·.1)=o:=by
 cases h with
 |none=>exact ⟨none,rfl,rfl⟩
 |int i t=>exact ⟨some (i,t),rfl,rfl⟩
theorem sl_str:SlR X rSlS:=by
 intro pins s σ H x v vl vu lo hi sl Q I rx hs pl pu h
 obtain ⟨z,rfl,hz,q⟩:=h
 obtain ⟨t,rfl⟩:=rx
 obtain ⟨l,rfl,rfl⟩:=part_of pl
 obtain ⟨u,rfl,rfl⟩:=part_of pu
 refine ⟨"str",_,F.slot_str_getitem.lookup,typeIs_str _ _ _,wpAny_getItem_str_slice (l:=l) (u:=u) (st:=none) hs rfl ?_⟩
 exact post_val_or_str ⟨Nat.le_trans (PySem.Txt.slice_le z _ _) hz,fun t' k=>⟨.str _,H,I.tok _,⟨t',rfl⟩,q⟩⟩
noncomputable def slS (d:D) (lo hi:Option Int):Res D:=match d with
 | .str z=>@ite (Res D) (z.length≤sizeLine) (Classical.propDecidable _) (.ok (.str (PySem.Txt.slice z lo hi))) .stuck
 |_=> .stuck
variable {lo hi:Option Expr} {fl fh:DSt→Res (Option Int)}
theorem x_slS (ha:XP X xw a fa) (hl:XO X xw lo fl) (hh:XO X xw hi fh):XE X xw (.Subscript a (.Slice lo hi none p2) pos) (b3 slS fa fl fh):=
 ⟨PE.weak (pe_slice sl_str ha.h hl.h hh.h) fun σ H Q ⟨W₀,H₀,W,δ,st,q⟩=>sl_read (G:=fun H r=>RE X.K xw W H r Q) st (fun _ _ _ q=>q) (fun _ q=>q) (fun _ _ _ k q=>RE.same q k) q fun H2 d v l u k w hv q2=>by
  unfold slS at q2
  split at q2
  ·split at q2
   ·rename_i hz
    exact ⟨_,hv.str,hz,q2.str⟩
   ·exact q2.elim
  ·exact q2.elim⟩
theorem vals_has {K:PySem.W.Frag} {W:WS} {H:Hp} (xs:List Str):HasL K W H (xs.map D.str) (xs.map V.str):=by
 induction xs with
 |nil=>exact HasL.nil
 |cons x xs ih=>exact HasL.cons (by rw [Has]) ih
structure GlobT (K:PySem.W.Frag) (mg:Str→Option Value) (x:Str) (xs:List Str):Prop where
 h:∃ (ad:Addr) (o:Obj) (its:Array Value) (n:Nat),mg x=some (.ref ad)∧K.lookup ad=some o∧o.cls= .type "tuple"∧o.data= .seq its n∧its.size≤sizeLine∧Vals (xs.map V.str) its.toList
theorem x_globT {x:Str} {xs:List Str} (hm:GlobT X.K X.mg x xs) (hg:Gl X x:=by rfl) (hdb:(x==("__debug__":Str))=false:=by decide):XE X xw (.Name x pos) (kD (.tup (xs.map D.str))):=by
 obtain ⟨ad,o,its,n,h1,h2,h3,h4,h5,h6⟩:=hm.h
 refine ⟨de_glob (v:= .ref ad) h1 rfl (fun W H=> ?_) hg hdb⟩
 rw [Has]
 exact ⟨ad,xs.map V.str,rfl, .inr ⟨o,its,n,h2,h3,h4,h5,h6⟩,vals_has xs⟩
theorem rel_key {P:Program} {w:World} {k:Key} {u:Value} (r:RelV (kV k) u):(mixKind P w).is k u=true:=by
 cases k with
 |inl i=>obtain ⟨t,rfl⟩:=r;exact mixKind_int P w i t
 |inr x=>obtain ⟨t,rfl⟩:=r;exact mixKind_str P w x t
def keyD:D→Option Key
 | .str x=>some (.inr x)
 | .int i=>some (.inl i)
 |_=>none
theorem flat_any {K:PySem.W.Frag} {W W':WS} {H H':Hp} {d:D} {v:V} (h:Has K W H d v) (f:flatD d=true):Has K W' H' d v:=by
 cases d with
 |non=>rw [Has] at h ⊢;exact h
 |bl b=>rw [Has] at h ⊢;exact h
 |int i=>rw [Has] at h ⊢;exact h
 |str x=>rw [Has] at h ⊢;exact h
 |_=>cases f
end
end L3
namespace L3
open PySem PySem.Spec PyProof.Rows L2 SeqAt
open Builtin Builtin.Str
theorem vals_numbered:∀ (tk:Nat) (xs:List Str),Vals (xs.map V.str) (strsFrom tk xs)
 |_,[]=> .nil
 |tk,x::r=> .cons ⟨tk,rfl⟩ (vals_numbered (tk+1) r)
theorem split_len (x y:Str) (h:(partsBetween x (occurrences x y 0 x.length (x.length+1)) y.length).length≤1000):(PySem.Txt.split x y).length≤1000:=by
 unfold PySem.Txt.split
 split
 ·simp
 ·split
  ·simp
  ·exact h
section
variable {X:Cx} {xw:XW} {pos p p2 apos cpos:Pos} {tg a b c e o:Expr} {es:List Expr} {f fa fb:DSt→Res D} {fs:DSt→Res (List D)}
def rSplit:V→List V→Hp→VK→Prop:=fun x vs H Q=>∃ z y,x= .str z∧vs= [.str y]∧(y.length==0)=false∧z.length≤1000∧(partsBetween z (occurrences z y 0 z.length (z.length+1)) y.length).length≤1000∧
 ∀ p,H p=none→Q (.ref p) (upd H p (.lst ((PySem.Txt.split z y).map V.str)))
theorem mt_split:MtR X "str.split" rSplit:=by
 intro pins s σ H x vs v us Q I rx rv h
 obtain ⟨z,y,rfl,rfl,hy,hz,hp,q⟩:=h
 obtain ⟨t,rfl⟩:=rx
 obtain ⟨u',rfl,ru⟩:=rv.one
 obtain ⟨u,rfl⟩:=ru
 have hz':z.length≤sizeLine:=Nat.le_trans hz k1000
 have hp':=Nat.le_trans hp k1000
 have hs:=Nat.le_trans (split_len z y hp) k1000
 have one:PySem.Txt.split z y= [z]→∀ tk,EP X pins σ Q (.ref s.heap.objs.size) {s with heap:=s.heap.push {cls:= .type "list",data:= .seq [Value.str z t].toArray},toks:=tk}:=fun e tk=>by
  rw [e] at q
  exact ⟨.ref _,_,I.lnew (t':=tk) (ys:= [.str z]) (its:= [.str z t]) (.cons ⟨t,rfl⟩ .nil) (by rw [sizeLine_eq,List.length_singleton];decide),rfl,q _ I.fresh⟩
 cases h1:(decide (z.length<y.length)||decide (strKind z<strKind y))
 ·cases hf:(occurrences z y 0 z.length (z.length+1)).isEmpty
  ·refine call_meets F.slot_str_split (typeIs_str _ _ _) F.entry_str_split (F.args_str_split_2 _ _) (meets_str_split_sep z y t u h1 hy hf hz' hp') ?_
   have e:PySem.Txt.split z y=partsBetween z (occurrences z y 0 z.length (z.length+1)) y.length:=(if_neg (ne_true_of_eq_false h1)).trans (if_neg (ne_true_of_eq_false hf))
   rw [e] at q hs
   exact ⟨.ref _,_,I.lnew (vals_numbered s.toks _) (by rw [List.length_map];exact hs),rfl,q _ I.fresh⟩
  ·exact call_meets F.slot_str_split (typeIs_str _ _ _) F.entry_str_split (F.args_str_split_2 _ _) (meets_str_split_not_found z y t u h1 hy hf) (one ((if_neg (ne_true_of_eq_false h1)).trans (if_pos hf)) s.toks)
 ·exact call_meets F.slot_str_split (typeIs_str _ _ _) F.entry_str_split (F.args_str_split_2 _ _) (meets_str_split_cannot_occur z y t u h1) (one (if_pos h1) s.toks)
def bM {α:Type} (op:Str→List D→Res α) (f:DSt→Res D) (g:DSt→Res (List D)):DSt→Res α:=fun δ=>(f δ).bind fun x=>match x with
 | .str z=>(g δ).bind (op z)
 |_=> .stuck
noncomputable def splitR (z:Str):List D→Res (List D)
 | [.str y]=>@ite (Res (List D)) ((y.length==0)=false∧z.length≤1000∧(partsBetween z (occurrences z y 0 z.length (z.length+1)) y.length).length≤1000) (Classical.propDecidable _) (.ok ((PySem.Txt.split z y).map D.str)) .stuck
 |_=> .stuck
theorem f_split (ho:XE X xw o f) (ha:XA X xw [e] fs)
  (hbase:attributeBase o "split" X.env (eval o X.env)=eval o X.env:=by rfl)
  (hfew:((backTo cpos (starEach [e] X.env)).all (fun x=> !x.1)&&(backToKw cpos (keywordEach [] X.env)).all (fun x=>x.1.isSome)
   &&decide (([e]:List Expr).length+([]:List Keyword).length+(if ([]:List Keyword).isEmpty then 0 else 1)<30))=true:=by rfl)
  (hline:(apos.endLine==cpos.line)=true:=by rfl) (hs:starEach [e] X.env=(false,eval e X.env)::starEach [] X.env:=by rfl) (hplain:(backTo cpos (starEach [] X.env)).any (·.1)=false:=by rfl):
  XF X xw (.Call (.Attribute o "split" apos) [e] [] cpos) (bM splitR f fs):=
 ⟨PE.weak (pe_bm (T:="str") F.plainAttrs_str F.slot_str_split F.type_str_split mt_split ho.h ha.h hbase hfew hline hs hplain) fun σ H Q ⟨W₀,H₀,W,δ,st,q⟩=>by
  unfold bM at q
  refine ⟨W₀,H₀,W,δ,st,?_⟩
  cases h1:f δ with
  |stuck=>rw [h1] at q;exact q
  |ex c fs=>rw [h1] at q;exact q
  |ok d=>
   rw [h1] at q
   intro v H1 k1 hv
   cases d with
   |str z=>
    rw [Has] at hv
    subst hv
    have q':RF X.K xw W H ((fs δ).bind (splitR z)) Q:=q
    refine ⟨rfl,W₀,H₀,W,δ,st.same k1,?_⟩
    cases h2:fs δ with
    |stuck=>rw [h2] at q';exact q'
    |ex c gs=>rw [h2] at q';exact fun H2 k2=>q' H2 (k1.trans k2)
    |ok ds=>
     rw [h2] at q'
     intro vs H2 k2 hvs
     have q2:RF X.K xw W H (splitR z ds) Q:=q'
     unfold splitR at q2
     split at q2
     ·rename_i y
      split at q2
      ·rename_i hz
       rw [HasL] at hvs
       obtain ⟨x,r,rfl,hx,hr⟩:=hvs
       rw [HasL] at hr
       subst hr
       rw [Has] at hx
       subst hx
       exact ⟨z,y,rfl,rfl,hz.1,hz.2.1,hz.2.2,fun p hp=>q2 p _ H2 (k1.trans k2) hp (vals_has _)⟩
      ·exact q2.elim
     ·exact q2.elim
   |_=>exact False.elim q⟩
theorem strs_list:∀ {xs:List Str} {us:List Value},Vals (xs.map V.str) us→∃ l:List (Str×Tok),us=strValues l∧l.map (·.1)=xs
 | [],_, .nil=>⟨[],rfl,rfl⟩
 |x::xs,_, .cons ⟨t,h⟩ r=>by
  obtain ⟨l,e1,e2⟩:=strs_list r
  refine ⟨(x,t)::l,?_,by rw [List.map_cons,e2]⟩
  rw [h,e1];rfl
def rJoin (K:PySem.W.Frag):V→List V→Hp→VK→Prop:=fun x vs H Q=>∃ z p xs,x= .str z∧vs= [.ref p]∧SqL K H p (xs.map V.str)∧JoinOk z xs=true∧Q (.str (PySem.Txt.join z xs)) H
theorem mt_join:MtR X "str.join" (rJoin X.K):=by
 intro pins s σ H x vs v us Q I rx rv h
 obtain ⟨z,p,xs,rfl,rfl,hq,hok,q⟩:=h
 obtain ⟨t,rfl⟩:=rx
 obtain ⟨u',rfl,ru⟩:=rv.one
 cases ru
 obtain ⟨its,r,pl,_⟩:=I.list hq
 obtain ⟨l,e1,e2⟩:=strs_list r
 subst e1
 exact PySem.SC.join pl.isList e2 hok fun t' k=>⟨.str _,H,I.tok _,⟨t',rfl⟩,q⟩
def strsOf:List D→Option (List Str)
 | []=>some []
 | .str x::ds=>(strsOf ds).map (x:: ·)
 |_=>none
theorem strsOf_has {K:PySem.W.Frag} {W:WS} {H:Hp}:∀ {ds:List D} {xs:List Str} {vs:List V},strsOf ds=some xs→HasL K W H ds vs→vs=xs.map V.str
 | [],xs,vs,h,r=>by cases h;rw [HasL] at r;exact r
 |d::ds,xs,vs,h,r=>by
  cases d with
  |str x=>
   obtain ⟨ys,h1,rfl⟩:=Option.map_eq_some_iff.mp (show (strsOf ds).map (x:: ·)=some xs from h)
   rw [HasL] at r
   obtain ⟨v,q,rfl,hv,hq⟩:=r
   rw [Has] at hv
   rw [hv,strsOf_has h1 hq];rfl
  |_=>cases h
def joinR (z:Str):List D→Res D
 | [.lst ds]=>match strsOf ds with
  |some xs=>if JoinOk z xs=true then .ok (.str (PySem.Txt.join z xs)) else .stuck
  |none=> .stuck
 |_=> .stuck
theorem x_join (ho:XE X xw o f) (ha:XA X xw [e] fs)
  (hbase:attributeBase o "join" X.env (eval o X.env)=eval o X.env:=by rfl)
  (hfew:((backTo cpos (starEach [e] X.env)).all (fun x=> !x.1)&&(backToKw cpos (keywordEach [] X.env)).all (fun x=>x.1.isSome)
   &&decide (([e]:List Expr).length+([]:List Keyword).length+(if ([]:List Keyword).isEmpty then 0 else 1)<30))=true:=by rfl)
  (hline:(apos.endLine==cpos.line)=true:=by rfl) (hs:starEach [e] X.env=(false,eval e X.env)::starEach [] X.env:=by rfl) (hplain:(backTo cpos (starEach [] X.env)).any (·.1)=false:=by rfl):
  XE X xw (.Call (.Attribute o "join" apos) [e] [] cpos) (bM joinR f fs):=
 ⟨PE.weak (pe_bm (T:="str") F.plainAttrs_str F.slot_str_join F.type_str_join mt_join ho.h ha.h hbase hfew hline hs hplain) fun σ H Q ⟨W₀,H₀,W,δ,st,q⟩=>by
  unfold bM at q
  refine ⟨W₀,H₀,W,δ,st,?_⟩
  cases h1:f δ with
  |stuck=>rw [h1] at q;exact q
  |ex c fs=>rw [h1] at q;exact q
  |ok d=>
   rw [h1] at q
   intro v H1 k1 hv
   cases d with
   |str z=>
    rw [Has] at hv
    subst hv
    have q':RE X.K xw W H ((fs δ).bind (joinR z)) Q:=q
    refine ⟨rfl,W₀,H₀,W,δ,st.same k1,?_⟩
    cases h2:fs δ with
    |stuck=>rw [h2] at q';exact q'
    |ex c gs=>rw [h2] at q';exact fun H2 k2=>q' H2 (k1.trans k2)
    |ok ds=>
     rw [h2] at q'
     intro vs H2 k2 hvs
     have q2:RE X.K xw W H2 (joinR z ds) Q:=RE.same (r:=joinR z ds) q' (k1.trans k2)
     unfold joinR at q2
     split at q2
     ·rename_i es
      split at q2
      ·rename_i xs hx
       split at q2
       ·rename_i hok
        rw [HasL] at hvs
        obtain ⟨x,r,rfl,hv,hr⟩:=hvs
        rw [HasL] at hr
        subst hr
        rw [Has] at hv
        obtain ⟨p,ys,rfl,sq,r⟩:=hv
        have:=strsOf_has hx r
        subst this
        exact ⟨z,p,xs,rfl,rfl,sq.sq,hok,q2.str⟩
       ·exact q2.elim
      ·exact q2.elim
     ·exact q2.elim
   |_=>exact False.elim q⟩
theorem call_intS:CallR X (.type "int") (fun xs H Q=>∃ z n,xs= [.str z]∧PySem.intText? z=some n∧z.length≤640∧Q (.int n) H):=by
 intro pins s σ H xs us Q I r h
 obtain ⟨z,n,rfl,hn,hl,q⟩:=h
 obtain ⟨u,rfl,t,rfl⟩:=vals1 r
 exact PySem.W.KIN.call_text hn hl ⟨.int n,H,I.tok _,⟨_,rfl⟩,q⟩
def intS:D→Res D
 | .int i=> .ok (.int i)
 | .bl k=> .ok (.int (if k then 1 else 0))
 | .str z=>match PySem.intText? z with
  |some n=>if z.length≤640 then .ok (.int n) else .stuck
  |none=> .stuck
 |_=> .stuck
theorem x_intS (hm:X.mg "int"=none) (ha:XP X xw a fa) (hg:Gl X "int":=by rfl) (he:starEach [a] X.env=(false,eval a X.env)::starEach [] X.env:=by rfl) (hpl:(backTo pos (starEach [] X.env)).any (·.1)=false:=by rfl):
  XE X xw (.Call (.Name "int" p) [a] [] pos) (b1 intS fa):=
 ⟨de_callT1 (CallR.or call_int1 call_intS) (fun W H d v Q w hv q=>by
  unfold intS at q
  split at q
  ·exact .inl (.inl ⟨_,by rw [hv.int],q.int⟩)
  ·exact .inl (.inr ⟨_,by rw [hv.bl],q.int⟩)
  ·split at q
   ·rename_i hn
    split at q
    ·rename_i hl
     exact .inr ⟨_,_,by rw [hv.str],hn,hl,q.int⟩
    ·exact q.elim
   ·exact q.elim
  ·exact q.elim) hm (by decide +kernel) ha.h hg (by decide) (by decide) he hpl⟩
end
end L3
namespace L3
open PySem PySem.Spec PyProof.Rows L2 SeqAt
section
variable {X:Cx} {xw:XW} {pos p p2 apos cpos:Pos} {tg a b c e o ie:Expr} {es:List Expr} {f fi fa fb:DSt→Res D} {fs:DSt→Res (List D)}
def setJ (i:Nat) (δ:DSt) (ds:List D) (d ix:D):Out:=match ix with
 | .int k=>match ixN ds.length k with
  |some j=> .nx (δ.set i (some (.o (ds.set j d))))
  |none=> .stuck
 |_=> .stuck
def setO (i:Nat) (fi:DSt→Res D) (δ:DSt) (d:D):Out:=match δ[i]? with
 |some (some (.o ds))=>ofR (fi δ) (setJ i δ ds d)
 |_=> .stuck
def sSetI (i:Nat) (fi f:DSt→Res D):DSt→Out:=fun δ=>ofR (f δ) (setO i fi δ)
end
end L3
namespace L3
open PySem PySem.Spec PyProof.Rows L2 SeqAt
section
variable {X:Cx} {xw:XW} {pos p:Pos} {a:Expr} {fa:DSt→Res D}
end
end L3
namespace HT
open PySem PyProof.Rows
section
open PySem.SeqAt
open PySem.AutoSeq1 (wpAny_loadPart')
open PySem.MeetsSeq PySem.MeetsSeq2 PySem.MeetsSeq3
end
section
variable {prog:Program} {w:World} {A:Around} {E:Value→Shared→Prop} {s:Shared}
end
end HT
namespace L3
open PySem PySem.Spec PyProof.Rows L2 SeqAt
section
variable {X:Cx} {xw:XW}
end
end L3
namespace L3
open PySem
def Rise (xs:Array Nat):Prop:=xs.toList.Pairwise (fun a b=>a<b)
theorem Rise.lt {xs:Array Nat} (r:Rise xs) {i j:Nat} {a b:Nat} (h:i<j) (ha:xs[i]? =some a) (hb:xs[j]? =some b):a<b:=by
 unfold Rise at r;rw [List.pairwise_iff_getElem] at r
 rw [←Array.getElem?_toList] at ha hb
 obtain ⟨p,e⟩:=List.getElem?_eq_some_iff.mp ha
 obtain ⟨q,f⟩:=List.getElem?_eq_some_iff.mp hb
 have z:=r i j p q h
 rw [e,f] at z;exact z
structure TOk (txt:Bool) (t:SetTable):Prop where
 led:t.led= !txt
 ok:t.plain=true→Rise t.place∧t.dummies= #[]
end L3
namespace L3
open PySem
def nv:Value→Int
 | .int n _=>n
 |_=>0
def ddp (σ:List Int) (k:Int):List Int:=if k∈σ then σ else σ++ [k]
section
variable {prog:Program} {w:World} {A:Around} {E:Value→Shared→Prop} {s:Shared}
def SI (prog:Program) (w:World) (h:Heap) (a:Addr) (σ:List Int):Prop:=
 ∃ o es ep t,h.get? a=some o∧o.ExactSet∧o.data= .set es ep t∧ElemsOf (intKind prog w) es.toList∧(es.toList.map fun e=>nv e.2).Perm σ∧es.size<scanBound∧t.fits es.size=true∧TOk (w.params.followText "set-order") t
theorem SI.at' {h h':Heap} {a:Addr} {σ:List Int} (x:SI prog w h a σ) (k:∀ o,h.get? a=some o→h'.get? a=some o):SI prog w h' a σ:=by
 obtain ⟨o,es,ep,t,ho,r⟩:=x;exact ⟨o,es,ep,t,k o ho,r⟩
end
end L3
namespace L3
open PySem
namespace F
end F
section
variable {prog:Program} {w:World} {A:Around} {E:Value→Shared→Prop} {s:Shared} {S I:Addr} {o:Obj} {es:Array (Int×Value)} {ep:Nat} {t:SetTable}
end
end L3
namespace L3
open PySem
namespace F
end F
section
variable {prog:Program} {w:World} {A:Around} {E:Value→Shared→Prop} {s:Shared} {S I T:Addr} {o:Obj} {es:Array (Int×Value)} {ep:Nat} {t:SetTable} {first:Value} {i:Nat}
end
structure SW (prog:Program) (w:World) (A:Around) (I:Addr) (fp:List Addr) (ord:List Value) (St:Nat→Heap→Prop):Prop where
 W:Walks prog w A I fp [I] ord.length (fun i v=>ord[i]? =some v) St
 mem:I∈fp
end L3
namespace L3
open PySem
section
variable {prog:Program} {w:World} {A:Around} {E:Value→Shared→Prop} {s:Shared} {S I T:Addr} {o:Obj} {es:Array (Int×Value)} {ep:Nat} {t:SetTable} {first:Value} {i:Nat} {σ:List Int}
end
end L3
namespace L3
open PySem
open Sem (wp)
section
variable {prog:Program} {w:World} {A:Around} {E:Value→Shared→Prop} {s:Shared} {S:Addr} {σ:List Int}
end
end L3
namespace L3
open PySem
open Sem (wp)
def met (ns:List Int):List Int:=ns.foldl ddp []
section
variable {prog:Program} {w:World} {A:Around} {R:Result→Shared→Prop} {I:Addr} {fp wr:List Addr} {G:Array GenState→Array GenState→Prop} {n:Nat} {P:Nat→Value→Prop} {St:Nat→Shared→Prop} {E:Value→Shared→Prop} {s:Shared}
def Itr (prog:Program) (w:World) (l:Addr) (ol:Obj) (items:Array Value):Prop:=∀ (A:Around) (s':Shared) (Q:Value→Shared→Prop) (E:Value→Shared→Prop),s'.heap.get? l=some ol→
 (∀ I St h',(∀ A':Around,A'.handled=none→Walks prog w A' I [I,l] [I] items.size (fun i v=>items[i]? =some v) St)→St 0 h'→I=s'.heap.objs.size→(∀ b o,s'.heap.get? b=some o→h'.get? b=some o)→Q (.ref I) {s' with heap:=h'})→
 wpAny (model prog w) A (pyIter (.ref l)) Q E s'
theorem itr_list {l:Addr} {ol:Obj} {items:Array Value} {nl:Nat} (hc:ol.cls= .type "list") (hd:ol.data= .seq items nl):Itr prog w l ol items:=fun A s' Q E hl h=>by
 have hL:s'.heap.IsList l items:=⟨ol,hl,hc,nl,hd⟩
 have hne:l≠s'.heap.objs.size:=Nat.ne_of_lt (Heap.lt_size hl)
 exact wpAny_pyIter_list hL (h _ (fun i h=>h.IsListIter s'.heap.objs.size l i∧h.IsList l items) _ (fun A' hA=>Walks.list hA _ l hne items) ⟨⟨_,Heap.get?_push_size _ rfl,rfl,rfl⟩,hL.push _⟩ rfl fun b o e=>Heap.get?_push_of_some _ e)
theorem set_made (a:Value) {Q₁:Value→Shared→Prop} (h:∀ led:Bool,led=(!w.params.followText "set-order")→Q₁ (.ref s.heap.objs.size) {s with heap:=s.heap.push {cls:= .type "set",dict:=none,data:= .set #[] 0 (.fresh 0 0 led)}}):
  codeAny (model prog w) A (.call (.builtin "set.__new__") ⟨[.type "set",a],[]⟩) (wants Q₁ E) s:=by
 refine codeAny_of_tree ?_
 show wpAny _ A.in1 (checkBuiltinCall "set.__new__" ⟨[.type "set",a],[]⟩ >>= fun _=>again (.builtin "set.__new__" ⟨[.type "set",a],[]⟩)) _ _ s
 refine wpAny_bind (wpAny_of_eq (PySem.F.newCall_set_1 a) (wpAny_pure ⟨plainId_quiet PySem.F.plain_set_new _,codeAny_builtin PySem.F.entry_set_new ?_⟩));rw [Around.under_plainId PySem.F.plain_set_new _]
 unfold Builtin.«set.__new__» Builtin.Frozenset.newClass
 have hsub:=sub_set_self
 obtain ⟨hp,g,d,tk,os⟩:=s
 dsimp only;wp_walk
 refine wpAny_askSetting (wpAny_pure ?_)
 dsimp only;simp only [newObj]
 exact wpAny_bind (wpAny_alloc (wpAny_pure (wpAny_pure (h _ rfl))))
end
end L3
namespace L3
open PySem
open Sem (wp)
section
variable {prog:Program} {w:World} {A:Around} {E:Value→Shared→Prop} {s:Shared}
end
end L3
namespace L3
open PySem PyProof.Rows
section
variable {prog:Program} {w:World} {A:Around} {E:Value→Shared→Prop} {s:Shared}
end
end L3
namespace L3
end L3
namespace L3
open PySem PySem.Spec PyProof.Rows L2
abbrev eh1 (t:Bool) (h:Heap) (l:Addr):Heap:=h.push (itO t l)
section
variable {X:Cx} {xw:XW} {elts:List Expr} {kt:Nat} {pt p pos:Pos} {a b:Expr} {fs:DSt→Res (List D)}
def enumD:Nat→List D→List D
 |_,[]=> []
 |k,x::xs=> .tup [.int k,x]::enumD (k+1) xs
theorem enumD_get:∀ {xs:List D} {k i:Nat} {d:D},(enumD k xs)[i]? =some d→∃ x,xs[i]? =some x∧d= .tup [.int ((k+i:Nat):Int),x]
 | [],_,_,_,e=>by simp [enumD] at e
 |x::xs,k,0,d,e=>by
  rw [enumD] at e
  simp at e
  exact ⟨x,rfl,by simp [←e]⟩
 |x::xs,k,i+1,d,e=>by
  rw [enumD] at e
  obtain ⟨u,h1,h2⟩:=enumD_get (xs:=xs) (k:=k+1) (i:=i) (by simpa using e)
  exact ⟨u,by simpa using h1,by rw [h2,show k+1+i=k+(i+1) by omega]⟩
theorem enumD_len:∀ (k:Nat) (xs:List D),(enumD k xs).length=xs.length
 |_,[]=>rfl
 |k,x::xs=>by rw [enumD,List.length_cons,enumD_len,List.length_cons]
end
end L3
namespace L3
open PySem PySem.Spec PyProof.Rows L2 SeqAt
theorem vals_ints:∀ {us:List Value} {ns:List Int},IntsAre us ns→Vals (ns.map V.int) us
 |_,_, .nil=> .nil
 |_,_, .cons n t r=> .cons ⟨t,rfl⟩ (vals_ints r)
section
variable {X:Cx} {xw:XW} {pos p pos2 p2:Pos} {a:Expr} {fa:DSt→Res D} {pins:List (Addr×Obj)} {σ:L2.St} {H:Hp} {s:Shared}
end
end L3
namespace HT
open PySem PyProof.Rows
section
variable {prog:Program} {w:World} {A:Around} {E:Value→Shared→Prop} {s:Shared}
end
end HT
namespace L3
open PySem PySem.Spec PyProof.Rows L2 SeqAt
section
variable {X:Cx} {xw:XW} {a:Expr} {lo hi:Option Expr} {fa:DSt→Res D} {fl fh:DSt→Res (Option Int)} {pos p2:Pos}
def slW (d:D) (lo hi:Option Int):Res D:=match d with
 | .tup ds=> .ok (.tup (cutD ds lo hi))
 | .lst ds=> .ok (.lst (cutD ds lo hi))
 |_=> .stuck
end
theorem slW_l (ds:List D) (lo hi:Option Int):slW (.lst ds) lo hi= .ok (.lst (cutD ds lo hi)):=rfl
end L3
namespace HT
open PySem PyProof.Rows
section
variable {prog:Program} {w:World} {A:Around} {E:Value→Shared→Prop} {s:Shared}
end
end HT
namespace L3
open PySem PySem.Spec PyProof.Rows L2 SeqAt
section
variable {X:Cx} {xw:XW} {a st:Expr} {fa:DSt→Res D} {pos p2:Pos}
end
end L3
namespace L3
open PySem PySem.Spec PyProof.Rows L2
section
variable {K:PySem.W.Frag} {xw:XW} {W₀ W W1:WS} {H₀ H H1:Hp} {Dn:Ends}
def RSO (K:PySem.W.Frag) (xw:XW) (W₀:WS) (H₀:Hp) (W:WS) (H:Hp) (o:Out) (Dn:Ends):Prop:=match o with
 | .rt (.lst ds)=>∀ a xs H',Same H₀ H'→H₀ a=none→H' a=some (.lst xs)→HasL K (fun b=>W₀ b∨b=a) H' ds xs→Dn.rt (.ref a) H'
 |o=>RS K xw W₀ H₀ W H o Dn
theorem RSO.step {o:Out} (h:RSO K xw W₀ H₀ W H o Dn) (k:Step W H W1 H1):RSO K xw W₀ H₀ W1 H1 o Dn:=by
 cases o with
 |rt d=>cases d<;>exact h
 |nx δ=>exact RS.step (xw:=xw) (o:= .nx δ) h k
 |bk δ=>exact RS.step (xw:=xw) (o:= .bk δ) h k
 |ct δ=>exact RS.step (xw:=xw) (o:= .ct δ) h k
 |ex c fs=>exact h
 |stuck=>exact h
def tDSO (K:PySem.W.Frag) (xw:XW) (g:DSt→Out):TS:=fun Dn σ H=>∃ W₀ H₀ W δ,StHas K W₀ H₀ W H σ δ∧RSO K xw W₀ H₀ W H (g δ) Dn
end
structure NoL (g:DSt→Out):Prop where
 h:∀ δ ds,g δ≠ .rt (.lst ds)
theorem NoL.seq {a b:DSt→Out} (ha:NoL a) (hb:NoL b):NoL (sSeq a b):=⟨fun δ ds=>by
 show seqO (a δ) b≠_
 cases h:a δ with
 |nx δ'=>exact hb.h δ' ds
 |rt d=>intro e;exact ha.h δ ds (by rw [h];exact e)
 |bk δ'=>intro e;cases e
 |ct δ'=>intro e;cases e
 |ex c fs=>intro e;cases e
 |stuck=>intro e;cases e⟩
theorem ofR_no {α:Type} {r:Res α} {k:α→Out} {ds:List D} (h:∀ a,k a≠ .rt (.lst ds)):ofR r k≠ .rt (.lst ds):=by
 cases r with
 |ok a=>exact h a
 |ex c fs=>intro e;cases e
 |stuck=>intro e;cases e
theorem NoL.nx:NoL Out.nx:=⟨fun δ ds e=>by cases e⟩
theorem NoL.own {i:Nat} {f:DSt→Res (List D)}:NoL (sOwn i f):=⟨fun δ ds=>ofR_no fun k e=>by cases e⟩
theorem NoL.set {i:Nat} {f:DSt→Res D}:NoL (sSet i f):=⟨fun δ ds=>ofR_no fun k e=>by cases e⟩
section
variable {X:Cx} {xw:XW} {st:Stmt} {sts:List Stmt} {g1 g2:DSt→Out} {pos p:Pos} {a:Expr} {es:List Expr}
structure XSO (X:Cx) (xw:XW) (sts:List Stmt) (g:DSt→Out):Prop where
 h:PSs X sts (tDSO X.K xw g)
def spO (K:PySem.W.Frag) (n:Nat) (m:List D→Res D):Sp:=fun vs H Q _=>vs.length=n∧∃ W ds,WL W H∧HasL K W H ds vs∧match m ds with
 | .ok (.lst fs)=>∀ a xs H',Same H H'→H a=none→H' a=some (.lst xs)→HasL K (fun b=>W b∨b=a) H' fs xs→Q (.ref a) H'
 | .ok d=>∀ v H',Same H H'→Has K W H' d v→Q v H'
 |_=>False
structure FnO (P:Program) (w:World) (K:PySem.W.Frag) (mg:Str→Option Value) (base:Heap) (k:Nat) (x:Str) (n:Nat) (m:List D→Res D):Prop where
 ex:∃ f fd ps,FnOk P w K mg base CX0 k f fd ps (spO K n m)∧mg x=some (.ref f)∧PySem.W.keepIn K (.ref f)=true∧Binds K fd ps []
theorem FnO.mono {P:Program} {w:World} {K:PySem.W.Frag} {mg:Str→Option Value} {base:Heap} {j k n:Nat} {x:Str} {m:List D→Res D} (F:FnO P w K mg base j x n m) (h:j≤k):FnO P w K mg base k x n m:=by
 obtain ⟨f,fd,ps,a,b⟩:=F.ex
 exact ⟨f,fd,ps,a.mono h,b⟩
theorem FnO.fn {P:Program} {w:World} {K:PySem.W.Frag} {mg:Str→Option Value} {base:Heap} {k n:Nat} {x:Str} {m:List D→Res D} (F:FnO P w K mg base k x n m):Fn P w K mg base k x n m:=by
 obtain ⟨f,fd,ps,a,b⟩:=F.ex
 refine ⟨f,fd,ps,a.imp fun vs H Q E ⟨hl,W,ds,hw,hd,q⟩=>⟨hl,W,ds,hw,hd,?_⟩,b⟩
 cases h:m ds with
 |ex c fs=>rw [h] at q;exact q
 |stuck=>rw [h] at q;exact q
 |ok d=>
  rw [h] at q
  cases d with
  |lst fs=>
   intro a xs H' k hn ha hx
   refine q (.ref a) H' k ?_
   rw [Has]
   refine ⟨a,xs,rfl, .inl ⟨ha,fun z=> ?_⟩,HasL.keep (fun _ _ e _=>e) (fun b z=>z.elim (hw.same k b) fun z=>by rw [z];exact ⟨_,ha,trivial⟩) (fun b z=> .inl (.inl z)) hx⟩
   obtain ⟨ys,e,_⟩:=hw a z
   rw [hn] at e;cases e
  |_=>exact q
def ownO (i:Nat) (δ:DSt):D→Out
 | .lst ds=> .nx (δ.set i (some (.o ds)))
 |d=> .nx (δ.set i (some (.d d)))
def sOwnR (i:Nat) (f:DSt→Res D):DSt→Out:=fun δ=>ofR (f δ) (ownO i δ)
def HasTL (K:PySem.W.Frag) (W:WS) (H:Hp):List D→List V→Prop
 | [],xs=>xs= []
 |d::ds,xs=>∃ x r,xs=x::r∧HasT K W H d x∧HasTL K W H ds r
def RAP (K:PySem.W.Frag) (xw:XW) (W:WS) (H:Hp) (r:Res (List D)) (Q:List V→Hp→Prop):Prop:=match r with
 | .ok ds=>∀ vs H',Same H H'→HasTL K W H' ds vs→Q vs H'
 | .ex c fs=>∀ H',Same H H'→xw c fs H'
 | .stuck=>False
structure XAP (X:Cx) (xw:XW) (es:List Expr) (f:DSt→Res (List D)):Prop where
 h:PA X es fun σ H Q=>∃ W₀ H₀ W δ,StHas X.K W₀ H₀ W H σ δ∧RAP X.K xw W H (f δ) Q
end
end L3
namespace L3
open PySem PySem.Spec PyProof.Rows L2 SeqAt
section
variable {α β:Type}
def tGet (l:List (Key×α)) (k:Key):Option α:=(l.find? fun p=>decide (p.1=k)).map (·.2)
def tHas (l:List (Key×α)) (k:Key):Bool:=l.any fun p=>decide (p.1=k)
def tPut (l:List (Key×α)) (k:Key) (y:α):List (Key×α):=if tHas l k=true then l.map (fun p=>if p.1=k then (p.1,y) else p) else l++ [(k,y)]
theorem tGet_pos {p:Key×α} {r:List (Key×α)} {k:Key} (e:p.1=k):tGet (p::r) k=some p.2:=by simp [tGet,List.find?_cons,e]
theorem tGet_neg {p:Key×α} {r:List (Key×α)} {k:Key} (e:¬ p.1=k):tGet (p::r) k=tGet r k:=by simp [tGet,List.find?_cons,e]
end
theorem kv_get {kvs:List (Key×V)} {vs:List (Key×Value)} (r:KV kvs vs) (k:Key):(∀ v,tGet kvs k=some v→∃ u,valueAt vs k=some u∧RelV v u)∧(tGet kvs k=none→valueAt vs k=none):=by
 unfold KV at r
 induction r with
 |nil=>exact ⟨(fun v e=>by cases e),fun _=>rfl⟩
 |@cons p q ps qs h t ih=>
  obtain ⟨h1,h2⟩:=h
  by_cases e:p.1=k
  ·have b:valueAt (q::qs) k=some q.2:=by simp [valueAt,List.find?_cons,h1.symm.trans e]
   rw [tGet_pos e,b]
   exact ⟨fun v z=>by cases z;exact ⟨_,rfl,h2⟩,fun z=>by cases z⟩
  ·have e':¬ q.1=k:=fun z=>e (h1.trans z)
   have b:valueAt (q::qs) k=valueAt qs k:=by simp [valueAt,List.find?_cons,e']
   rw [tGet_neg e,b];exact ih
section
variable {K:PySem.W.Frag} {W:WS} {H:Hp}
def HasP (K:PySem.W.Frag) (W:WS) (H:Hp) (l:List (Key×D)) (kvs:List (Key×V)):Prop:=kvs.map (·.1)=l.map (·.1)∧HasL K W H (l.map (·.2)) (kvs.map (·.2))
theorem HasP.nil:HasP K W H [] []:=⟨rfl,HasL.nil⟩
theorem HasP.cons {p:Key×D} {l:List (Key×D)} {kvs:List (Key×V)} (h:HasP K W H (p::l) kvs):∃ v r,kvs=(p.1,v)::r∧Has K W H p.2 v∧HasP K W H l r:=by
 obtain ⟨h1,h2⟩:=h
 cases kvs with
 |nil=>cases h1
 |cons q r=>
  rw [List.map_cons,List.map_cons] at h1 h2
  rw [HasL] at h2
  obtain ⟨x,t,e,g1,g2⟩:=h2
  cases e
  have h3:=List.cons.inj h1
  exact ⟨q.2,r,by rw [←h3.1],g1,h3.2,g2⟩
theorem HasP.mk {k:Key} {d:D} {v:V} {l:List (Key×D)} {kvs:List (Key×V)} (h:Has K W H d v) (t:HasP K W H l kvs):HasP K W H ((k,d)::l) ((k,v)::kvs):=⟨by rw [List.map_cons,List.map_cons,t.1],by rw [List.map_cons,List.map_cons];exact HasL.cons h t.2⟩
theorem HasP.len {l:List (Key×D)} {kvs:List (Key×V)} (h:HasP K W H l kvs):l.length=kvs.length:=by
 have:=congrArg List.length h.1
 simpa using this.symm
theorem HasP.of {ks:List Key} {ds:List D} {kvs:List (Key×V)} (h1:kvs.map (·.1)=ks) (h2:HasL K W H ds (kvs.map (·.2))):HasP K W H (ks.zip ds) kvs∧(ks.zip ds).map (·.1)=ks∧(ks.zip ds).map (·.2)=ds:=by
 have hl:ks.length=ds.length:=by rw [←h1,h2.length,List.length_map,List.length_map]
 have e1:(ks.zip ds).map (·.1)=ks:=by rw [←List.unzip_fst,List.unzip_zip hl]
 have e2:(ks.zip ds).map (·.2)=ds:=by rw [←List.unzip_snd,List.unzip_zip hl]
 exact ⟨⟨by rw [e1,h1],by rw [e2];exact h2⟩,e1,e2⟩
theorem HasP.keep {W':WS} {H':Hp} {l:List (Key×D)} {kvs:List (Key×V)} (k:Keep W H H') (w:WL W H) (hw:∀ b,W' b→W b∨H b=none) (h:HasP K W H l kvs):HasP K W' H' l kvs:=⟨h.1,HasL.keep k w hw h.2⟩
theorem HasP.same {H':Hp} {l:List (Key×D)} {kvs:List (Key×V)} (h:HasP K W H l kvs) (k:Same H H') (w:WL W H):HasP K W H' l kvs:=⟨h.1,h.2.same k w⟩
theorem HasP.get:∀ {l:List (Key×D)} {kvs:List (Key×V)},HasP K W H l kvs→∀ (k:Key),(∀ d,tGet l k=some d→∃ v,tGet kvs k=some v∧Has K W H d v)∧(tGet l k=none→tGet kvs k=none)
 | [],kvs,h,k=>by
  obtain ⟨h1,_⟩:=h
  cases kvs with
  |nil=>exact ⟨(fun d e=>by cases e),fun _=>rfl⟩
  |cons _ _=>cases h1
 |p::l,kvs,h,k=>by
  obtain ⟨v,r,rfl,h1,h2⟩:=h.cons
  by_cases e:p.1=k
  ·rw [tGet_pos e,tGet_pos (p:=(p.1,v)) e]
   exact ⟨fun d z=>by cases z;exact ⟨v,rfl,h1⟩,fun z=>by cases z⟩
  ·rw [tGet_neg e,tGet_neg (p:=(p.1,v)) e];exact h2.get k
theorem HasP.has {l:List (Key×D)} {kvs:List (Key×V)} (h:HasP K W H l kvs) (k:Key):tHas kvs k=tHas l k:=by
 have:=h.1
 unfold tHas
 rw [show (kvs.any fun p=>decide (p.1=k))=(kvs.map (·.1)).any (fun z=>decide (z=k)) by rw [List.any_map];rfl,this,List.any_map];rfl
theorem HasP.put {l:List (Key×D)} {kvs:List (Key×V)} {d:D} {v:V} (h:HasP K W H l kvs) (k:Key) (hd:Has K W H d v):HasP K W H (tPut l k d) (tPut kvs k v):=by
 unfold tPut
 rw [h.has k]
 split
 ·rename_i hh;clear hh
  induction l generalizing kvs with
  |nil=>
   obtain ⟨h1,_⟩:=h
   cases kvs with
   |nil=>exact HasP.nil
   |cons _ _=>cases h1
  |cons p l ih=>
   obtain ⟨u,r,rfl,h1,h2⟩:=h.cons
   rw [List.map_cons,List.map_cons]
   by_cases e:p.1=k
   ·rw [if_pos e,if_pos e];exact HasP.mk hd (ih h2)
   ·rw [if_neg e,if_neg e];exact HasP.mk h1 (ih h2)
 ·rename_i hh;clear hh
  induction l generalizing kvs with
  |nil=>
   obtain ⟨h1,_⟩:=h
   cases kvs with
   |nil=>exact HasP.mk hd HasP.nil
   |cons _ _=>cases h1
  |cons p l ih=>
   obtain ⟨u,r,rfl,h1,h2⟩:=h.cons
   exact HasP.mk h1 (ih h2)
end
section
variable {X:Cx} {xw:XW} {a b e ie:Expr} {pos p p1 p2:Pos} {fa fb f fi:DSt→Res D}
theorem key_is {P:Program} {w:World} {k:Key} {u:Value} (r:RelV (kV k) u):(mixKind P w).is k u=true:=rel_key r
theorem rd_dk {P:Program} {w:World} {H:Hp} {h:Heap} {a:Addr} {kvs:List (Key×V)} (ok:HOk P w H h) (e:Rd H a (.dK kvs)):kvs.length≤sizeLine∧(a==sysModules)=false∧∃ vs,KV kvs vs∧h.DictOf (mixKind P w) a vs:=by
 rcases e with e|⟨o,e⟩
 ·exact ok a _ e
 ·exact (show _∧_ from ok a _ e).2
theorem Rd.same {H H':Hp} {a:Addr} {u:HO} (h:Rd H a u) (k:Same H H'):Rd H' a u:=h.imp (k _ _) fun ⟨o,e⟩=>⟨o,k _ _ e⟩
def rIxQ:R2:=fun x y H Q=>∃ a kvs k v,x= .ref a∧Rd H a (.dK kvs)∧y=kV k∧tGet kvs k=some v∧Q v H
theorem pe_dget {ta tb:TE} (ha:PE X a ta) (hb:PE X b tb) (hs:PlainIx b):PE X (.Subscript a b pos) (tOp rIxQ ta tb):=by
 intro pins s σ H Q I h
 refine Subscript_ (binT ha hb I h fun v u s2 x y H2 I2 rx ry q=> ?_)
 obtain ⟨d,kvs,k,z,rfl,hd,rfl,hg,q⟩:=q
 cases rx
 obtain ⟨_,hS,vs,rel,dd⟩:=rd_dk I2.hok hd
 obtain ⟨w',hw,rw'⟩:=(kv_get rel k).1 z hg
 unfold subscriptTail
 refine wpAny_bind ?_
 rw [getitemInPython_of_ne dd.typeIs.not_modules]
 refine wpAny_bind (wpAny_specialOf dd.typeIs PySem.F.slot_dict_getitem.lookup ?_)
 have fin:wpAny (model X.prog X.w) X.A (subscripted b false (.ref d) u) (fun r s₃=>wpAny (model X.prog X.w) X.A (letTemporaryGo a (.ref d) r >>= fun _=>pure r) (EP X pins σ Q) X.xe s₃) X.xe s2:=by
  rw [hs (.ref d) u]
  exact wpAny_operating (wpAny_getItem_of (key_is ry) dd.mapOf hw (wpAny_bind (wpAny_letTemporaryGo (wpAny_pure ⟨z,H2,I2.tok _,rw',q⟩))))
 first
  |exact wpAny_pure (wpAny_bind fin)
  |exact wpAny_bind (wpAny_pure (wpAny_bind fin))
  |exact wpAny_bind fin
def RQ (K:PySem.W.Frag) (xw:XW) (W:WS) (H:Hp) (r:Res (List (Key×D))) (Q:VK):Prop:=match r with
 | .ok l=>∀ a kvs H',Same H H'→Rd H' a (.dK kvs)→HasP K W H' l kvs→Q (.ref a) H'
 | .ex c fs=>∀ H',Same H H'→xw c fs H'
 | .stuck=>False
def tDQ (K:PySem.W.Frag) (xw:XW) (f:DSt→Res (List (Key×D))):TE:=fun σ H Q=>∃ W₀ H₀ W δ,StHas K W₀ H₀ W H σ δ∧RQ K xw W H (f δ) Q
structure XQ (X:Cx) (xw:XW) (e:Expr) (f:DSt→Res (List (Key×D))):Prop where
 h:PE X e (tDQ X.K xw f)
def slotQ (i:Nat):DSt→Res (List (Key×D)):=fun δ=>match δ[i]? with
 |some (some (.q ks ds))=> .ok (ks.zip ds)
 |some (some (.d (.dct ks ds)))=> .ok (ks.zip ds)
 |_=> .stuck
theorem q_var (i:Nat) {x:Str} (hN:X.N[i]? =some x:=by rfl) (hv:Vis X.env.scope x:=by first|exact Or.inl rfl|exact Or.inr (Or.inl rfl)|exact Or.inr (Or.inr rfl)) (hd:(x==("__debug__":Str))=false:=by decide)
  (hcd:(x==("__classdict__":Str))=false:=by decide):XQ X xw (.Name x pos) (slotQ i):=
 ⟨PE.weak (pe_var hN hv hd hcd) fun σ H Q ⟨W₀,H₀,W,δ,st,q⟩=>by
  unfold slotQ at q
  split at q
  ·rename_i ks ds h
   obtain ⟨v,e1,a,kvs,rfl,r2,r3,r4,r5,r6⟩:=st.at' i _ h
   exact ⟨_,e1,q a kvs H (Same.refl H) (.inl r4) (HasP.of r5 r6).1⟩
  ·rename_i ks ds h
   obtain ⟨v,e1,r⟩:=st.at' i _ h
   have r':Has X.K W H (.dct ks ds) v:=r
   rw [Has] at r'
   obtain ⟨a,kvs,rfl,r4,r5,r6⟩:=r'
   exact ⟨_,e1,q a kvs H (Same.refl H) (.inr r4) (HasP.of r5 r6).1⟩
  ·exact q.elim⟩
theorem HasT.dct {K:PySem.W.Frag} {W:WS} {H:Hp} {ks:List Key} {ds:List D} {v:V} (h:HasT K W H (.dct ks ds) v):Has K W H (.dct ks ds) v:=by
 rcases h with h|⟨_,_,_,h1,_⟩
 ·exact h
 ·cases h1
def b1Q {α:Type} (op:D→Res α) (f:DSt→Res D):DSt→Res α:=fun δ=>(f δ).bind op
def dgetR (l:List (Key×D)) (d:D):Res D:=match keyD d with
 |some k=>match tGet l k with
  |some x=> .ok x
  |none=> .stuck
 |none=> .stuck
def b2Q {α:Type} (op:List (Key×D)→D→Res α) (f:DSt→Res (List (Key×D))) (g:DSt→Res D):DSt→Res α:=fun δ=>(f δ).bind fun l=>(g δ).bind fun d=>op l d
theorem keyD_has {K:PySem.W.Frag} {W:WS} {H:Hp} {d:D} {v:V} {k:Key} (h:HasT K W H d v) (e:keyD d=some k):v=kV k:=by
 cases d with
 |int i=>cases e;exact h.int
 |str x=>cases e;exact h.str
 |_=>cases e
theorem x_dget {fq:DSt→Res (List (Key×D))} (ha:XQ X xw a fq) (hb:XP X xw b fb) (hs:PlainIx b:=by intro _ _;rfl):XE X xw (.Subscript a b pos) (b2Q dgetR fq fb):=
 ⟨PE.weak (pe_dget ha.h hb.h hs) fun σ H Q ⟨W₀,H₀,W,δ,st,q⟩=>by
  refine ⟨W₀,H₀,W,δ,st,?_⟩
  unfold b2Q at q
  cases h1:fq δ with
  |stuck=>rw [h1] at q;exact q
  |ex c fs=>rw [h1] at q;exact q
  |ok l=>
   rw [h1] at q
   intro ad kvs H1 k1 hd hp
   refine ⟨W₀,H₀,W,δ,st.same k1,?_⟩
   have q':RE X.K xw W H ((fb δ).bind fun d=>dgetR l d) Q:=q
   cases h2:fb δ with
   |stuck=>rw [h2] at q';exact q'
   |ex c fs=>rw [h2] at q';exact fun H2 k2=>q' H2 (k1.trans k2)
   |ok d=>
    rw [h2] at q'
    intro v H2 k2 hv
    have q2:RE X.K xw W H (dgetR l d) Q:=q'
    unfold dgetR at q2
    split at q2
    ·rename_i k hk
     split at q2
     ·rename_i x hx
      have hp2:=hp.same k2 (st.fr.wl.same k1)
      obtain ⟨z,hz,hh⟩:=(hp2.get k).1 x hx
      exact ⟨ad,kvs,k,z,rfl,Rd.same hd k2,keyD_has hv hk,hz,q2 z H2 (k1.trans k2) hh⟩
     ·exact q2.elim
    ·exact q2.elim⟩
def sOwnQ (i:Nat):DSt→Out:=fun δ=> .nx (δ.set i (some (.q [] [])))
def putJ (i:Nat) (δ:DSt) (l:List (Key×D)) (d ix:D):Out:=match keyD ix with
 |some k=>if l.length≤1000 then .nx (δ.set i (some (.q ((tPut l k d).map (·.1)) ((tPut l k d).map (·.2))))) else .stuck
 |none=> .stuck
def putO (i:Nat) (fi:DSt→Res D) (δ:DSt) (d:D):Out:=match δ[i]? with
 |some (some (.q ks ds))=>ofR (fi δ) (putJ i δ (ks.zip ds) d)
 |_=> .stuck
def sPutI (i:Nat) (fi f:DSt→Res D):DSt→Out:=fun δ=>ofR (f δ) (putO i fi δ)
def frzD (i:Nat) (δ:DSt):DSt:=match δ[i]? with
 |some (some (.q ks ds))=>δ.set i (some (.d (.dct ks ds)))
 |some (some (.o ds))=>δ.set i (some (.d (.lst ds)))
 |_=>δ
theorem StHas.frzQ {K:PySem.W.Frag} {W₀ W:WS} {H₀ H:Hp} {σ:L2.St} {δ:DSt} {i:Nat} {ks:List Key} {ds:List D} {a:Addr} {kvs:List (Key×V)} (o:Obj) (h:StHas K W₀ H₀ W H σ δ) (hi:δ[i]? =some (some (.q ks ds))) (hs:σ[i]? =some (some (.ref a)))
  (hW:W a) (h4:kvs.map (·.1)=ks) (h5:HasL K W H ds (kvs.map (·.2))):StHas K W₀ H₀ (fun b=>W b∧b≠a) (upd H a (.frz o (.dK kvs))) σ (δ.set i (some (.d (.dct ks ds)))):=by
 have kk:Keep W H (upd H a (.frz o (.dK kvs))):=fun b u e n=>by rw [upd_ne (fun z=>n (by rw [z];exact hW))];exact e
 refine h.freezeH (owq ks ds) hi hs ?_
 rw [Has]
 exact ⟨a,kvs,rfl,⟨o,upd_same⟩,h4,HasL.keep kk h.fr.wl (fun b z=> .inl z.1) h5⟩
theorem Step.less {W W1 W2:WS} {H H2:Hp} (hw:∀ b,W1 b→W b) (k:Step W1 H W2 H2):Step W H W2 H2:=⟨fun b o e n=>k.keep b o e fun z=>n (hw b z),fun b z=>(k.new b z).imp (hw b) id⟩
theorem RS.less {K:PySem.W.Frag} {xw:XW} {W₀ W W1:WS} {H₀ H:Hp} {o:Out} {Dn:Ends} (hw:∀ b,W1 b→W b) (q:RS K xw W₀ H₀ W H o Dn):RS K xw W₀ H₀ W1 H o Dn:=by
 cases o with
 |nx δ=>exact fun W' H' σ k s=>q W' H' σ (k.less hw) s
 |bk δ=>exact fun W' H' σ k s=>q W' H' σ (k.less hw) s
 |ct δ=>exact fun W' H' σ k s=>q W' H' σ (k.less hw) s
 |rt d=>exact q
 |ex c fs=>exact q
 |stuck=>exact q
def sFrz (i:Nat) (g:DSt→Out):DSt→Out:=fun δ=>g (frzD i δ)
theorem RS.note {K:PySem.W.Frag} {xw:XW} {W₀ W:WS} {H₀ H:Hp} {o:Out} {Dn:Ends} {a:Addr} {ob:HO} (hW:W a) (q:RS K xw W₀ H₀ W H o Dn):RS K xw W₀ H₀ (fun b=>W b∧b≠a) (upd H a ob) o Dn:=by
 have st:∀ W' H',Step (fun b=>W b∧b≠a) (upd H a ob) W' H'→Step W H W' H':=fun W' H' k=>⟨fun b u e n=>by
   have hb:b≠a:=fun z=>n (by rw [z];exact hW)
   exact k.keep b u (by rw [upd_ne hb];exact e) fun z=>n z.1,fun b z=>by
   rcases k.new b z with z|z
   ·exact .inl z.1
   ·by_cases hb:b=a
    ·rw [hb,upd_same] at z;cases z
    ·rw [upd_ne hb] at z;exact .inr z⟩
 cases o with
 |nx δ=>exact fun W' H' σ k s=>q W' H' σ (st _ _ k) s
 |bk δ=>exact fun W' H' σ k s=>q W' H' σ (st _ _ k) s
 |ct δ=>exact fun W' H' σ k s=>q W' H' σ (st _ _ k) s
 |rt d=>exact q
 |ex c fs=>exact q
 |stuck=>exact q
theorem frz_step {i:Nat} {g:DSt→Out} {Dn:Ends} {σ:L2.St} {H:Hp} {pins:List (Addr×Obj)} {s:Shared} (I:Inv X pins σ H s) (h:tDS X.K xw (sFrz i g) Dn σ H):∃ H',Inv X pins σ H' s∧tDS X.K xw g Dn σ H':=by
 obtain ⟨W₀,H₀,W,δ,st,q⟩:=h
 have q':RS X.K xw W₀ H₀ W H (g (frzD i δ)) Dn:=q
 unfold frzD at q'
 split at q'
 ·rename_i ks ds h
  obtain ⟨v,e,a,kvs,rfl,r2,r3,r4,r5,r6⟩:=st.at' i _ h
  have ok:=I.hok _ _ r4
  obtain ⟨z,hS,vs,rel,dd⟩:=id ok
  obtain ⟨o,es,ep,ho,_⟩:=dd
  refine ⟨_,I.write (x:=a) (e:=a) (o:= .frz o (.dK kvs)) (h':=s.heap) (t':=s.toks) (by rw [r4];exact trivial) (.inl rfl) (fun b' u hb hu=>hu) ⟨_,ho⟩ ⟨ho,ok⟩,W₀,H₀,_,_,st.frzQ o h e r2 r5 r6,RS.note r2 q'⟩
 ·rename_i ds h
  obtain ⟨v,e,a,xs,rfl,_⟩:=st.at' i _ h
  exact ⟨H,I,W₀,H₀,_,_,(st.freeze h e).1,RS.less (fun b z=>z.1) q'⟩
 ·exact ⟨H,I,W₀,H₀,W,δ,st,q'⟩
theorem s_frz (i:Nat) {st:Stmt} {g:DSt→Out} (h:XS X xw st g):XS X xw st (sFrz i g):=⟨fun pins s σ H Dn I q=>let ⟨H',I',q'⟩:=frz_step I q;h.h pins s σ H' Dn I' q'⟩
end
end L3
namespace L3
open PySem PySem.Spec PyProof.Rows L2 SeqAt
section
variable {X:Cx} {xw:XW} {e b tg:Expr} {f:DSt→Res D} {pos apos:Pos}
variable {elts:List Expr} {kt:Nat} {pt:Pos}
end
end L3
namespace L3
open PySem PySem.Spec PyProof.Rows L2 SeqAt
section
variable {X:Cx} {xw:XW} {pos p pos2 apos:Pos} {a e:Expr} {fa f:DSt→Res D}
end
end L3
namespace L3
open PySem PySem.Spec PyProof.Rows L2 SeqAt
def IsRv (h:Heap) (a l:Addr) (i:Int):Prop:=∃ o,h.get? a=some o∧o.cls= .type "reversed"∧o.data= .fields #[.ref l,rawInt i]
theorem IsRv.typeIs {s:Shared} {a l:Addr} {i:Int} (x:IsRv s.heap a l i):s.TypeIs (.ref a) "reversed":=let ⟨o,ho,hc,_⟩:=x;⟨o,ho,hc⟩
theorem IsRv.at {h h':Heap} {a l:Addr} {i:Int} (x:IsRv h a l i) (e:∀ o,h.get? a=some o→h'.get? a=some o):IsRv h' a l i:=let ⟨o,ho,r⟩:=x;⟨o,e _ ho,r⟩
section
variable {prog:Program} {w:World} {A:Around} {E:Value→Shared→Prop} {s:Shared}
end
section
variable {X:Cx} {xw:XW} {tg a:Expr} {p pos:Pos} {fs:DSt→Res (List D)}
end
end L3
namespace L3
open PySem PySem.Spec PyProof.Rows L2 SeqAt
section
variable {prog:Program} {w:World} {KK:Type} [DecidableEq KK] {knd:KeyKind prog w KK} {A:Around} {R:Result→Shared→Prop} {I:Addr} {fp wr:List Addr} {G:Array GenState→Array GenState→Prop} {n:Nat} {P:Nat→Value→Prop} {St:Nat→Shared→Prop} {E:Value→Shared→Prop} {s:Shared}
end
section
variable {X:Cx} {xw:XW} {pos p:Pos} {a:Expr} {fa:DSt→Res D}
def PairsAt (K:PySem.W.Frag) (H:Hp):List V→List (Key×V)→Prop
 | [],kvs=>kvs= []
 |x::xs,kvs=>∃ t k v r,x= .ref t∧kvs=(k,v)::r∧SqT K H t [kV k,v]∧PairsAt K H xs r
theorem PairsAt.len {K:PySem.W.Frag} {H:Hp}:∀ {xs:List V} {kvs:List (Key×V)},PairsAt K H xs kvs→xs.length=kvs.length
 | [],_,h=>by rw [show _= [] from h];rfl
 |x::xs,_,h=>by
  obtain ⟨t,k,v,r,_,rfl,_,h⟩:=h
  rw [List.length_cons,List.length_cons,h.len]
end
end L3
namespace L3
open PySem PySem.Spec PyProof.Rows L2 SeqAt
section
variable {X:Cx} {xw:XW} {a b e:Expr} {pos:Pos} {fa f:DSt→Res D} {fq:DSt→Res (List (Key×D))}
end
end L3
namespace L3
open PySem PySem.Spec PyProof.Rows L2 SeqAt
structure FunD (K:PySem.W.Frag) (x qual:Str) (st:Stmt) (f:Addr) (fd:FuncData) (dV:Value):Prop where
 ex:∃ (oc:Value) (od:Option Addr) (kV doc pm:Value) (an:Option Addr) (cdv ct:Value) (osl:Array (Option Value)),
  fd=PySem.W.fnOf x qual (defArgs st) (defBody st) (defScope st) dV kV doc pm an cdv ct∧K.lookup f=some ⟨oc,od, .func fd,osl⟩∧PySem.W.codeIn K cdv qual=true
 kp:PySem.W.keepIn K (.ref f)=true
section
variable {P:Program} {w:World} {K:PySem.W.Frag} {mg:Str→Option Value} {base:Heap}
theorem FunD.ok {x qual:Str} {st:Stmt} {f:Addr} {fd:FuncData} {dV:Value} {N ps:List Str} {k:Nat} {sp:Sp} (F:FunD K x qual st f fd dV) (S:FnScope N ps (defScope st)) (len:∀ vs H Q E,sp vs H Q E→vs.length=ps.length)
  (hbody:∀ (cdv:Value) (A:Around) (outer:List Env) (s:Shared) (H:Hp) (vs:List V) (Q:VK) (E:XK),Room k (A.deeper (envOfC qual (defScope st) s.heap.objs.size f cdv))→sp vs H Q E→
   ∃ t,PSs (cxOf CX0 P w K mg base N qual (defScope st) f cdv A outer s H E).nox (defBody st) t∧t {nx:=fun _ H'=>Q .non H',rt:=Q} (start N vs) H):FnOk P w K mg base CX0 (k+1) f fd ps sp:=by
 obtain ⟨oc,od,kV,doc,pm,an,cdv,ct,osl,rfl,lk,hcd⟩:=F.ex
 refine fn_of lk hcd S len fun A outer s H vs Q E hr hsp=> ?_
 obtain ⟨t,h,q⟩:=hbody cdv A outer s H vs Q E hr hsp
 exact ⟨t,h.nox,q⟩
theorem FunD.binds {x qual:Str} {st:Stmt} {f:Addr} {fd:FuncData} {dV:Value} {ps:List Str} (F:FunD K x qual st f fd dV)
  (h:∀ (kV doc pm:Value) (an:Option Addr) (cdv ct:Value) (us:List Value),us.length=ps.length→bindArgs (PySem.W.fnOf x qual (defArgs st) (defBody st) (defScope st) dV kV doc pm an cdv ct) ⟨us,[]⟩=pure (ps.zip us)):Binds K fd ps []:=by
 obtain ⟨oc,od,kV,doc,pm,an,cdv,ct,osl,rfl,lk,hcd⟩:=F.ex
 exact .all (h kV doc pm an cdv ct)
end
end L3
namespace L3
open PySem PySem.Spec PyProof.Rows L2 SeqAt
section
variable {X:Cx} {xw:XW} {a b:Expr} {fa fb:DSt→Res D} {pos p:Pos}
end
structure FnL (P:Program) (w:World) (K:PySem.W.Frag) (mg:Str→Option Value) (base:Heap) (k:Nat) (x:Str) (n:Nat) (m:List D→Res D) (i:Int):Prop where
 ex:∃ (fa:Addr) (fd:FuncData) (ps:List Str) (v0:Value),FnOk P w K mg base CX0 k fa fd ps (spD K n m)∧mg x=some (.ref fa)∧PySem.W.keepIn K (.ref fa)=true∧Binds K fd ps [v0]∧RelV (.int i) v0
theorem FnL.mono {P:Program} {w:World} {K:PySem.W.Frag} {mg:Str→Option Value} {base:Heap} {j k n:Nat} {x:Str} {m:List D→Res D} {i:Int} (F:FnL P w K mg base j x n m i) (h:j≤k):FnL P w K mg base k x n m i:=
 let ⟨fa,fd,ps,v0,G,hm,hk,hb,hv⟩:=F.ex
 ⟨fa,fd,ps,v0,G.mono h,hm,hk,hb,hv⟩
end L3
namespace PySem
open Sem (wp)
def D2 (o o':Obj):Prop:=o'.dict=o.dict∧∀ vs,o.data= .fields vs→∃ vs',o'.data= .fields vs'∧vs'[2]? =vs[2]?
theorem D2.refl (o:Obj):D2 o o:=⟨rfl,fun vs e=>⟨vs,e,rfl⟩⟩
theorem D2.trans {a b c:Obj} (x:D2 a b) (y:D2 b c):D2 a c:=⟨y.1.trans x.1,fun vs e=>by
 obtain ⟨v1,e1,q1⟩:=x.2 vs e
 obtain ⟨v2,e2,q2⟩:=y.2 v1 e1
 exact ⟨v2,e2,q2.trans q1⟩⟩
def DK (h h':Heap):Prop:=∀ b o,h.get? b=some o→∃ o',h'.get? b=some o'∧D2 o o'
theorem DK.refl (h:Heap):DK h h:=fun _ o e=>⟨o,e,D2.refl o⟩
theorem DK.trans {h1 h2 h3:Heap} (x:DK h1 h2) (y:DK h2 h3):DK h1 h3:=fun b o e=>
 let ⟨o1,e1,d1⟩:=x b o e
 let ⟨o2,e2,d2⟩:=y b o1 e1
 ⟨o2,e2,d1.trans d2⟩
theorem DK.push (h:Heap) (o:Obj):DK h (h.push o):=fun b u e=>⟨u,Heap.get?_push_of_some o e,D2.refl u⟩
theorem DK.upd (h:Heap) (a:Addr) (f:Obj→Obj) (hd:∀ o,h.get? a=some o→D2 o (f o)) (hf:∀ o,h.get? a=some o→(f o).isFreed=false):DK h (h.update a f):=fun b u e=>by
 by_cases hb:a=b
 ·subst hb
  exact ⟨f u,Heap.get?_update_self f e (hf u e),hd u e⟩
 ·exact ⟨u,(Heap.get?_update_other h f hb).trans e,D2.refl u⟩
structure KeepD {α:Type} (t:Sem α):Prop where
 out:∀ (M:Model) (Γ:Ctx) (P:α→Pos→Shared→Prop) (Ee:Value→Pos→Shared→Prop) (p:Pos) (s:Shared),wp M Γ t P Ee p s→wp M Γ t (fun a p' s'=>P a p' s'∧DK s.heap s'.heap) Ee p s
namespace KeepD
variable {α β:Type}
theorem now (a:α):KeepD (Pure.pure a:Sem α):=⟨fun _ _ _ _ _ _ h=>⟨h,DK.refl _⟩⟩
theorem off (w:String):KeepD (PySem.unsupported w:Sem α):=⟨fun _ _ _ _ _ _ h=>h⟩
theorem seq {m:Sem α} {f:α→Sem β} (hm:KeepD m) (hf:∀ a,KeepD (f a)):KeepD (m >>= f):=⟨fun M Γ P Ee p s h=>by
 rw [Sem.wp_bind'] at h ⊢
 refine Sem.wp_mono M Γ m (fun a p1 s1 h1=> ?_) (fun _ _ _ x=>x) p s (hm.out M Γ _ Ee p s h)
 exact Sem.wp_mono M Γ (f a) (fun b p2 s2 h2=>⟨h2.1,h1.2.trans h2.2⟩) (fun _ _ _ x=>x) p1 s1 ((hf a).out M Γ P Ee p1 s1 h1.1)⟩
theorem cond {c:Prop} [Decidable c] {t u:Sem α} (ht:KeepD t) (hu:KeepD u):KeepD (if c then t else u):=by split<;>assumption
theorem ld (a:Addr):KeepD (PySem.load a):=⟨fun M Γ P Ee p s h=>by
 unfold PySem.load at h ⊢
 rw [Sem.wp_load] at h ⊢
 obtain ⟨o,e,q⟩:=h
 rw [Sem.wp_pure] at q
 exact ⟨o,e,by rw [Sem.wp_pure];exact ⟨q,DK.refl _⟩⟩⟩
theorem up (a:Addr) (f:Obj→Obj) (hd:∀ o,(f o).dict=o.dict) (he:∀ o,(f o).data=o.data):KeepD (PySem.update a f):=⟨fun M Γ P Ee p s h=>by
 unfold PySem.update at h ⊢
 rw [Sem.wp_update] at h ⊢
 obtain ⟨e,q⟩:=h
 rw [Sem.wp_pure] at q
 refine ⟨e,?_⟩
 rw [Sem.wp_pure]
 refine ⟨q,DK.upd _ _ _ (fun o _=>⟨hd o,fun vs e=>⟨vs,(he o).trans e,rfl⟩⟩) fun o ho=> ?_⟩
 have al:=((Heap.get?_eq_some _ _ _).1 ho).2
 have h1:=he o
 revert h1
 generalize f o=u
 intro h1
 obtain ⟨c1,d1,t1,s1⟩:=u
 obtain ⟨c2,d2,t2,s2⟩:=o
 dsimp only at h1
 subst h1
 cases t1<;>first|rfl|cases al⟩
theorem stk:KeepD PySem.stack:=⟨fun M Γ P Ee p s h=>by
 unfold PySem.stack at h ⊢
 rw [Sem.wp_stack] at h ⊢
 rw [Sem.wp_pure] at h ⊢
 exact ⟨h,DK.refl _⟩⟩
theorem new (o:Obj):KeepD (PySem.alloc o):=⟨fun M Γ P Ee p s h=>by
 unfold PySem.alloc at h ⊢
 rw [Sem.wp_alloc,Sem.wp_pure] at h ⊢
 exact ⟨h,DK.push _ _⟩⟩
theorem fld (v:Value) (i:Nat):KeepD (PySem.field v i):=⟨fun M Γ P Ee p s h=>by
 rw [wp_field_iff] at h ⊢
 obtain ⟨a,o,vs,x,e1,e2,e3,e4,q⟩:=h
 exact ⟨a,o,vs,x,e1,e2,e3,e4,q,DK.refl _⟩⟩
theorem put (v:Value) (i:Nat) (x:Value) (hi:i≠2):KeepD (PySem.setField v i x):=⟨fun M Γ P Ee p s h=>by
 rw [wp_setField_iff] at h ⊢
 obtain ⟨a,o,vs,e1,e2,e3,e4,q⟩:=h
 refine ⟨a,o,vs,e1,e2,e3,e4,q,DK.upd _ _ _ (fun u hu=>⟨?_,fun ws ew=>⟨_,Obj.data_mapFields ew _,?_⟩⟩) fun u hu=> ?_⟩
 ·unfold Obj.mapFields;split<;>rfl
 ·exact Array.getElem?_setIfInBounds_ne hi
 ·rw [e2] at hu;cases hu
  exact Obj.isFreed_of_fields (Obj.data_mapFields e3 _)⟩
end KeepD
local macro_rules| `(tactic| walk_at "keepd")=> `(tactic| repeat' with_reducible first
  |assumption
  |exact KeepD.now _
  |exact KeepD.off _
  |exact KeepD.fld _ _
  |exact KeepD.put _ _ _ (by decide)
  |exact KeepD.ld _
  |exact KeepD.stk
  |exact KeepD.new _
  |exact KeepD.up _ _ (fun _=>rfl) (fun _=>rfl)
  |apply KeepD.cond
  |apply KeepD.seq
  |intro _
  |split)
theorem kd_imp (env:Env) (outer:List Env):KeepD (behindIsImport env outer):=by
 unfold behindIsImport
 walk_at "keepd"
theorem kd_caller:KeepD underTheClaimsCaller:=by
 unfold underTheClaimsCaller
 walk_at "keepd"
theorem kd_back (env:Env) (i:Bool) (l:List Env):KeepD (keptBack env i l):=by
 have:=kd_caller
 cases l<;>unfold keptBack<;>walk_at "keepd"
theorem kd_ready:∀ l:List Env,KeepD (readyFrames l)
 | []=>KeepD.now _
 |env::outer=>by
  have r:=kd_ready outer
  have a:=kd_imp env outer
  have b:=fun i=>kd_back env i outer
  unfold readyFrames
  walk_at "keepd"
  all_goals first|exact b _|skip
theorem kd_frame (l:List Env):KeepD (frameObject l):=by
 cases l with
 |nil=>exact KeepD.now _
 |cons env outer=>
  have r:=kd_ready (env::outer)
  unfold frameObject
  walk_at "keepd"
theorem kd_of (env:Env):KeepD (frameOf env):=by
 have a:KeepD frameEnvs:=by unfold frameEnvs;walk_at "keepd"
 have b:=kd_frame
 unfold frameOf
 walk_at "keepd"
 all_goals first|exact b _|skip
theorem kd_place (f:Addr) (b:Bool):KeepD (entryPlaceOf f b):=by
 unfold entryPlaceOf
 walk_at "keepd"
theorem kd_entry (a b c d e:Value) (l:List Value):KeepD (EntryCells.newEntry a b c d e l):=by
 unfold EntryCells.newEntry newFields newObj newObjAsIs
 dsimp only
 walk_at "keepd"
theorem kd_note (e:Value) (env:Env):KeepD (noteFrame e env):=by
 have a:=kd_of env
 have b:=kd_place
 have c:=kd_entry
 unfold noteFrame
 walk_at "keepd"
 all_goals first|exact b _ _|exact c _ _ _ _ _ _|skip
theorem kd_flight (e:Value) (f:Option Addr):KeepD (setFlight e f):=by
 unfold setFlight
 walk_at "keepd"
theorem KeepD.anyK {α:Type} {t:Sem α} (k:KeepD t) {M:Model} {A:Around} {Q:α→Shared→Prop} {E:Value→Shared→Prop} {s:Shared} (h:wpAny M A t Q E s):wpAny M A t (fun v s'=>Q v s'∧DK s.heap s'.heap) E s:=
 fun Γ p hΓ=>k.out M Γ _ _ p s (h Γ p hΓ)
theorem KeepD.thn {α:Type} {t:Sem α} (k:KeepD t) {M:Model} {A:Around} {Q Q':α→Shared→Prop} {E:Value→Shared→Prop} {s:Shared} (h:wpAny M A t Q E s) (g:∀ v s',Q v s'→DK s.heap s'.heap→Q' v s'):wpAny M A t Q' E s:=
 wpAny_mono (KeepD.anyK k h) (fun v s' q=>g v s' q.1 q.2) fun _ _ z=>z
end PySem
namespace L3
open PySem PySem.Spec PyProof.Rows L2 SeqAt
def DcOk (dx:Dx) (o:Obj):Prop:=o.dict=dx.1∧(dx.2=true→∃ vs,o.data= .fields vs∧vs[2]? =some .none)
theorem DcOk.to {dx:Dx} {o o':Obj} (h:DcOk dx o) (d:D2 o o'):DcOk dx o':=⟨d.1.trans h.1,fun z=>by
 obtain ⟨vs,e,q⟩:=h.2 z
 obtain ⟨vs',e',q'⟩:=d.2 vs e
 exact ⟨vs',e',q'.trans q⟩⟩
structure Fly (P:Program) (w:World) (l:List Env) (H:Hp) (s:Shared) (H':Hp) (a:Addr) (cls:Value) (dx:Dx) (h:Heap):Prop where
 un:Un (frs l) [] H H' s.heap h
 hok:HOk P w H' h
 frf:∀ b∈frs l,H' b=none
 new:s.heap.get? a=none
 nh:H' a=none
 dc:∃ o,h.get? a=some o∧DcOk dx o
 fl:∃ B a0,Heap.FlyingW B l a cls a0 h∧∀ b,b∉frs l→((H' b).isSome=true∨(s.heap.get? b).isSome=true)→(B.get? b).isSome=true
section
variable {P:Program} {w:World} {l:List Env} {H H':Hp} {s:Shared} {a:Addr} {cls a0:Value} {h h' B:Heap}
theorem fly_same (cov:∀ b,b∉frs l→((H' b).isSome=true∨(s.heap.get? b).isSome=true)→(B.get? b).isSome=true) (s1:B.StaysIn h) (s2:B.StaysIn h') {b:Addr} (hb:b∉frs l)
  (q:(H' b).isSome=true∨(s.heap.get? b).isSome=true):h'.get? b=h.get? b:=by
 obtain ⟨o,e⟩:=Option.isSome_iff_exists.mp (cov b hb q)
 rw [s1 b o e,s2 b o e]
theorem fly_slots (f:Heap.FlyingW B l a cls a0 h) (up:h.UpToSlots h') {b:Addr} (hb:b∈frs l) {o:Obj} (e:h.get? b=some o):∃ sl,h'.get? b=some {o with slots:=sl}:=by
 obtain ⟨_,o',e',nf⟩:=f.2.2.1.mem hb
 rw [e] at e'
 cases e'
 exact up b o e nf
theorem fly_un (un:Un (frs l) [] H H' s.heap h) (cov:∀ b,b∉frs l→((H' b).isSome=true∨(s.heap.get? b).isSome=true)→(B.get? b).isSome=true) (f:Heap.FlyingW B l a cls a0 h) (s2:B.StaysIn h') (up:h.UpToSlots h'):Un (frs l) [] H H' s.heap h' where
 keep:=fun b o e n hb hx=>(fly_same cov f.1 s2 hb (.inr (by rw [e];rfl))).trans (un.keep b o e n hb hx)
 slot:=fun b o e n hb hx=>by
  obtain ⟨sl,e1⟩:=un.slot b o e n hb hx
  obtain ⟨sl',e2⟩:=fly_slots f up hb e1
  exact ⟨sl',e2⟩
 free:=un.free
 there:=fun b o e hx=>by
  obtain ⟨o',e1⟩:=un.there b o e hx
  by_cases hb:b∈frs l
  ·obtain ⟨sl,e2⟩:=fly_slots f up hb e1
   exact ⟨_,e2⟩
  ·exact ⟨o',(fly_same cov f.1 s2 hb (.inr (by rw [e];rfl))).trans e1⟩
 tups:=un.tups
 frzs:=un.frzs
 tbls:=un.tbls
theorem fly_hok (hok:HOk P w H' h) (frf:∀ b∈frs l,H' b=none) (cov:∀ b,b∉frs l→((H' b).isSome=true∨(s.heap.get? b).isSome=true)→(B.get? b).isSome=true) (s1:B.StaysIn h) (s2:B.StaysIn h'):HOk P w H' h':=fun b u e=>by
 have tr:∀ c v,H' c=some v→c∉frs l:=fun c v q z=>by rw [frf c z] at q;cases q
 refine (hok b u e).stay (fun c v hc q=> ?_) (fun _ q=>q) fun _ _ q=>q
 rcases hc with rfl|hc
 ·exact (fly_same cov s1 s2 (tr c u e) (.inl (by rw [e];rfl))).trans q
 ·exact (fly_same cov s1 s2 (tr c _ hc) (.inl (by rw [hc];rfl))).trans q
end
def CXD (P:Program) (w:World):CXT:=fun l H s E e s'=>∃ a cls dx H',e= .ref a∧s'.os=s.os∧AllBare s'.gens∧Fly P w l H s H' a cls dx s'.heap∧E cls dx H'
section
variable {X:Cx} {pins:List (Addr×Obj)} {σ:L2.St} {H H':Hp} {s s':Shared} {a:Addr} {cls:Value} {dx:Dx} {M:Model} {Ex:Value→Shared→Prop}
theorem inv_flown (I:Inv X pins σ H s) (os:s'.os=s.os) (bare:AllBare s'.gens) (x:Fly X.prog X.w X.stack H s H' a cls dx s'.heap):Inv X pins σ H' s':=
 I.call' (ch:= []) os x.un x.hok bare fun b z=>absurd z (by simp)
end
end L3
namespace L3
open PySem PySem.Spec PyProof.Rows L2 SeqAt
def spX (K:PySem.W.Frag) (n:Nat) (m:List D→Res D):Sp:=fun vs H Q E=>vs.length=n∧∃ W ds,WL W H∧HasL K W H ds vs∧match m ds with
 | .ok d=>∀ v H',Same H H'→Has K W H' d v→Q v H'
 | .ex c fs=>∀ cls dx H',PySem.W.nsIn K mainGlobals c=some (some cls)→Same H H'→ExF H' dx fs→E cls dx H'
 | .stuck=>False
structure FnX (P:Program) (w:World) (K:PySem.W.Frag) (mg:Str→Option Value) (base:Heap) (k:Nat) (x:Str) (n:Nat) (m:List D→Res D):Prop where
 ex:∃ f fd ps,FnOk P w K mg base (CXD P w) k f fd ps (spX K n m)∧mg x=some (.ref f)∧PySem.W.keepIn K (.ref f)=true∧Binds K fd ps []
theorem FnX.mono {P:Program} {w:World} {K:PySem.W.Frag} {mg:Str→Option Value} {base:Heap} {j k n:Nat} {x:Str} {m:List D→Res D} (F:FnX P w K mg base j x n m) (h:j≤k):FnX P w K mg base k x n m:=by
 obtain ⟨f,fd,ps,a,b⟩:=F.ex
 exact ⟨f,fd,ps,a.mono h,b⟩
structure FnXL (P:Program) (w:World) (K:PySem.W.Frag) (mg:Str→Option Value) (base:Heap) (k:Nat) (x:Str) (n:Nat) (m:List D→Res D) (i:Int):Prop where
 ex:∃ (fa:Addr) (fd:FuncData) (ps:List Str) (v0:Value),FnOk P w K mg base (CXD P w) k fa fd ps (spX K n m)∧mg x=some (.ref fa)∧PySem.W.keepIn K (.ref fa)=true∧Binds K fd ps [v0]∧RelV (.int i) v0
theorem FnXL.mono {P:Program} {w:World} {K:PySem.W.Frag} {mg:Str→Option Value} {base:Heap} {j k n:Nat} {x:Str} {m:List D→Res D} {i:Int} (F:FnXL P w K mg base j x n m i) (h:j≤k):FnXL P w K mg base k x n m i:=
 let ⟨fa,fd,ps,v0,G,hm,hk,hb,hv⟩:=F.ex
 ⟨fa,fd,ps,v0,G.mono h,hm,hk,hb,hv⟩
def runX (n:Nat) (g:DSt→Out) (ds:List D):Res D:=match g (startD n ds) with
 | .rt d=> .ok d
 | .nx _=> .ok .non
 | .ex c fs=> .ex c fs
 |_=> .stuck
section
variable {P:Program} {w:World} {K:PySem.W.Frag} {mg:Str→Option Value} {base:Heap}
end
def noexO:Out→Out
 | .ex _ _=> .stuck
 |o=>o
section
variable {X:Cx} {xw:XW} {e a:Expr} {es:List Expr} {f:DSt→Res D} {ga:DSt→Res Bool} {fs:DSt→Res (List D)} {pos p:Pos} {st:Stmt} {sts:List Stmt} {g:DSt→Out}
theorem PS.nox {st:Stmt} {t:TS} (h:PS X.nox st t):PS X st t:=fun pins s σ H D I hw=>
 wpAny_mono (h pins s σ H D (I.wish _) hw) (fun _ _ q=>q.unwish) fun _ _ z=>False.elim z
theorem PA.nox {t:TA} (h:PA X.nox es t):PA X es t:=fun ps pins s σ H Q I hw=>
 wpAny_mono (h ps pins s σ H Q (I.wish _) hw) (fun _ _ ⟨v,H',I',r,q⟩=>⟨v,H',I'.unwish,r,q⟩) fun _ _ z=>False.elim z
def noxA (f:DSt→Res (List D)):DSt→Res (List D):=fun δ=>noex (f δ)
def noxB (f:DSt→Res Bool):DSt→Res Bool:=fun δ=>noex (f δ)
def noxS (g:DSt→Out):DSt→Out:=fun δ=>noexO (g δ)
def callX (n:Nat) (m:List D→Res D) (ds:List D):Res D:=if ds.length=n then m ds else .stuck
end
abbrev bmV:List Value:= [.type "ValueError", .type "Exception", .type "BaseException", .type "object"]
structure ClsX (K:PySem.W.Frag) (c:Str):Prop where
 ex:∃ C,PySem.W.nsIn K mainGlobals c=some (some (.ref C))∧PySem.W.excIn K C bmV "ValueError.__new__"=true
def sRaise (c:Str) (fs:DSt→Res (List D)):DSt→Out:=fun δ=>ofR (fs δ) fun ds=>if ds.length=1 then .ex c [] else .stuck
section
variable {X:Cx} {xw:XW} {a:Expr} {es:List Expr} {fs:DSt→Res (List D)} {pos np cpos:Pos} {c:Str}
end
end L3
namespace L3
open PySem PySem.Spec PyProof.Rows L2 SeqAt
abbrev markX (X:Cx) (a:Addr):Cx:= {X with A:=X.A.mark (some (.ref a)),calm:=false,xe:=fun _ _=>False}
abbrev tryX (X:Cx) (pins:List (Addr×Obj)) (E:Value→Shared→Prop):Cx:= {X with pn:=X.pn++pins,xe:=E}
section
variable {X:Cx} {pins:List (Addr×Obj)} {σ:L2.St} {H H':Hp} {s s':Shared} {a:Addr} {cls:Value} {dx:Dx} {Ex:Value→Shared→Prop}
theorem ok_mark (ok:X.Ok) (a:Addr):(markX X a).Ok:=
 ⟨ok.mod,ok.kind,ok.glob,ok.blt,ok.above,ok.inj,ok.has,ok.cab,fun z=>absurd (show false=true from z) (by decide),ok.frames,ok.stk,ok.exf,ok.bs,ok.bsz,ok.noex,ok.exfs,ok.funs,ok.frf⟩
theorem inv_mark (I:Inv X pins σ H s) (a:Addr):Inv (markX X a) pins σ H s:=⟨ok_mark I.ok a,I.os,I.bare,I.base,I.loc,I.cell,I.free,I.freeC,I.pin,I.hok,I.len⟩
theorem inv_unmark (ok:X.Ok) (I:Inv (markX X a) pins σ H s):Inv X pins σ H s:=⟨ok,I.os,I.bare,I.base,I.loc,I.cell,I.free,I.freeC,I.pin,I.hok,I.len⟩
theorem sp_unmark (ok:X.Ok) {D:Ends} {f:Flow} (h:SP (markX X a) pins D f s'):SP X pins D f s':=by
 cases f with
 |next=>obtain ⟨σ',H',I,q⟩:=h;exact ⟨σ',H',inv_unmark ok I,q⟩
 |brk=>obtain ⟨σ',H',I,q⟩:=h;exact ⟨σ',H',inv_unmark ok I,q⟩
 |cont=>obtain ⟨σ',H',I,q⟩:=h;exact ⟨σ',H',inv_unmark ok I,q⟩
 |ret u=>obtain ⟨v,σ',H',I,r,q⟩:=h;exact ⟨v,σ',H',inv_unmark ok I,r,q⟩
theorem ok_try (ok:X.Ok):(tryX X pins Ex).Ok:=
 ⟨ok.mod,ok.kind,ok.glob,ok.blt,ok.above,ok.inj,ok.has,ok.cab,ok.hd,ok.frames,ok.stk,ok.exf,ok.bs,ok.bsz,ok.noex,ok.exfs,ok.funs,ok.frf⟩
theorem inv_try (I:Inv X pins σ H s):Inv (tryX X pins Ex) [] σ H s:=⟨ok_try I.ok,I.os,I.bare,I.base,I.loc,I.cell,I.free,I.freeC,fun p hp=>I.pin p (by simpa using hp),I.hok,I.len⟩
theorem inv_untry {more:List (Addr×Obj)} (ok:X.Ok) (I:Inv (tryX X pins Ex) more σ H s):Inv X pins σ H s:=⟨ok,I.os,I.bare,I.base,I.loc,I.cell,I.free,I.freeC,fun p hp=>I.pin p (List.mem_append_left _ hp),I.hok,I.len⟩
theorem inv_track {φ:Heap→Prop} (I:Inv X pins σ H s) (I':Inv X pins σ H' s') (hex:X.ex= []) (new:s.heap.get? a=none) (nh:H' a=none) (x:ObjOk X.prog X.w (upd H' a (.ext φ)) s'.heap a (.ext φ)):Inv X pins σ (upd H' a (.ext φ)) s':=by
 have ne:∀ b o,s.heap.get? b=some o→b≠a:=fun b o e z=>by rw [z,new] at e;cases e
 have ne0:∀ b o,X.s₀.heap.get? b=some o→b≠a:=fun b o e=>by
  obtain ⟨o',e'⟩:=I.base.there b o e (by rw [hex];simp)
  exact ne b o' e'
 have up:∀ b o,H' b=some o→upd H' a (.ext φ) b=some o:=fun b o e=>by rw [upd_ne (ne_of_none e nh)];exact e
 refine ⟨I'.ok,I'.os,I'.bare,⟨I'.base.keep,I'.base.slot,fun b o e n hx=> ?_,I'.base.there,fun b xs e=>up _ _ (I'.base.tups b xs e),fun b o u e=>up _ _ (I'.base.frzs b o u e),fun b ps e=> ?_⟩,I'.loc,I'.cell,?_,fun y c e=> ?_,fun p hp=> ?_,fun b u e=> ?_,I'.len⟩
 ·rw [upd_ne (ne0 b o e)];exact I'.base.free b o e n hx
 ·obtain ⟨m,e1⟩:=I'.base.tbls b ps e
  exact ⟨m,up _ _ e1⟩
 ·obtain ⟨m,⟨o,_,_,ho,_⟩,_⟩:=I.loc
  rw [upd_ne (ne _ o ho)];exact I'.free
 ·obtain ⟨v,o,ho,_⟩:=I.cell y c e
  rw [upd_ne (ne c o ho)];exact I'.freeC y c e
 ·obtain ⟨e,n,r⟩:=I'.pin p hp
  refine ⟨e,?_,r⟩
  rw [upd_ne (ne p.1 _ (I.pin p hp).1)];exact n
 ·by_cases hb:b=a
  ·subst hb
   rw [upd_same] at e
   cases e
   exact x
  ·rw [upd_ne hb] at e
   exact (I'.hok b u e).stay (fun _ _ _ q=>q) (fun c q=>up _ _ q) fun c xs q=>up _ _ q
end
structure MatchX (K:PySem.W.Frag) (C c:Str):Prop where
 ex:∃ vc vC,PySem.W.nsIn K mainGlobals c=some (some vc)∧PySem.W.nsIn K mainGlobals C=some (some vC)∧PySem.W.exmOne K vc vC=some true
section
variable {X:Cx} {pins:List (Addr×Obj)} {σ:L2.St} {H H':Hp} {s s':Shared} {a:Addr} {cls vC:Value} {dx:Dx} {Ex:Value→Shared→Prop} {C n:Str} {np pos:Pos} {b₀:Stmt} {suite:List Stmt} {rest:List ExceptHandler} {Q:Flow→Shared→Prop}
theorem caught_test {R:Result→Shared→Prop} (I:Inv X pins σ H s) (hst:X.stack=X.env::X.outer) (hfr:X.env.frame=some X.env.locals) (os:s'.os=s.os) (bare:AllBare s'.gens) (x:Fly X.prog X.w X.stack H s H' a cls dx s'.heap)
  (hC:Gl X C) (hm:PySem.W.nsIn X.K mainGlobals C=some (some vC)) (he:PySem.W.exmOne X.K cls vC=some true) (hdb:(C==("__debug__":Str))=false)
  (k:∀ h',Fly X.prog X.w X.stack H s H' a cls dx h'→R (.ok .brk) {s' with heap:=h'}):
  codeAny (model X.prog X.w) (X.A.mark (some (.ref a))) (.handlers (.ref a) [.ExceptHandler (some (.Name C np)) none [] pos] X.env) R s':=by
 have I':=inv_mark (inv_flown I os bare x) a
 refine codeAny_handlers_test (ld_glob I' hC (PySem.W.mg_of I.ok.mod.kin I.ok.mod.glob hm) ?_ hdb)
 obtain ⟨B,a0,f,cov⟩:=x.fl
 obtain ⟨ob,hob,hc⟩:=f.there
 have LT:PySem.W.Looks (model X.prog X.w) s'.heap (typeOf (.ref a)) cls:=by
  subst hc
  exact (PySem.W.Looks.ld hob).andThen .now
 exact (PySem.W.exm_one I'.kIn LT he).here (k s'.heap x)
theorem fly_heap {h':Heap} {B:Heap} {a0:Value} (x:Fly X.prog X.w X.stack H s H' a cls dx s'.heap) (f:Heap.FlyingW B X.stack a cls a0 s'.heap) (cov:∀ b,b∉frs X.stack→((H' b).isSome=true∨(s.heap.get? b).isSome=true)→(B.get? b).isSome=true)
  (f':Heap.FlyingW B X.stack a cls a0 h') (up:s'.heap.UpToSlots h') (dk:DK s'.heap h'):Fly X.prog X.w X.stack H s H' a cls dx h':=
 ⟨fly_un x.un cov f f'.1 up,fly_hok x.hok x.frf cov f.1 f'.1,x.frf,x.new,x.nh,(let ⟨o,e,d⟩:=x.dc;let ⟨o',e',d'⟩:=dk a o e;⟨o',e',d.to d'⟩),B,a0,f',cov⟩
theorem caught_look {hs:List ExceptHandler} (I:Inv X pins σ H s) (hst:X.stack=X.env::X.outer) (hfr:X.env.frame=some X.env.locals) (x:Fly X.prog X.w X.stack H s H' a cls dx s'.heap)
  (k:∀ h',Fly X.prog X.w X.stack H s H' a cls dx h'→wpAny (model X.prog X.w) X.A (handleBy (.ref a) X.env hs) Q Ex {s' with heap:=h'}):
  wpAny (model X.prog X.w) X.A (noteFrame (.ref a) X.env) (fun _ s₂=>wpAny (model X.prog X.w) X.A (setFlight (.ref a) none) (fun _ s₃=>wpAny (model X.prog X.w) X.A (handleBy (.ref a) X.env hs) Q Ex s₃) Ex s₂) Ex s':=by
 obtain ⟨B,a0,f,cov⟩:=x.fl
 have f2:Heap.FlyingW B (X.env::X.outer) a cls a0 s'.heap:=by rw [←hst];exact f
 refine (kd_note (.ref a) X.env).thn (Q:=fun _ s4=>∃ h₄,s4= {s' with heap:=h₄}∧Heap.HeldW B (X.env::X.outer) a cls a0 X.env.locals h₄∧s'.heap.UpToSlots h₄) (wpAny_looks_onW (by rw [←hst];exact I.ok.frames) hfr f2 fun h₄ held up₄=>⟨h₄,rfl,held,up₄⟩) fun _ s4 ⟨h₄,e4,held,up₄⟩ dk4=> ?_
 subst e4
 refine (kd_flight (.ref a) none).thn (Q:=fun _ s5=>∃ h₅,s5= {s' with heap:=h₅}∧Heap.FlyingW B (X.env::X.outer) a cls a0 h₅∧h₄.UpToSlots h₅) (wpAny_landsW held fun h₅ f₅ up₅=>⟨h₅,rfl,f₅,up₅⟩) fun _ s5 ⟨h₅,e5,f₅,up₅⟩ dk5=> ?_
 subst e5
 exact k h₅ (fly_heap x f cov (by rw [hst];exact f₅) (up₄.trans up₅) (dk4.trans dk5))
theorem exc_ok {P:Program} {w:World} {H:Hp} {h:Heap} (x:ExcAt a cls dx h):ObjOk P w H h a (.ext (ExcAt a cls dx)):=by
 obtain ⟨o,vs,e,hc,hx,hd,hz⟩:=x
 exact ⟨⟨o,vs,e,hc,hx,hd,hz⟩,⟨o,e⟩,fun h1 h2 ⟨o1,vs1,e1,hc1,hx1,hd1⟩ k=>⟨o1,vs1,k _ e1,hc1,hx1,hd1⟩⟩
theorem fly_exc {h:Heap} (x:Fly X.prog X.w X.stack H s H' a cls dx h):ExcAt a cls dx h:=by
 obtain ⟨B,a0,f,cov⟩:=x.fl
 obtain ⟨oe,vs,he,hc,hd,_⟩:=f.first
 obtain ⟨od,ed,dd⟩:=x.dc
 rw [he] at ed
 cases ed
 exact ⟨oe,vs,he,hc,dd.1,hd,fun z=>by
  obtain ⟨vs',e',q⟩:=dd.2 z
  rw [hd] at e';cases e'
  exact q⟩
theorem caught_0 {D:Ends} {t:TS} (I:Inv X pins σ H s) (hex:X.ex= []) (hst:X.stack=X.env::X.outer) (hfr:X.env.frame=some X.env.locals) (os:s'.os=s.os) (bare:AllBare s'.gens) (x:Fly X.prog X.w X.stack H s H' a cls dx s'.heap)
  (hC:Gl X C) (hm:PySem.W.nsIn X.K mainGlobals C=some (some vC)) (he:PySem.W.exmOne X.K cls vC=some true) (hdb:(C==("__debug__":Str))=false)
  (hsu:∀ a,PSs (markX X a) (b₀::suite) t) (ht:t D σ (upd H' a (.ext (ExcAt a cls dx)))):
  wpAny (model X.prog X.w) X.A (noteFrame (.ref a) X.env) (fun _ s₂=>wpAny (model X.prog X.w) X.A (setFlight (.ref a) none) (fun _ s₃=>
   wpAny (model X.prog X.w) X.A (handleBy (.ref a) X.env (.ExceptHandler (some (.Name C np)) none (b₀::suite) pos::rest)) (SP X pins D) Ex s₃) Ex s₂) Ex s':=by
 refine caught_look I hst hfr x fun h5 x5=> ?_
 refine wpAny_handleBy_cons (caught_test (s':= {s' with heap:=h5}) I hst hfr os bare x5 hC hm he hdb fun h6 x6=>codeAny_handlers_suite ?_) (by intro q;cases q)
 obtain ⟨B,a0,f,cov⟩:=x6.fl
 refine (kd_flight (.ref a) none).thn (Q:=fun _ s7=>∃ h7,s7= {s' with heap:=h7}∧Heap.FlyingW B X.stack a cls a0 h7∧h6.UpToSlots h7) (lands_againW f fun h7 f7 up7=>⟨h7,rfl,f7,up7⟩) fun _ s7 ⟨h7,e7,f7,up7⟩ dk7=> ?_
 subst e7
 have x7:=fly_heap (s':= {s' with heap:=h6}) x6 f cov f7 up7 dk7
 have I7:Inv X pins σ H' {s' with heap:=h7}:=inv_flown (s':= {s' with heap:=h7}) I os bare x7
 have I8:=inv_track I I7 hex x7.new x7.nh (exc_ok (fly_exc x7))
 exact wpAny_mono (hsu a pins _ σ _ D (inv_mark I8 a) ht) (fun fl s9 q=>sp_unmark I.ok q) fun _ _ z=>False.elim z
end
end L3
namespace L3
open PySem PySem.Spec PyProof.Rows L2 SeqAt
section
variable {X:Cx} {CX:CXT} {k:Nat} {f:Addr} {fd:FuncData} {ps:List Str} {sp:Sp} {dvs:List V} {ds:List Value} {E:L2.St→XK} {x:Str} {p pos:Pos} {e:Expr} {es:List Expr} {t:TA}
theorem pe_callS (F:FnOk X.prog X.w X.K X.mg X.base CX k f fd ps sp) (hr:Room k X.A) (hg:Gl X x) (hm:X.mg x=some (.ref f)) (hk:PySem.W.keepIn X.K (.ref f)=true) (hb:Binds X.K fd ps ds) (hd:Vals dvs ds)
  (hx:∀ (pins:List (Addr×Obj)) (σ:L2.St) (H:Hp) (s:Shared) (e:Value) (s':Shared),Inv X pins σ H s→CX X.stack H s (E σ) e s'→X.xe e s')
  (ha:PA X (e::es) t) (hdb:(x==("__debug__":Str))=false) (he:starEach (e::es) X.env=(false,eval e X.env)::starEach es X.env) (hpl:(backTo pos (starEach es X.env)).any (·.1)=false):
  PE X (.Call (.Name x p) (e::es) [] pos) (fun σ H Q=>t σ H fun vs H1=>sp (vs++dvs) H1 Q (E σ)):=by
 intro pins s σ H Q I h
 refine wpAny_Call_Name_kw (ld_glob I hg hm ?_ hdb)
 refine PySem.W.callWith_K (h₀:=X.base) I.ok.mod.kin hk (thn (ha pos pins s σ H _ I h) fun us s1 ⟨vs,H1,I1,r,q⟩=>⟨I1.kIn,?_⟩) he hpl
 have r2:Vals (vs++dvs) (us++ds):=r.append hd
 have hl:(us++ds).length=ps.length:=by rw [←r2.length];exact F.len _ _ _ _ q
 refine wpAny_call (codeAny_mono (F.run X.A X.stack s1 H1 ⟨us,[]⟩ (us++ds) (vs++dvs) Q (E σ) hr I1.env0 (hb s1 us I1.kIn hl) r2 q) fun r s' hq=> ?_)
 cases r with
 |error e=>exact hx pins σ H1 s1 e s' I1 hq
 |ok fl=>
  cases fl with
  |ret u=>exact I1.after hq
  |next=>exact False.elim hq
  |brk=>exact False.elim hq
  |cont=>exact False.elim hq
theorem pa_try {pins:List (Addr×Obj)} {Ex:Value→Shared→Prop} (h:PA X.nox es t):PA (tryX X pins Ex) es t:=fun q more s σ H Q I hw=>by
 have ok:X.Ok:=⟨I.ok.mod,I.ok.kind,I.ok.glob,I.ok.blt,I.ok.above,I.ok.inj,I.ok.has,I.ok.cab,I.ok.hd,I.ok.frames,I.ok.stk,I.ok.exf,I.ok.bs,I.ok.bsz,I.ok.noex,I.ok.exfs,I.ok.funs,I.ok.frf⟩
 have I':Inv X.nox (pins++more) σ H s:=⟨ok.wish _,I.os,I.bare,I.base,I.loc,I.cell,I.free,I.freeC,fun z hz=>I.pin z (by show z∈(X.pn++pins)++more;rw [List.append_assoc];exact hz),I.hok,I.len⟩
 refine wpAny_mono (h q _ s σ H Q I' hw) (fun us s1 ⟨v,H',J,r,z⟩=>⟨v,H',?_,r,z⟩) fun _ _ z=>False.elim z
 exact ⟨I.ok,J.os,J.bare,J.base,J.loc,J.cell,J.free,J.freeC,fun z hz=>J.pin z (by show z∈X.pn++(pins++more);rw [←List.append_assoc];exact hz),J.hok,J.len⟩
end
structure KindX (X:Cx) (e:Expr) (st:Stmt) (gK:D→DSt→Out):Prop where
 ex:∃ cont:Ends→L2.St→VK,(∀ (pins:List (Addr×Obj)) (Ex:Value→Shared→Prop) (te:TE),PE (tryX X pins Ex) e te→PS (tryX X pins Ex) st (fun Dn σ H=>te σ H (cont Dn σ)))∧
  ∀ (xw:XW) (W₀:WS) (H₀:Hp) (W:WS) (H:Hp) (d:D) (v:V) (σ:L2.St) (δ:DSt) (Dn:Ends),StHas X.K W₀ H₀ W H σ δ→Has X.K W H d v→RS X.K xw W₀ H₀ W H (gK d δ) Dn→cont Dn σ v H
section
variable {X:Cx} {e:Expr} {pos:Pos}
theorem kd_ret:KindX X e (.Return (some e) pos) (fun d _=> .rt d):=
 ⟨fun Dn _ v H=>Dn.rt v H,fun pins Ex te h=>ps_ret h,fun xw W₀ H₀ W H d v σ δ Dn st hv q=>q v H st.fr.ext (Has.keep (fun _ _ e _=>e) st.fr.wl (fun b z=> .inl (st.fr.sub b z)) hv)⟩
end
def sTry (cs:List Str) (f:DSt→Res D) (gK:D→DSt→Out) (go:DSt→Out) (gs:Str→List D→DSt→Out):DSt→Out:=fun δ=>match f δ with
 | .ok d=>seqO (gK d δ) go
 | .ex c fs=>if c∈cs then gs c fs δ else .stuck
 | .stuck=> .stuck
section
variable {X:Cx} {xw:XW} {a:Expr} {es:List Expr} {fs:DSt→Res (List D)} {p pos cpos hpos tpos np:Pos} {st b₀:Stmt} {suite orelse:List Stmt} {k nn:Nat} {x C n:Str} {m:List D→Res D} {gK:D→DSt→Out} {go gsu:DSt→Out}
theorem try_core {hd:ExceptHandler} {fa:Addr} {fd:FuncData} {ps:List Str} {vs0:List V} {ds0:List Value} {d0:List D} {gs:Str→List D→DSt→Out} (cs:List Str) (G:FnOk X.prog X.w X.K X.mg X.base (CXD X.prog X.w) k fa fd ps (spX X.K nn m)) (hm:X.mg x=some (.ref fa)) (hk:PySem.W.keepIn X.K (.ref fa)=true) (hb:Binds X.K fd ps ds0) (hd0:Vals vs0 ds0)
  (h0:∀ W H,HasL X.K W H d0 vs0) (hr:Room k X.A) (ha:XA X.nox xwF (a::es) fs) (kd:KindX X (.Call (.Name x p) (a::es) [] cpos) st gK) (hor:XSs X xw orelse go)
  (hcat:∀ (pins:List (Addr×Obj)) (σ:L2.St) (H H0 H':Hp) (s s':Shared) (ar:Addr) (cls:Value) (dx:Dx) (c:Str) (fs:List D) (W₀:WS) (H₀:Hp) (W:WS) (δ:DSt) (Dn:Ends),Inv X pins σ H s→s'.os=s.os→AllBare s'.gens→Fly X.prog X.w X.stack H s H' ar cls dx s'.heap→ExF H' dx fs→
   PySem.W.nsIn X.K mainGlobals c=some (some cls)→c∈cs→StHas X.K W₀ H₀ W H0 σ δ→Same H0 H'→RS X.K xw W₀ H₀ W H0 (gs c fs δ) Dn→
   wpAny (model X.prog X.w) X.A (noteFrame (.ref ar) X.env) (fun _ s₂=>wpAny (model X.prog X.w) X.A (setFlight (.ref ar) none) (fun _ s₃=>
    wpAny (model X.prog X.w) X.A (handleBy (.ref ar) X.env [hd]) (SP X pins Dn) X.xe s₃) X.xe s₂) X.xe s')
  (hg:Gl X x) (hdb:(x==("__debug__":Str))=false) (he:starEach (a::es) X.env=(false,eval a X.env)::starEach es X.env) (hpl:(backTo cpos (starEach es X.env)).any (·.1)=false):
  XS X xw (.Try [st] [hd] orelse [] tpos) (sTry cs (fun δ=>(noex (fs δ)).bind fun ds=>callX nn m (ds++d0)) gK go gs):=⟨by
 intro pins s σ H Dn I ⟨W₀,H₀,W,δ,sth,q⟩
 obtain ⟨cont,kp,kr⟩:=kd.ex
 refine wpAny_Try_except ?_
 generalize hEx:(fun (e:Value) (s₁:Shared)=>wpAny (model X.prog X.w) X.A (noteFrame e X.env) (fun _ s₂=>wpAny (model X.prog X.w) X.A (setFlight e none) (fun _ s₃=>wpAny (model X.prog X.w) X.A (handleBy e X.env [hd]) (SP X pins Dn) X.xe s₃) X.xe s₂) X.xe s₁)=Ex
 have D1nx:∀ σ' H',tDS X.K xw go Dn σ' H'→∀ s',Inv X pins σ' H' s'→wpAny (model X.prog X.w) X.A (execs orelse X.env) (SP X pins Dn) X.xe s':=fun σ' H' h s' J=>hor.h pins s' σ' H' Dn J h
 have pe:=pe_callS (X:=tryX X pins Ex) (p:=p) (pos:=cpos) (E:=fun σ' cls dx H'=>σ'=σ∧Same H H'∧∃ c fs',PySem.W.nsIn X.K mainGlobals c=some (some cls)∧((noex (fs δ)).bind fun ds=>callX nn m (ds++d0))= .ex c fs'∧ExF H' dx fs') G hr hg hm hk hb hd0 (fun more σ' H1 s1 e s' J h=>by
  obtain ⟨ar,cls,dx,H',rfl,os,bare,fl,rfl,sm,c,fs',hn,hf,xf⟩:=h
  have J':=inv_untry I.ok J
  show Ex (.ref ar) s'
  subst hEx
  unfold sTry at q
  dsimp only at q
  rw [hf] at q
  have q':RS X.K xw W₀ H₀ W H (if c∈cs then gs c fs' δ else .stuck) Dn:=q
  split at q'
  ·rename_i hc
   exact hcat pins σ' H1 H H' s1 s' ar cls dx c fs' W₀ H₀ W δ Dn J' os bare fl xf hn hc sth sm q'
  ·exact q'.elim) (pa_try ha.h) hdb he hpl
 refine wpAny_mono (pss_one (kp pins Ex _ pe) [] s σ H {nx:=tDS X.K xw go Dn,rt:=Dn.rt,bk:=Dn.bk,ct:=Dn.ct} (inv_try I) ?_) (fun fl s1 h1=> ?_) fun e s1 h1=>h1
 ·refine ⟨W₀,H₀,W,δ,sth,?_⟩
  unfold sTry at q
  dsimp only at q
  cases hf:fs δ with
  |stuck=>rw [hf] at q;exact q
  |ex c gs'=>rw [hf] at q;exact False.elim q
  |ok ds=>
   rw [hf] at q
   intro vs H1 k1 hv
   have hv':HasL X.K W H1 (ds++d0) (vs++vs0):=hv.append (h0 W H1)
   have q1:RS X.K xw W₀ H₀ W H (match callX nn m (ds++d0) with| .ok d=>seqO (gK d δ) go| .ex c fs=>if c∈cs then gs c fs δ else .stuck| .stuck=> .stuck) Dn:=q
   have ec:((noex (Res.ok ds)).bind fun ds=>callX nn m (ds++d0))=callX nn m (ds++d0):=rfl
   by_cases hl:(ds++d0).length=nn
   ·have em:callX nn m (ds++d0)=m (ds++d0):=if_pos hl
    rw [em] at q1
    refine ⟨by rw [←hv'.length];exact hl,W,ds++d0,sth.fr.wl.same k1,hv',?_⟩
    cases h:m (ds++d0) with
    |ok d=>
     rw [h] at q1
     intro v H2 k2 hd2
     refine kr xw W₀ H₀ W H2 d v σ δ _ (sth.same (k1.trans k2)) hd2 ?_
     have q2:RS X.K xw W₀ H₀ W H (seqO (gK d δ) go) Dn:=q1
     have q3:=RS.step q2 (Step.same (W:=W) (k1.trans k2))
     cases hgk:gK d δ with
     |nx δ'=>
      rw [hgk] at q3
      exact fun W' H' σ' kk st'=>⟨W₀,H₀,W',δ',st',RS.step (o:=go δ') q3 kk⟩
     |bk δ'=>rw [hgk] at q3;exact q3
     |ct δ'=>rw [hgk] at q3;exact q3
     |rt d'=>rw [hgk] at q3;exact q3
     |ex c' fs'=>rw [hgk] at q3;exact q3
     |stuck=>rw [hgk] at q3;exact q3
    |ex c fs'=>
     exact fun cls dx H2 hn k2 xf=>⟨rfl,k1.trans k2,c,fs',hn,by rw [ec,em,h],xf⟩
    |stuck=>rw [h] at q1;exact q1
   ·have em:callX nn m (ds++d0)= .stuck:=if_neg hl
    rw [em] at q1
    exact q1.elim
 ·cases fl with
  |next=>obtain ⟨σ',H',J,z⟩:=h1;exact D1nx σ' H' z s1 (inv_untry I.ok J)
  |brk=>obtain ⟨σ',H',J,z⟩:=h1;exact ⟨σ',H',inv_untry I.ok J,z⟩
  |cont=>obtain ⟨σ',H',J,z⟩:=h1;exact ⟨σ',H',inv_untry I.ok J,z⟩
  |ret u=>obtain ⟨v,σ',H',J,r,z⟩:=h1;exact ⟨v,σ',H',inv_untry I.ok J,r,z⟩⟩
end
end L3
namespace L3
open PySem PySem.Spec PyProof.Rows L2 SeqAt
def tryF (fs:DSt→Res (List D)) (nn:Nat) (m:List D→Res D) (d0:List D):DSt→Res D:=fun δ=>(noex (fs δ)).bind fun ds=>callX nn m (ds++d0)
def gs0 (gsu:DSt→Out):Str→List D→DSt→Out:=fun _ _ δ=>noexO (gsu δ)
section
variable {X:Cx} {xw:XW} {a:Expr} {es:List Expr} {fs:DSt→Res (List D)} {p pos cpos hpos tpos np:Pos} {st b₀:Stmt} {suite orelse:List Stmt} {k nn:Nat} {x C n:Str} {m:List D→Res D} {gK:D→DSt→Out} {go gsu:DSt→Out}
theorem cat_0 (cs:List Str) (hcs:∀ c∈cs,MatchX X.K C c) (hex:X.ex= []) (hst:X.stack=X.env::X.outer) (hfr:X.env.frame=some X.env.locals) (hgC:Gl X C) (hdC:(C==("__debug__":Str))=false)
  (hsu:∀ a,XSs (markX X a) xwF (b₀::suite) gsu) (pins:List (Addr×Obj)) (σ:L2.St) (H H0 H':Hp) (s s':Shared) (ar:Addr) (cls:Value) (dx:Dx) (c:Str) (xs:List D) (W₀:WS) (H₀:Hp) (W:WS) (δ:DSt) (Dn:Ends) (I:Inv X pins σ H s) (os:s'.os=s.os) (bare:AllBare s'.gens) (fl:Fly X.prog X.w X.stack H s H' ar cls dx s'.heap) (xf:ExF H' dx xs)
  (hn:PySem.W.nsIn X.K mainGlobals c=some (some cls)) (hc:c∈cs) (sth:StHas X.K W₀ H₀ W H0 σ δ) (sm:Same H0 H') (q:RS X.K xw W₀ H₀ W H0 (gs0 gsu c xs δ) Dn):
  wpAny (model X.prog X.w) X.A (noteFrame (.ref ar) X.env) (fun _ s₂=>wpAny (model X.prog X.w) X.A (setFlight (.ref ar) none) (fun _ s₃=>
   wpAny (model X.prog X.w) X.A (handleBy (.ref ar) X.env [.ExceptHandler (some (.Name C np)) none (b₀::suite) hpos]) (SP X pins Dn) X.xe s₃) X.xe s₂) X.xe s':=by
 obtain ⟨vc,vC,e1,e2,e3⟩:=(hcs c hc).ex
 rw [hn] at e1
 cases e1
 have k2:Same H0 (upd H' ar (.ext (ExcAt ar cls dx))):=fun b o e=>by rw [upd_ne (ne_of_none (sm b o e) fl.nh)];exact sm b o e
 refine caught_0 (t:=tDS X.K xwF gsu) I hex hst hfr os bare fl hgC e2 e3 hdC (fun a=>(hsu a).h) ⟨W₀,H₀,W,δ,sth.same k2,?_⟩
 unfold gs0 at q
 have q2:=RS.step q (Step.same (W:=W) k2)
 cases hq:gsu δ with
 |ex c' fs'=>rw [hq] at q2;exact q2.elim
 |_=>rw [hq] at q2;exact q2
theorem s_try0 (cs:List Str) (F:FnX X.prog X.w X.K X.mg X.base k x nn m) (hcs:∀ c∈cs,MatchX X.K C c) (hr:Room k X.A) (ha:XA X.nox xwF (a::es) fs) (kd:KindX X (.Call (.Name x p) (a::es) [] cpos) st gK) (hor:XSs X xw orelse go)
  (hsu:∀ a,XSs (markX X a) xwF (b₀::suite) gsu) (hex:X.ex= []:=by rfl) (hst:X.stack=X.env::X.outer:=by rfl) (hfr:X.env.frame=some X.env.locals:=by rfl)
  (hgC:Gl X C:=by rfl) (hdC:(C==("__debug__":Str))=false:=by decide) (hg:Gl X x:=by rfl) (hdb:(x==("__debug__":Str))=false:=by decide) (he:starEach (a::es) X.env=(false,eval a X.env)::starEach es X.env:=by rfl) (hpl:(backTo cpos (starEach es X.env)).any (·.1)=false:=by rfl):
  XS X xw (.Try [st] [.ExceptHandler (some (.Name C np)) none (b₀::suite) hpos] orelse [] tpos) (sTry cs (tryF fs nn m []) gK go (gs0 gsu)):=by
 obtain ⟨fa,fd,ps,G,hm,hkp,hb⟩:=F.ex
 exact try_core cs G hm hkp hb .nil (fun W H=>HasL.nil) hr ha kd hor (cat_0 cs hcs hex hst hfr hgC hdC hsu) hg hdb he hpl
end
end L3
namespace L3
open PySem PySem.Spec PySem.Calls PyProof.Rows PySem.W Builtin Builtin.ObjectAttr Builtin.Getset_descriptor
structure ExcK (K:Frag) (C:Addr):Prop where
 ga:findIn K (.ref C) "__getattribute__"=some (some (.builtin "BaseException.__getattribute__"))
 gt:findIn K (.ref C) "__getattr__"=some none
 cl:findIn K (.ref C) "__class__"=some (some (.builtin "object.__class__"))
 ob:mroIn K C (.type "object")=some true
 be:mroIn K C (.type "BaseException")=some true
section
variable {prog:Program} {w:World} {A:Around} {E:Value→Shared→Prop} {h:Heap} {g:Array GenState} {d:Drawn} {t:Nat} {os:OsState} {K:Frag} {a C:Addr} {o:Obj}
end
end L3
namespace L3
open PySem PySem.Spec PyProof.Rows L2 SeqAt
section
variable {X:Cx} {xw:XW} {a:Expr} {es:List Expr} {fa:DSt→Res D} {fs:DSt→Res (List D)} {pos p p2:Pos} {c:Str}
inductive IsC (K:PySem.W.Frag) (mg:Str→Option Value):Str→V→Prop
 |own {c:Str} {C:Addr}:mg c=some (.ref C)→IsC K mg c (.ref C)
 |blt {c:Str} {T:String}:mg c=none→bootBuiltins c=some (.type T)→c≠"__name__"→IsC K mg c (.ty T)
structure XC (X:Cx) (e:Expr) (v:V):Prop where
 h:PE X e (tC v)
structure XCs (X:Cx) (es:List Expr) (vs:List V):Prop where
 h:PA X es (fun _ H Q=>Q vs H)
def valC:V→Value
 | .ref a=> .ref a
 | .ty T=> .type T
 |_=> .none
structure IsiX (K:PySem.W.Frag) (tb:List (Str×Bool)) (vs:List V):Prop where
 cls:∀ v∈vs,(∃ a,v= .ref a)∨∃ T,v= .ty T
 ok:∀ c b,tb.lookup c=some b→∃ C,PySem.W.nsIn K mainGlobals c=some (some (.ref C))∧ExcK K C∧PySem.W.kitAny K (.ref C) (vs.map valC)=some b
end
end L3
namespace L3
open PySem PySem.Spec PyProof.Rows L2 SeqAt
section
variable {X:Cx} {xw:XW} {a b c tg:Expr} {pos p:Pos}
end
section
variable {X:Cx} {xw:XW} {a:Expr} {lo:Option Expr} {st:Expr} {fa:DSt→Res D} {fl fh:DSt→Res (Option Int)} {pos p2:Pos}
end
end L3
namespace L3
open PySem PySem.Spec PyProof.Rows L2 SeqAt
section
variable {X:Cx} {xw:XW}
def frzL (i:Nat) (δ:DSt):DSt:=match δ[i]? with
 |some (some (.o ds))=>δ.set i (some (.d (.lst ds)))
 |_=>δ
def sFrzL (i:Nat) (g:DSt→Out):DSt→Out:=fun δ=>g (frzL i δ)
theorem frzL_step {i:Nat} {g:DSt→Out} {Dn:Ends} {σ:L2.St} {H:Hp} (h:tDS X.K xw (sFrzL i g) Dn σ H):tDS X.K xw g Dn σ H:=by
 obtain ⟨W₀,H₀,W,δ,st,q⟩:=h
 have q':RS X.K xw W₀ H₀ W H (g (frzL i δ)) Dn:=q
 unfold frzL at q'
 split at q'
 ·rename_i ds h
  obtain ⟨v,e,a,xs,r1,r2,r3,r4,r5⟩:=st.at' i _ h
  subst r1
  obtain ⟨st2,hd⟩:=st.freeze h e
  exact ⟨W₀,H₀,_,_,st2,RS.less (fun b z=>z.1) q'⟩
 ·exact ⟨W₀,H₀,W,δ,st,q'⟩
theorem s_frzL (i:Nat) {st:Stmt} {g:DSt→Out} (h:XS X xw st g):XS X xw st (sFrzL i g):=⟨fun pins s σ H Dn I q=>h.h pins s σ H Dn I (frzL_step q)⟩
end
end L3
namespace L3
open PySem PySem.Spec PyProof.Rows L2 SeqAt
theorem us1 {P:List Value→Prop} (h:∀ a0:Value,P [a0]):∀ us:List Value,us.length=1→P us
 | [a0],_=>h a0
theorem us2 {P:List Value→Prop} (h:∀ a0 a1:Value,P [a0,a1]):∀ us:List Value,us.length=2→P us
 | [a0,a1],_=>h a0 a1
theorem us3 {P:List Value→Prop} (h:∀ a0 a1 a2:Value,P [a0,a1,a2]):∀ us:List Value,us.length=3→P us
 | [a0,a1,a2],_=>h a0 a1 a2
theorem us4 {P:List Value→Prop} (h:∀ a0 a1 a2 a3:Value,P [a0,a1,a2,a3]):∀ us:List Value,us.length=4→P us
 | [a0,a1,a2,a3],_=>h a0 a1 a2 a3
theorem us5 {P:List Value→Prop} (h:∀ a0 a1 a2 a3 a4:Value,P [a0,a1,a2,a3,a4]):∀ us:List Value,us.length=5→P us
 | [a0,a1,a2,a3,a4],_=>h a0 a1 a2 a3 a4
theorem putF_new (f:Str) (v:V):∀ fs:List (Str×V),f∉fs.map (·.1)→putF f v fs=fs++ [(f,v)]
 | [],_=>rfl
 |(g,x)::r,h=>by
  rw [List.map_cons] at h
  have h1:¬ g=f:=fun z=>h (by rw [←z];exact List.mem_cons_self)
  have h2:f∉r.map (·.1):=fun z=>h (List.mem_cons_of_mem _ z)
  show (if g=f then (g,v)::r else (g,x)::putF f v r)=_
  rw [if_neg h1,putF_new f v r h2];rfl
section
variable {K:PySem.W.Frag} {W₀ W:WS} {H₀ H H':Hp} {σ:L2.St} {δ:DSt}
theorem StHas.poke {C dx x:Addr} {fl fl':List (Str×V)} (h:StHas K W₀ H₀ W H σ δ) (hW:W x) (h0:H₀ x=none) (hx:H x=some (.ins C dx fl)) (no:∀ (j:Nat) (t:S) (v:V),δ[j]? =some (some t)→σ[j]? =some (some v)→¬ Owns H t v x):StHas K W₀ H₀ W (upd H x (.ins C dx fl')) σ δ:=by
 have kk:Keep W H (upd H x (.ins C dx fl')):=fun b o e n=>by rw [upd_ne (fun z=>n (by rw [z];exact hW))];exact e
 have hw:∀ b,W b→W b∨H b=none:=fun b z=> .inl z
 have bk:∀ (j:Nat) (s:S) (v:V) (b:Addr),δ[j]? =some (some s)→σ[j]? =some (some v)→Owns (upd H x (.ins C dx fl')) s v b→Owns H s v b:=fun j s v b e e' o=>by
  obtain ⟨v',h1,h2⟩:=h.at' j s e
  rw [e'] at h1;cases h1
  refine Owns.back h2 (fun c o ec z y=> ?_) o
  rcases y with ⟨y,_⟩|⟨zs,y⟩
  ·rw [upd_ne (fun q=>by rw [q] at y;exact no j s v e e' y)];exact z
  ·rw [upd_ne (fun q=>by rw [q,hx] at z;cases z;cases y)];exact z
 refine ⟨⟨fun b o e=>by rw [upd_ne (ne_of_none e h0)];exact h.fr.ext _ _ e,h.fr.sub,fun b z=> ?_,h.fr.wl0⟩,h.len,fun i s e=> ?_,fun i j s t u v b ij e1 e2 e3 e4 o1 o2=>h.ap i j s t u v b ij e1 e2 e3 e4 (bk i s u b e1 e3 o1) (bk j t v b e2 e4 o2)⟩
 ·by_cases hb:b=x
  ·rw [hb];exact ⟨_,upd_same,trivial⟩
  ·rw [upd_ne hb];exact h.fr.wl b z
 ·obtain ⟨v,h1,h2⟩:=h.at' i s e
  exact ⟨v,h1,h2.mv h.fr.wl kk hw fun b o e1 h1' _ h3' _=>⟨h1',by rw [upd_ne (fun z=>by rw [z] at e1;exact no i s v e h1 e1)];exact h3'⟩⟩
theorem StHas.born {C dx x:Addr} (h:StHas K W₀ H₀ W H σ δ) (hx:H x=none) (hd:H dx=none) (ne:dx≠x):
  StHas K W₀ H₀ (fun b=>W b∨b=x) (upd (upd H dx (.own x)) x (.ins C dx [])) σ δ:=by
 have sm:Same H (upd (upd H dx (.own x)) x (.ins C dx [])):=fun b o e=>by rw [upd_ne (ne_of_none e hx),upd_ne (ne_of_none e hd)];exact e
 have hw:∀ b,(W b∨b=x)→W b∨H b=none:=fun b z=>z.elim .inl fun z=> .inr (by rw [z];exact hx)
 refine ⟨⟨h.fr.ext.trans sm,fun b z=> .inl (h.fr.sub b z),fun b z=> ?_,h.fr.wl0⟩,h.len,fun i s e=> ?_,(h.same sm).ap⟩
 ·rcases z with z|z
  ·exact h.fr.wl.same sm b z
  ·rw [z];exact ⟨_,upd_same,trivial⟩
 ·obtain ⟨v,h1,h2⟩:=h.at' i s e
  exact ⟨v,h1,h2.mv h.fr.wl (Same.keep sm) hw fun b o _ h1' _ h3' _=>⟨.inl h1',sm _ _ h3'⟩⟩
theorem StHas.front {v:Option V} (h:StHas K W₀ H₀ W H σ δ):StHas K W₀ H₀ W H (v::σ) (none::δ):=by
 refine ⟨h.fr,by simp [h.len],fun i s e=> ?_,fun i j s t u v' a hij e1 e2 e3 e4 os ot=> ?_⟩
 ·cases i with
  |zero=>cases e
  |succ i=>exact h.at' i s e
 ·cases i with
  |zero=>cases e1
  |succ i=>
   cases j with
   |zero=>cases e2
   |succ j=>exact h.ap i j s t u v' a (fun z=>hij (by rw [z])) e1 e2 e3 e4 os ot
end
def fldsR:List (Str×(DSt→Res D))→DSt→Res (List D)
 | [],_=> .ok []
 |p::r,δ=>(p.2 δ).bind fun d=>(fldsR r δ).bind fun ds=> .ok (d::ds)
def makeR (n:Nat) (c:Str) (fs:List (Str×(DSt→Res D))) (ds:List D):Res D:=(fldsR fs (none::startD n ds)).bind fun es=> .ok (.obj c (fs.map (·.1)) es)
def RI (K:PySem.W.Frag) (W₀:WS) (H₀:Hp) (W:WS) (δ:DSt) (σ:L2.St) (C dx x:Addr) (ks:List Str) (ds:List D) (r:Res (List D)) (Dn:Ends):Prop:=match r with
 | .ok es=>∀ H' fl',StHas K W₀ H₀ W H' σ δ→H' x=some (.ins C dx fl')→fl'.map (·.1)=ks→HasL K W H' (ds++es) (fl'.map (·.2))→Dn.nx σ H'
 |_=>False
def tInit (K:PySem.W.Frag) (C:Addr) (fs:List (Str×(DSt→Res D))):TS:=fun Dn σ H=>∃ W₀ H₀ W δ x dx fl ds,(StHas K W₀ H₀ W H σ δ∧∀ (j:Nat) (t:S) (v:V),δ[j]? =some (some t)→σ[j]? =some (some v)→¬ Owns H t v x)∧σ[0]? =some (some (.ref x))∧W x∧H₀ x=none∧H x=some (.ins C dx fl)∧
 HasL K W H ds (fl.map (·.2))∧(fl.map (·.1)++fs.map (·.1)).Nodup∧fl.length+fs.length<1000∧RI K W₀ H₀ W δ σ C dx x (fl.map (·.1)++fs.map (·.1)) ds (fldsR fs δ) Dn
structure XIn (X:Cx) (C:Addr) (sts:List Stmt) (fs:List (Str×(DSt→Res D))):Prop where
 h:PSs X sts (tInit X.K C fs)
section
variable {X:Cx} {xw:XW} {C:Addr} {e a:Expr} {es:List Expr} {f fa fb:DSt→Res D} {fs:List (Str×(DSt→Res D))} {sts:List Stmt} {pos p p1 p2 p3:Pos} {fld c:Str}
theorem in_nil:XIn X C [] []:=⟨PSs.weak pss_nil fun Dn σ H ⟨W₀,H₀,W,δ,x,dx,fl,ds,⟨st,_⟩,_,_,_,hx,hds,_,_,q⟩=>q H fl st hx (by simp) (by rw [List.append_nil];exact hds)⟩
theorem in_cons (cl:Cls X.K C) (hn:NoAttr X.K C fld) (he:XE X xwF e f) (hr:XIn X C sts fs) {self:Str} (hN:X.N[0]? =some self:=by rfl) (hv:Vis X.env.scope self:=by first|exact Or.inl rfl|exact Or.inr (Or.inl rfl)|exact Or.inr (Or.inr rfl))
  (hd:(self==("__debug__":Str))=false:=by decide) (hcd:(self==("__classdict__":Str))=false:=by decide) (hs:swapsWith e (some (.Attribute (.Name self p1) fld p2)) pos.line X.env=pure false:=by rfl):
  XIn X C (.Assign [.Attribute (.Name self p1) fld p2] e pos::sts) ((fld,f)::fs):=⟨by
 refine PSs.weak (pss_cons (ps_fld (pe_var hN hv hd hcd) he.h hs) hr.h) fun Dn σ H ⟨W₀,H₀,W,δ,x,dx,fl,ds,⟨st,no⟩,e0,hW,h0,hx,hds,nd,ln,q⟩=> ?_
 rw [List.length_cons] at ln
 show tDE X.K xwF f σ H _
 refine ⟨W₀,H₀,W,δ,st,?_⟩
 have eq1:fldsR ((fld,f)::fs) δ=(f δ).bind fun d=>(fldsR fs δ).bind fun ds=> .ok (d::ds):=rfl
 rw [eq1] at q
 cases h1:f δ with
 |stuck=>rw [h1] at q;exact q.elim
 |ex c fs=>rw [h1] at q;exact q.elim
 |ok d=>
  rw [h1] at q
  intro v H1 k hv
  have hx1:=k _ _ hx
  have st1:=st.same k
  have no1:∀ (j:Nat) (t:S) (v:V),δ[j]? =some (some t)→σ[j]? =some (some v)→¬ Owns H1 t v x:=fun j t v e e' o=>by
   obtain ⟨v',h1,h2⟩:=st.at' j t e
   rw [e'] at h1;cases h1
   exact no j t v e e' (Owns.back h2 (fun c o _ z _=>k _ _ z) o)
  refine ⟨.ref x,e0,x,C,dx,fl,rfl,hx1,cl,hn,by omega,?_⟩
  have hf:fld∉fl.map (·.1):=fun z=>by
   rw [List.map_cons,List.nodup_append] at nd
   exact nd.2.2 _ z _ List.mem_cons_self rfl
  rw [putF_new _ _ _ hf]
  have kk:Keep W H1 (upd H1 x (.ins C dx (fl++ [(fld,v)]))):=fun b o e n=>by rw [upd_ne (fun z=>n (by rw [z];exact hW))];exact e
  have ek:(fl++ [(fld,v)]).map (·.1)++fs.map (·.1)=fl.map (·.1)++((fld,f)::fs).map (·.1):=by simp
  refine ⟨W₀,H₀,W,δ,x,dx,fl++ [(fld,v)],ds++ [d],⟨st1.poke hW h0 hx1 no1,fun j t v e e' o=>by
   obtain ⟨v',h1,h2⟩:=st1.at' j t e
   rw [e'] at h1;cases h1
   refine no1 j t v e e' (Owns.back h2 (fun c o _ z y=> ?_) o)
   rcases y with ⟨y,_⟩|⟨zs,y⟩
   ·rw [upd_ne (fun q=>by rw [q] at y;exact no1 j t v e e' y)];exact z
   ·rw [upd_ne (fun q=>by rw [q,hx1] at z;cases z;cases y)];exact z⟩,e0,hW,h0,upd_same,?_,by rw [ek];exact nd,by rw [List.length_append,List.length_singleton];omega,?_⟩
  ·rw [List.map_append]
   exact HasL.keep kk st1.fr.wl (fun b z=> .inl z) ((hds.same k st.fr.wl).snoc hv)
  ·rw [ek]
   cases h2:fldsR fs δ with
   |stuck=>rw [h2] at q;exact q.elim
   |ex c gs=>rw [h2] at q;exact q.elim
   |ok es=>
    rw [h2] at q
    intro H' fl' g1 g2 g3 g4
    rw [List.append_assoc] at g4
    exact q H' fl' g1 g2 g3 g4⟩
end
def spI (K:PySem.W.Frag) (C:Addr) (n:Nat) (nl:Nat) (c:Str) (fs:List (Str×(DSt→Res D))):Sp:=fun vs H Q _=>∃ x dx vs' H1 W ds,vs=V.ref x::vs'∧vs'.length=n∧H=upd (upd H1 dx (.own x)) x (.ins C dx [])∧H1 x=none∧H1 dx=none∧dx≠x∧
 WL W H1∧HasL K W H1 ds vs'∧match fldsR fs (none::startD nl ds) with
  | .ok es=>∀ H' fl,Same H1 H'→H' x=some (.ins C dx fl)→fl.map (·.1)=fs.map (·.1)→HasL K W H' es (fl.map (·.2))→Q .non H'
  |_=>False
structure FnI (P:Program) (w:World) (K:PySem.W.Frag) (mg:Str→Option Value) (base:Heap) (k:Nat) (c:Str) (n nl:Nat) (fs:List (Str×(DSt→Res D))):Prop where
 ex:∃ j C f fd ps,j+1≤k∧FnOk P w K mg base CX0 j f fd ps (spI K C n nl c fs)∧Mk K C f∧mg c=some (.ref C)∧PySem.W.nsIn K mainGlobals c=some (some (.ref C))∧Binds K fd ps []
theorem FnI.mono {P:Program} {w:World} {K:PySem.W.Frag} {mg:Str→Option Value} {base:Heap} {j k n nl:Nat} {c:Str} {fs:List (Str×(DSt→Res D))} (F:FnI P w K mg base j c n nl fs) (h:j≤k):FnI P w K mg base k c n nl fs:=by
 obtain ⟨i,C,f,fd,ps,a,b⟩:=F.ex
 exact ⟨i,C,f,fd,ps,Nat.le_trans a h,b⟩
theorem fn_init {P:Program} {w:World} {K:PySem.W.Frag} {mg:Str→Option Value} {base:Heap} {k n nl:Nat} {c qual:Str} {st:Stmt} {C fa:Addr} {fd:FuncData} {N ps:List Str} {fs:List (Str×(DSt→Res D))} (F:Fun K "__init__" qual st fa fd) (S:FnScope N ps (defScope st))
  (M:Mk K C fa) (hm:mg c=some (.ref C)) (hc:PySem.W.nsIn K mainGlobals c=some (some (.ref C))) (hb:Binds K fd ps [])
  (body:∀ (cdv:Value) (A:Around) (outer:List Env) (s:Shared) (H:Hp) (E:XK),Room k (A.deeper (envOfC qual (defScope st) s.heap.objs.size fa cdv))→
   XIn (cxOf CX0 P w K mg base N qual (defScope st) fa cdv A outer s H E).nox C (defBody st) fs) (hps:ps.length=n+1:=by rfl) (hN:N.length=nl+1:=by rfl) (hnd:(fs.map (·.1)).Nodup:=by decide +kernel) (hl:fs.length<1000:=by decide):FnI P w K mg base (k+1+1) c n nl fs:=by
 refine ⟨k+1,C,fa,fd,ps,Nat.le_refl _,F.ok S (fun vs H Q E h=> ?_) (fun cdv A outer s H vs Q E hr h=> ?_),M,hm,hc,hb⟩
 ·obtain ⟨x,dx,vs',H1,W,ds,rfl,h1,_⟩:=h
  rw [List.length_cons,h1,hps]
 ·obtain ⟨x,dx,vs',H1,W,ds,rfl,h1,rfl,hx,hdx,ne,wl,hd,q⟩:=h
  have s0:=start_has (N:=List.replicate nl ("":Str)) wl hd
  rw [List.length_replicate] at s0
  have es:L2.start N (V.ref x::vs')=some (V.ref x)::L2.start (List.replicate nl ("":Str)) vs':=by
   unfold L2.start
   rw [List.length_replicate,hN,List.length_cons,List.map_cons,List.cons_append,Nat.add_sub_add_right]
  refine ⟨_,(body cdv A outer s _ E hr).h,W,H1,(fun b=>W b∨b=x),none::startD nl ds,x,dx,[],[],?_,by rw [es];rfl, .inr rfl,hx,upd_same,HasL.nil,by simpa using hnd,by simpa using hl,?_⟩
  ·rw [es]
   refine ⟨(s0.born hx hdx ne).front,fun j t v e _ o=> ?_⟩
   cases j with
   |zero=>cases e
   |succ j=>
    have e:(startD nl ds)[j]? =some (some t):=e
    unfold startD at e
    rcases List.mem_append.mp (List.mem_of_getElem? e) with m|m
    ·obtain ⟨d,_,ed⟩:=List.mem_map.mp m
     cases ed
     exact o
    ·have:=(List.mem_replicate.mp m).2
     cases this
  ·cases h2:fldsR fs (none::startD nl ds) with
   |stuck=>rw [h2] at q;exact q.elim
   |ex c gs=>rw [h2] at q;exact q.elim
   |ok es=>
    rw [h2] at q
    exact fun H' fl' st' g2 g3 g4=>q H' fl' st'.fr.ext g2 (by simpa using g3) (HasL.keep (fun _ _ e _=>e) st'.fr.wl (fun b z=> .inl (.inl z)) (show HasL K (fun b=>W b∨b=x) H' es (fl'.map (·.2)) from g4))
section
variable {X:Cx} {xw:XW} {e a b:Expr} {es:List Expr} {f fa fb:DSt→Res D} {gs:DSt→Res (List D)} {fs:List (Str×(DSt→Res D))} {pos p p1 p2 p3:Pos} {fld c:Str}
theorem x_make {k n nl:Nat} (F:FnI X.prog X.w X.K X.mg X.base k c n nl fs) (hr:Room k X.A) (ha:XA X xw (a::es) gs) (hg:Gl X c:=by rfl)
  (hdb:(c==("__debug__":Str))=false:=by decide) (he:starEach (a::es) X.env=(false,eval a X.env)::starEach es X.env:=by rfl) (hpl:(backTo pos (starEach es X.env)).any (·.1)=false:=by rfl):
  XE X xw (.Call (.Name c p) (a::es) [] pos) (b1 (callR n (makeR nl c fs)) gs):=⟨by
 obtain ⟨j,C,fi,fd,ps,hj,G,M,hm,hn,hb⟩:=F.ex
 refine PE.weak (pe_make M G (hr.mono hj) hg hm hb .nil pass0 ha.h hdb he hpl) fun σ H Q ⟨W₀,H₀,W,δ,st,q⟩=> ?_
 refine args_read st q fun H2 ds vs k w st2 hv _ q2=> ?_
 unfold callR at q2
 split at q2
 ·rename_i hl
  intro x dx hx hdx ne
  rw [List.append_nil]
  refine ⟨x,dx,vs,H2,W,ds,rfl,by rw [←hv.length];exact hl,rfl,hx,hdx,ne,w,hv,?_⟩
  unfold makeR at q2
  cases h:fldsR fs (none::startD nl ds) with
  |stuck=>rw [h] at q2;exact q2.elim
  |ex c gs=>rw [h] at q2;exact q2.elim
  |ok es=>
   rw [h] at q2
   exact fun H' fl k' g1 g2 g3=>⟨rfl,q2 _ _ k' (by
    rw [Has]
    exact ⟨x,C,dx,fl,rfl,hn,g1,(fun z=>by obtain ⟨o,e,_⟩:=w x z;rw [hx] at e;cases e),g2,g3⟩)⟩
 ·exact q2.elim⟩
def fldR (c fld:Str):D→Res D
 | .obj c' ks ds=>if c'=c then (match (ks.zip ds).lookup fld with|some d=> .ok d|none=> .stuck) else .stuck
 |_=> .stuck
structure FldK (K:PySem.W.Frag) (c fld:Str):Prop where
 ex:∃ C,PySem.W.nsIn K mainGlobals c=some (some (.ref C))∧Cls K C∧NoAttr K C fld
theorem fld_get {K:PySem.W.Frag} {W:WS} {H:Hp} {g:Str} {d:D}:∀ {fl:List (Str×V)} {ds:List D},HasL K W H ds (fl.map (·.2))→((fl.map (·.1)).zip ds).lookup g=some d→∃ v,fl.lookup g=some v∧Has K W H d v
 | [],ds,_,e=>by simp at e
 |(k,v)::r,[],h,e=>by simp at e
 |(k,v)::r,d'::ds,h,e=>by
  rw [HasL] at h
  obtain ⟨x,r',e1,h1,h2⟩:=h
  rw [List.map_cons] at e1
  cases e1
  rw [List.map_cons,List.zip_cons_cons,List.lookup_cons] at e
  rw [List.lookup_cons]
  cases hk:g==k with
  |true=>rw [hk] at e;cases e;exact ⟨_,rfl,h1⟩
  |false=>rw [hk] at e;exact fld_get h2 e
theorem x_fld (T:FldK X.K c fld) (he:XE X xw e f) (hb:attributeBase e fld X.env (eval e X.env)=eval e X.env:=by rfl):XE X xw (.Attribute e fld pos) (b1 (fldR c fld) f):=
 ⟨PE.weak (pe_fld he.h hb) fun σ H Q ⟨W₀,H₀,W,δ,st,q⟩=>one_readE st q fun H2 d v k w st2 hv _ q2=>by
  unfold fldR at q2
  cases d with
  |obj c' ks ds=>
   dsimp only at q2
   split at q2
   ·rename_i hc
    subst hc
    split at q2
    ·rename_i d' hd
     rw [Has] at hv
     obtain ⟨ar,C,dx,fl,rfl,hn,hH,_,rfl,hL⟩:=hv
     obtain ⟨C',hn',cl,na⟩:=T.ex
     rw [hn] at hn'
     cases hn'
     obtain ⟨u,hu,hh⟩:=fld_get hL hd
     exact ⟨ar,C,dx,fl,u,rfl,hH,cl,na,hu,q2 u H2 (Same.refl _) hh⟩
    ·exact q2.elim
   ·exact q2.elim
  |_=>exact q2.elim⟩
noncomputable def extO (i:Nat) (δ:DSt) (r:Res (List D)):Out:=match δ[i]? with
 |some (some (.o ds))=>ofR r fun es=>@ite Out (ds.length+es.length≤100000) (Classical.propDecidable _) (.nx (δ.set i (some (.o (ds++es))))) .stuck
 |_=> .stuck
noncomputable def sExt (i:Nat) (ff:DSt→Res (List D)):DSt→Out:=fun δ=>extO i δ (ff δ)
theorem s_ext (i:Nat) {x:Str} {ff:DSt→Res (List D)} (he:XF X xw e ff) (hN:X.N[i]? =some x:=by rfl) (hv:Vis X.env.scope x:=by first|exact Or.inl rfl|exact Or.inr (Or.inl rfl)|exact Or.inr (Or.inr rfl)) (hd:(x==("__debug__":Str))=false:=by decide)
  (hcd:(x==("__classdict__":Str))=false:=by decide)
  (hsE:starEach [e] X.env=(false,eval e X.env)::starEach [] X.env:=by rfl)
  (hbase:attributeBase (.Name x p1) "extend" X.env (eval (.Name x p1) X.env)=eval (.Name x p1) X.env:=by rfl)
  (hfew:((backTo p3 (starEach [e] X.env)).all (fun x=> !x.1)&&(backToKw p3 (keywordEach [] X.env)).all (fun x=>x.1.isSome)
   &&decide (([e]:List Expr).length+([]:List Keyword).length+(if ([]:List Keyword).isEmpty then 0 else 1)<30))=true:=by rfl)
  (hline:(p2.endLine==p3.line)=true:=by rfl) (hplain:(backTo p3 (starEach [] X.env)).any (·.1)=false:=by rfl)
  (hsw:swapsWith (.Call (.Attribute (.Name x p1) "extend" p2) [e] [] p3) none pos.line X.env=pure false:=by rfl):
  XS X xw (.Expr (.Call (.Attribute (.Name x p1) "extend" p2) [e] [] p3) pos) (sExt i ff):=⟨
 PS.weak (ps_expr (pe_bm PySem.F.plainAttrs_list PySem.F.slot_list_extend PySem.F.type_list_extend mt_extend (pe_var hN hv hd hcd) (pa_cons he.h pa_nil hsE) hbase hfew hline hsE hplain) hsw) fun Dn σ H ⟨W₀,H₀,W,δ,st,q⟩=>by
  unfold sExt extO at q
  split at q
  ·rename_i ds h
   obtain ⟨v,e1,a,xs,rfl,r2,r3,r4,r5⟩:=st.at' i _ h
   refine ⟨_,e1, .inl ⟨rfl,xs, .of r4⟩,?_⟩
   refine ⟨W₀,H₀,W,δ,st,?_⟩
   cases h1:ff δ with
   |stuck=>rw [h1] at q;exact q
   |ex c fs=>rw [h1] at q;exact fun H' k'=>q H' (st.fr.ext.trans k')
   |ok es=>
    rw [h1] at q
    intro b zs H1 k n r
    have q':RS X.K xw W₀ H₀ W H (@ite Out (ds.length+es.length≤100000) (Classical.propDecidable _) (.nx (δ.set i (some (.o (ds++es))))) .stuck) Dn:=q
    split at q'
    ·rename_i hlen
     have sm:Same H (upd H1 b (.lst zs)):=fun c o e=>by rw [upd_ne (ne_of_none (k c o e) n)];exact k c o e
     have sm1:Same H1 (upd H1 b (.lst zs)):=fun c o e=>by rw [upd_ne (ne_of_none e n)];exact e
     have st2:=st.same sm
     have ra:(upd H1 b (.lst zs)) a=some (.lst xs):=sm _ _ r4
     have sz:sizeLine=16777216:=sizeLine_eq
     have hL:HasL X.K W (upd H1 b (.lst zs)) (ds++es) (xs++zs):=(r5.same sm st.fr.wl).append (r.same sm1 (st.same k).fr.wl)
     refine ⟨a,b,xs,zs,rfl,rfl,ra,upd_same,?_,?_⟩
     ·have:=r5.length;have:=r.length;omega
     ·refine q' W _ σ ⟨fun c o e n=> ?_,fun _ z=> .inl z⟩ (st2.change h e1 ra r2 hL)
      rw [upd_ne (fun z=>n (by rw [z];exact r2))];exact sm c o e
    ·exact q'.elim
  ·exact q.elim⟩
def EntT (w:World) (e:DictEntry) (p:Str×Str):Prop:=e.hash=keyH w (.inr p.1)∧(∃ t,e.key= .str p.1 t)∧∃ t,e.val= .str p.2 t
structure GlobQ (w:World) (K:PySem.W.Frag) (mg:Str→Option Value) (x:Str) (l:List (Str×Str)):Prop where
 h:∃ (ad:Addr) (o:Obj) (es:Array DictEntry) (n:Nat),mg x=some (.ref ad)∧K.lookup ad=some o∧o.ExactDict∧o.data= .dict es n∧Paired (EntT w) es.toList l∧(l.map (·.1)).Nodup
end
end L3
namespace L3
open PySem PySem.Spec PyProof.Rows L2 SeqAt
section
variable {X:Cx} {xw:XW} {e a b:Expr} {f fa fb:DSt→Res D} {pos pos' p p1 p2 p3:Pos}
end
end L3
namespace L3
open PySem PySem.Spec PyProof.Rows L2 SeqAt
theorem runD_noex (n:Nat) (g:DSt→Out) (ds:List D) (c:Str) (fs:List D):runD n g ds≠ .ex c fs:=by
 rw [runD_eq]
 cases g (startD n ds)<;>(intro z;cases z)
theorem Fn.toX {P:Program} {w:World} {K:PySem.W.Frag} {mg:Str→Option Value} {base:Heap} {k n j:Nat} {x:Str} {g:DSt→Out} (F:Fn P w K mg base k x n (runD j g)):FnX P w K mg base k x n (runD j g):=by
 obtain ⟨f,fd,ps,a,b⟩:=F.ex
 have sp:∀ vs H Q E,spX K n (runD j g) vs H Q E→spD K n (runD j g) vs H Q E:=fun vs H Q E h=>by
  obtain ⟨h1,W,ds,h2,h3,q⟩:=h
  refine ⟨h1,W,ds,h2,h3,?_⟩
  cases h:runD j g ds with
  |ok d=>rw [h] at q;exact q
  |ex c fs=>exact absurd h (runD_noex j g ds c fs)
  |stuck=>rw [h] at q;exact q
 refine ⟨f,fd,ps,⟨fun vs H Q E h=>a.len vs H Q E (sp vs H Q E h),fun A outer s H args us vs Q E hr h0 hb hv h=>codeAny_mono (a.run A outer s H args us vs Q E hr h0 hb hv (sp vs H Q E h)) fun r s' q=> ?_⟩,b⟩
 cases r with
 |error e=>exact (show False from q).elim
 |ok fl=>cases fl<;>exact q
section
variable {X:Cx} {xw:XW} {e:Expr} {ff:DSt→Res (List D)} {pos:Pos}
end
end L3
namespace L3
open PySem PySem.Spec PyProof.Rows L2 SeqAt
section
variable {X:Cx} {xw:XW} {a b:Expr} {fa fb:DSt→Res D} {pos:Pos}
end
end L3
namespace L2
open PySem PySem.Spec PyProof.Rows
variable {X:Cx} {pos:Pos}
end L2
namespace L3
open PySem PySem.Spec PyProof.Rows L2 SeqAt
variable {X:Cx} {pos:Pos} {tgs:List Expr} {ts:List D→DSt→Res DSt}
end L3
namespace PySem
open Sem (wp)
section
variable {prog:Program} {w:World} {A:Around} {E:Value→Shared→Prop} {h:Heap} {g:Array GenState} {d:Drawn} {t:Nat} {os:OsState}
variable {nm q:Str} {C N f:Addr} {bs bm bmB:List Value} {hdct:Bool} {sn:List Str} {sub:List Value} {ab:Bool} {col:Option Bool} {dd:Option Addr} {k0 k1 k2 k3 k5:Option Value} {B newId initId:String}
end
end PySem
namespace PySem
open Sem (wp)
open Builtin Builtin.ObjectAttr W
section
variable {prog:Program} {w:World} {A:Around} {E:Value→Shared→Prop} {h:Heap} {g:Array GenState} {d:Drawn} {t:Nat} {os:OsState} {K:Frag}
variable {nm q:Str} {C N e:Addr} {bs bm bmB:List Value} {hdct:Bool} {sn:List Str} {sub:List Value} {ab:Bool} {col:Option Bool} {dd:Option Addr} {k0 k1 k2 k3 k5:Option Value} {newId:String}
abbrev vTail:List Value:= [.type "ValueError", .type "Exception", .type "BaseException", .type "object"]
def overV:Nat→List Value→Bool
 |0,l=>l==vTail
 |n+1, .ref _::r=>overV n r
 |_+1,_=>false
end
end PySem
namespace PySem
open Sem (wp)
open W
section
variable {prog:Program} {w:World} {A:Around} {E:Value→Shared→Prop} {h:Heap} {g:Array GenState} {d:Drawn} {t:Nat} {os:OsState}
variable {nm q:Str} {C N e:Addr} {bs bm bmB:List Value} {hdct:Bool} {sn:List Str} {sub:List Value} {ab:Bool} {col:Option Bool} {dd:Option Addr} {k0 k1 k2 k3 k5:Option Value} {B newId initId:String}
end
end PySem
namespace L2
open PySem PySem.Spec PyProof.Rows
def ExcN (a C:Addr) (h:Heap):Prop:=∃ t0 sl,h.get? a=some ⟨.ref C,none, .fields #[.ref t0, .none, .none, .none, .bool false, .none],sl⟩
def ExcO (a C:Addr) (dx:Option Addr) (h:Heap):Prop:=∃ t0 sl,h.get? a=some ⟨.ref C,dx, .fields #[.ref t0, .none, .none, .none, .bool false, .none],sl⟩
structure XInit (K:PySem.W.Frag) (C S f:Addr):Prop where
 obj:∃ nm q N bs bm hdct sn sub ab col dd k0 k1 k2 k3 k5,K.lookup C=some (excClassObj nm q C N bs bm hdct sn sub ab col dd k0 k1 k2 k3 k5 "ValueError.__new__")∧PySem.W.nsOkIn K N=true∧
  PySem.W.nsIn K N "__init__"=some (some (.ref f))∧PySem.W.tailIn K vTail bm=true
 ini:PySem.W.typeIn K (.ref f)=some (.type "function")
 kpC:PySem.W.keepIn K (.ref C)=true
 sa:PySem.W.findIn K (.ref C) "__setattr__"=some (some (.builtin "object.__setattr__"))
 ob:PySem.W.mroIn K C (.type "object")=some true
 cl:∃ cd n,PySem.W.clsIn K C=some cd∧overV n cd.mro=true∧cd.hasDict=true
 bga:PySem.W.specialIn K (.ref S) "__getattribute__"=some (some (.builtin "type.__getattribute__"))
 brd:PySem.W.readsIn K S (.type "type")=true
 bfi:PySem.W.findCls K (.ref S) (.type "type") "__init__"=some (.val (.builtin "ValueError.__init__"))
section
variable {X:Cx} {pos p apos p2:Pos} {a b o e:Expr} {es:List Expr} {ta tb to:TE} {t:TA} {C S f:Addr}
end
end L2
namespace L3
open PySem PySem.Spec PyProof.Rows L2 SeqAt
def spE (C:Addr) (attr:Str):Sp:=fun vs H Q _=>∃ a i,vs= [.ref a, .int i]∧i.natAbs.log2<1920∧(toString i:Str).length≤1000∧H a=some (.ext (ExcN a C))∧∀ d,H d=none→Q .non (upd (upd H a (.ext (ExcO a C (some d)))) d (.xd [(attr, .int i)]))
structure XInE (X:Cx) (C:Addr) (attr:Str) (sts:List Stmt):Prop where
 h:PSs X sts (fun D σ H=>∃ a i,σ[0]? =some (some (.ref a))∧σ[1]? =some (some (.int i))∧i.natAbs.log2<1920∧(toString i:Str).length≤1000∧H a=some (.ext (ExcN a C))∧∀ d,H d=none→D.nx σ (upd (upd H a (.ext (ExcO a C (some d)))) d (.xd [(attr, .int i)])))
section
variable {X:Cx} {C S f:Addr} {xb self x attr c0:Str} {p1 p2 p3 p4 p5 p6 p7 p8 p9 q1 q2 q3 q4:Pos} {j:Nat}
end
end L3
namespace L3
open PySem PySem.Spec PyProof.Rows L2 SeqAt
section
variable {X:Cx} {pins:List (Addr×Obj)} {σ:L2.St} {H:Hp} {s:Shared} {a C:Addr} {dx:Option Addr} {M:Model} {Ex:Value→Shared→Prop}
end
end L3
namespace PySem
open Sem (wp)
section
variable {M:Model} {A:Around} {E:Value→Shared→Prop} {s:Shared} {env:Env}
variable {nm q:Str} {C N:Addr} {bs bm:List Value} {hdct:Bool} {sn:List Str} {sub:List Value} {ab:Bool} {col:Option Bool} {dd:Option Addr} {k0 k1 k2 k3 k5:Option Value} {newId:String}
end
end PySem
namespace L2
open PySem PySem.Spec PyProof.Rows
section
variable {X:Cx} {C S f:Addr} {fd:FuncData} {ps:List Str} {sp:Sp} {k:Nat} {x:Str} {p pos:Pos} {e:Expr} {es:List Expr} {t:TA}
end
end L2
namespace L3
open PySem PySem.Spec PyProof.Rows L2 SeqAt
structure FnE (P:Program) (w:World) (K:PySem.W.Frag) (mg:Str→Option Value) (base:Heap) (k:Nat) (c attr:Str):Prop where
 ex:∃ j C S f fd ps,j+1≤k∧FnOk P w K mg base CX0 j f fd ps (spE C attr)∧XInit K C S f∧mg c=some (.ref C)∧PySem.W.nsIn K mainGlobals c=some (some (.ref C))∧Binds K fd ps []
theorem FnE.mono {P:Program} {w:World} {K:PySem.W.Frag} {mg:Str→Option Value} {base:Heap} {j k:Nat} {c attr:Str} (F:FnE P w K mg base j c attr) (h:j≤k):FnE P w K mg base k c attr:=by
 obtain ⟨i,C,S,f,fd,ps,a,b⟩:=F.ex
 exact ⟨i,C,S,f,fd,ps,Nat.le_trans a h,b⟩
section
variable {X:Cx} {xw:XW} {C S f:Addr} {fd:FuncData} {ps:List Str} {k:Nat} {x c attr:Str} {p pos np cpos:Pos} {e a:Expr} {es:List Expr} {t:TA} {fs:DSt→Res (List D)}
end
end L3
namespace L3
open PySem PySem.Spec PyProof.Rows L2 SeqAt
section
variable {X:Cx} {xw:XW} {tg it:Expr} {f:DSt→Res (List D)}
theorem PI.nox {t:TI} (h:PI X.nox tg it t):PI X tg it t:=fun pins s σ H R I hw=>
 wpAny_mono (h pins s σ H R (I.wish _) hw) (fun v s1 q=>wpAny_mono q (fun _ _ ⟨a,fp,tn,J,H',e,I',r⟩=>⟨a,fp,tn,J,H',e,I'.unwish,r⟩) fun _ _ z=>False.elim z) fun _ _ z=>False.elim z
end
end L3
namespace L3
open PySem PySem.Spec PySem.Calls PyProof.Rows PySem.W Builtin Builtin.ObjectAttr Builtin.Getset_descriptor
section
variable {prog:Program} {w:World} {A:Around} {E:Value→Shared→Prop} {h:Heap} {g:Array GenState} {d:Drawn} {t:Nat} {os:OsState} {K:Frag} {a C:Addr} {o:Obj} {od:Option Obj} {name:Str} {v:Value}
end
end L3
namespace L3
open PySem PySem.Spec PyProof.Rows L2 SeqAt
structure FldX (K:PySem.W.Frag) (c attr:Str):Prop where
 ex:∃ C,PySem.W.nsIn K mainGlobals c=some (some (.ref C))∧ExcK K C∧PySem.W.hasDictIn K C=true∧PySem.W.findIn K (.ref C) attr=some none
theorem scl_has {K:PySem.W.Frag} {W:WS} {H:Hp} {x:D} {v:V} (h:sclV x=some v):Has K W H x v:=by
 cases x with
 |non=>cases h;rw [Has]
 |bl b=>cases h;rw [Has]
 |int i=>cases h;rw [Has]
 |str z=>cases h;rw [Has]
 |_=>cases h
theorem scl_hasL {K:PySem.W.Frag} {W:WS} {H:Hp}:∀ {ds:List D} {xs:List V},ds.map sclV=xs.map some→HasL K W H ds xs
 | [],[],_=>by rw [HasL]
 |d::ds,x::xs,h=>by
  rw [List.map_cons,List.map_cons] at h
  injection h with h1 h2
  rw [HasL]
  exact ⟨x,xs,rfl,scl_has h1,scl_hasL h2⟩
 | [],_::_,h=>by simp at h
 |_::_,[],h=>by simp at h
theorem ExV.has {K:PySem.W.Frag} {W:WS} {H:Hp} {x:D} {v:V} (h:ExV H x v):Has K W H x v:=by
 rcases h with h|⟨ds,a,o,xs,rfl,rfl,e,q⟩
 ·exact scl_has h
 ·rw [Has]
  exact ⟨a,xs,rfl, .inr (.inl ⟨o,e⟩),scl_hasL q⟩
section
variable {X:Cx} {xw:XW} {e:Expr} {f:DSt→Res D} {pos:Pos} {attr:Str} {ta:TE}
end
end L3
namespace PySem
open Sem (wp)
open Builtin Builtin.ObjectAttr W
section
variable {prog:Program} {w:World} {A:Around} {E:Value→Shared→Prop} {h:Heap} {g:Array GenState} {d:Drawn} {t:Nat} {os:OsState} {K:Frag} {C e dx:Addr} {m:Str→Option Value} {ns:List Str}
end
end PySem
namespace L2
open PySem PySem.Spec PyProof.Rows
def SmallV:V→Prop
 | .int i=>i.natAbs.log2<1920∧(toString i:Str).length≤1000
 | .str x=>(reprText x).length≤1000
 | .non=>True
 |_=>False
structure PJ (X:Cx) (parts:List Expr) (P:St→Prop) (b:Nat):Prop where
 h:∀ (pins:List (Addr×Obj)) (s:Shared) (σ:St) (H:Hp) (acc:Str) (Q:Value→Shared→Prop),Inv X pins σ H s→P σ→acc.length+b≤sizeLine→(∀ s' z tk,Inv X pins σ H s'→Q (.str z tk) s')→wpAny (model X.prog X.w) X.A (joinParts acc (evalEach parts X.env)) Q X.xe s
section
variable {X:Cx} {pos p:Pos} {parts:List Expr} {P:St→Prop} {b:Nat}
end
section
variable {X:Cx} {apos:Pos} {o:Expr} {to:TE} {C S f:Addr}
end
end L2
namespace L2
open PySem PySem.Spec PyProof.Rows
structure RoomH (k:Nat) (A:Around):Prop where
 dp:A.depth+3*k+5<recursionLimit
 un:A.units+16*k+200<cLine
 gd:A.guards=some []
theorem Room.h {k:Nat} {A:Around} (r:Room k A):RoomH k A:=⟨r.dp,r.un,r.gd⟩
theorem RoomH.mono {j k:Nat} {A:Around} (r:RoomH k A) (h:j≤k):RoomH j A:=⟨by have:=r.dp;omega,by have:=r.un;omega,r.gd⟩
theorem RoomH.mark {k:Nat} {A:Around} (r:RoomH k A) (h:Option Value):RoomH k (A.mark h):=⟨r.dp,r.un,r.gd⟩
theorem RoomH.deeper {k:Nat} {A:Around} (r:RoomH (k+1) A) (env:Env):RoomH k (A.deeper env):=
 ⟨by have:=r.dp;show A.depth+1+3*k+5<_;omega,by have:=r.un;show A.units+3+16*k+200<_;omega,r.gd⟩
theorem RoomH.make {k:Nat} {A:Around} (r:RoomH (k+1) A) (C:Addr) (us:List Value) (kw:List (Str×Value)):RoomH k (A.under (.builtin "type.__call__" ⟨.ref C::us,kw⟩)):=
 ⟨by have:=r.dp;rw [make_depth];omega,by have:=r.un;rw [make_units];omega,by first|exact r.gd|(simpa [Around.under,Code.guards,pushGuards] using r.gd)⟩
theorem RoomH.depth {k:Nat} {A:Around} (r:RoomH k A):A.depth<recursionLimit:=by have:=r.dp;omega
structure FnOkH (P:Program) (w:World) (K:PySem.W.Frag) (mg:Str→Option Value) (base:Heap) (CX:CXT) (k:Nat) (f:Addr) (fd:FuncData) (ps:List Str) (sp:Sp):Prop where
 len:∀ vs H Q E,sp vs H Q E→vs.length=ps.length
 run:∀ (A:Around) (outer:List Env) (s:Shared) (H:Hp) (args:Args) (us:List Value) (vs:List V) (Q:VK) (E:XK),RoomH k A→Env0 P w K mg base A outer s H→BindsTo s fd args (ps.zip us)→Vals vs us→sp vs H Q E→
  codeAny (model P w) A (.call (.ref f) args) (CR CX outer P w H s Q E) s
section
variable {X:Cx} {C S f:Addr} {fd:FuncData} {ps:List Str} {sp:Sp} {k:Nat}
end
end L2
namespace L3
open PySem PySem.Spec PyProof.Rows L2 SeqAt
def SmallK:Bool→V→Prop
 |true,v=>∃ n,v= .int n∧SmallV (.int n)
 |false,v=>SmallV v
def SmallL:List (Str×Bool)→List V→Prop
 | [],[]=>True
 |k::ks,v::vs=>SmallK k.2 v∧SmallL ks vs
 |_,_=>False
def spG (C:Addr) (ks:List (Str×Bool)):Sp:=fun vs H Q _=>∃ a xs,vs= .ref a::xs∧SmallL ks xs∧H a=some (.ext (ExcN a C))∧∀ d,H d=none→Q .non (upd (upd H a (.ext (ExcO a C (some d)))) d (.xd ((ks.map (·.1)).zip xs)))
theorem SmallL.length:∀ {ks:List (Str×Bool)} {xs:List V},SmallL ks xs→xs.length=ks.length
 | [],[],_=>rfl
 |_::_,_::_,h=>by rw [List.length_cons,List.length_cons,SmallL.length h.2]
 | [],_::_,h=>h.elim
 |_::_,[],h=>h.elim
structure XInG (X:Cx) (C:Addr) (ks:List (Str×Bool)) (sts:List Stmt):Prop where
 h:PSs X sts (fun D σ H=>∃ a xs,σ[0]? =some (some (.ref a))∧(∀ i v,xs[i]? =some v→σ[i+1]? =some (some v))∧SmallL ks xs∧H a=some (.ext (ExcN a C))∧∀ d,H d=none→D.nx σ (upd (upd H a (.ext (ExcO a C (some d)))) d (.xd ((ks.map (·.1)).zip xs))))
section
variable {X:Cx} {C S f:Addr} {xb self x y attr attr2:Str} {p1 p2 p3 p7 p8 p9 q1 q2 q3 q4 r1 r2 r3 r4:Pos} {v1 v2:Expr} {rest:List Expr} {P:L2.St→Prop} {b:Nat} {k k2:Bool}
end
structure FnG (P:Program) (w:World) (K:PySem.W.Frag) (mg:Str→Option Value) (base:Heap) (k:Nat) (c:Str) (ks:List (Str×Bool)):Prop where
 ex:∃ j C S f fd ps,j+1≤k∧FnOkH P w K mg base CX0 j f fd ps (spG C ks)∧XInit K C S f∧mg c=some (.ref C)∧PySem.W.nsIn K mainGlobals c=some (some (.ref C))∧Binds K fd ps []
theorem FnG.mono {P:Program} {w:World} {K:PySem.W.Frag} {mg:Str→Option Value} {base:Heap} {j k:Nat} {c:Str} {ks:List (Str×Bool)} (F:FnG P w K mg base j c ks) (h:j≤k):FnG P w K mg base k c ks:=by
 obtain ⟨i,C,S,f,fd,ps,a,b⟩:=F.ex
 exact ⟨i,C,S,f,fd,ps,Nat.le_trans a h,b⟩
section
variable {X:Cx} {xw:XW} {C S f:Addr} {fd:FuncData} {ps:List Str} {k:Nat} {x c:Str} {ks:List (Str×Bool)} {p pos np cpos:Pos} {e a:Expr} {es:List Expr} {t:TA} {fs:DSt→Res (List D)}
end
end L3
namespace L3
open PySem PySem.Spec PyProof.Rows L2 SeqAt
end L3
namespace PySem
open Sem (wp)
section
variable {prog:Program} {w:World} {A:Around} {E:Value→Shared→Prop} {s:Shared} {env:Env}
variable {nm q:Str} {C N:Addr} {bs bm:List Value} {hdct:Bool} {sn:List Str} {sub:List Value} {ab:Bool} {col:Option Bool} {dd:Option Addr} {k0 k1 k2 k3 k5:Option Value} {newId:String}
end
end PySem
namespace L3
open PySem PySem.Spec PyProof.Rows L2 SeqAt
section
variable {X:Cx} {pins:List (Addr×Obj)} {σ:L2.St} {H:Hp} {s s1:Shared} {b C:Addr} {cls a0:Value} {dx:Option Addr} {M:Model} {A:Around} {Ex:Value→Shared→Prop} {Q:Unit→Shared→Prop}
end
end L3
namespace L3
open PySem PySem.Spec PyProof.Rows L2 SeqAt
section
variable {X:Cx} {xw:XW} {pins:List (Addr×Obj)} {σ:L2.St} {H:Hp} {s:Shared} {ar:Addr} {Ex:Value→Shared→Prop} {k:Nat} {c:Str} {ks:List (Str×Bool)} {np cpos pos p:Pos} {j:Nat} {a:Expr} {es:List Expr} {fs:DSt→Res (List D)}
end
section
variable {X:Cx} {xw:XW} {a ea:Expr} {es eas:List Expr} {fs fa:DSt→Res (List D)} {p pos cpos hpos tpos np np2 cpos2 pos2 p2:Pos} {st:Stmt} {orelse:List Stmt} {k k2 nn jj:Nat} {x C n c2:Str} {ks:List (Str×Bool)} {m:List D→Res D} {gK:D→DSt→Out} {go:DSt→Out}
end
end L3
namespace L3
open PySem PySem.Spec PyProof.Rows L2 SeqAt
section
variable {X:Cx} {xw:XW} {pins:List (Addr×Obj)} {σ:L2.St} {W:WS} {H:Hp} {s:Shared}
end
end L3
namespace L3
open PySem PySem.Spec PyProof.Rows L2 SeqAt
section
variable {X:Cx} {xw:XW} {pos p pos2 p2:Pos} {a:Expr} {fa:DSt→Res D}
end
end L3
namespace L3
open PySem PySem.Spec PyProof.Rows L2 SeqAt
section
variable {K:PySem.W.Frag} {xw:XW} {W₀ W W1:WS} {H₀ H H1:Hp} {Dn:Ends}
def NewQ (K:PySem.W.Frag) (W₀:WS) (H₀:Hp) (ks:List Key) (ds:List D) (Q:V→Hp→Prop):Prop:=∀ a kvs H',Same H₀ H'→H₀ a=none→H' a=some (.dK kvs)→kvs.map (·.1)=ks→HasL K (fun b=>W₀ b∨b=a) H' ds (kvs.map (·.2))→Q (.ref a) H'
def RSQ (K:PySem.W.Frag) (xw:XW) (W₀:WS) (H₀:Hp) (W:WS) (H:Hp) (o:Out) (Dn:Ends):Prop:=match o with
 | .rt (.dct ks ds)=>NewQ K W₀ H₀ ks ds Dn.rt
 |o=>RS K xw W₀ H₀ W H o Dn
theorem RSQ.step {o:Out} (h:RSQ K xw W₀ H₀ W H o Dn) (k:Step W H W1 H1):RSQ K xw W₀ H₀ W1 H1 o Dn:=by
 cases o with
 |rt d=>cases d<;>exact h
 |nx δ=>exact RS.step (xw:=xw) (o:= .nx δ) h k
 |bk δ=>exact RS.step (xw:=xw) (o:= .bk δ) h k
 |ct δ=>exact RS.step (xw:=xw) (o:= .ct δ) h k
 |ex c fs=>exact h
 |stuck=>exact h
def tDSQ (K:PySem.W.Frag) (xw:XW) (g:DSt→Out):TS:=fun Dn σ H=>∃ W₀ H₀ W δ,StHas K W₀ H₀ W H σ δ∧RSQ K xw W₀ H₀ W H (g δ) Dn
end
structure NoQ (g:DSt→Out):Prop where
 h:∀ δ ks ds,g δ≠ .rt (.dct ks ds)
theorem ofR_noQ {α:Type} {r:Res α} {k:α→Out} {ks:List Key} {ds:List D} (h:∀ a,k a≠ .rt (.dct ks ds)):ofR r k≠ .rt (.dct ks ds):=by
 cases r with
 |ok a=>exact h a
 |ex c fs=>intro e;cases e
 |stuck=>intro e;cases e
theorem NoQ.nox {g:DSt→Out} (h:NoQ g):NoQ (noxS g):=⟨fun δ ks ds e=>by
 unfold noxS at e
 cases z:g δ with
 |rt d=>rw [z] at e;exact h.h δ ks ds (by rw [z];exact e)
 |_=>rw [z] at e;cases e⟩
theorem NoQ.put {i:Nat} {fi f:DSt→Res D}:NoQ (sPutI i fi f):=⟨fun δ ks ds=>ofR_noQ fun d=>by
 unfold putO
 split
 ·refine ofR_noQ fun z=> ?_
  unfold putJ
  split
  ·split
   ·intro e;cases e
   ·intro e;cases e
  ·intro e;cases e
 ·intro e;cases e⟩
section
variable {X:Cx} {xw:XW} {st:Stmt} {sts:List Stmt} {g1 g2:DSt→Out} {pos p:Pos} {a:Expr} {es:List Expr}
structure XSQ (X:Cx) (xw:XW) (sts:List Stmt) (g:DSt→Out):Prop where
 h:PSs X sts (tDSQ X.K xw g)
def spQX (K:PySem.W.Frag) (n:Nat) (m:List D→Res D):Sp:=fun vs H Q E=>vs.length=n∧∃ W ds,WL W H∧HasL K W H ds vs∧match m ds with
 | .ok (.dct ks fs)=>NewQ K W H ks fs Q
 | .ok d=>∀ v H',Same H H'→Has K W H' d v→Q v H'
 | .ex c fs=>∀ cls dx H',PySem.W.nsIn K mainGlobals c=some (some cls)→Same H H'→ExF H' dx fs→E cls dx H'
 | .stuck=>False
structure FnQX (P:Program) (w:World) (K:PySem.W.Frag) (mg:Str→Option Value) (base:Heap) (k:Nat) (x:Str) (n:Nat) (m:List D→Res D):Prop where
 ex:∃ f fd ps,FnOk P w K mg base (CXD P w) k f fd ps (spQX K n m)∧mg x=some (.ref f)∧PySem.W.keepIn K (.ref f)=true∧Binds K fd ps []
theorem FnQX.mono {P:Program} {w:World} {K:PySem.W.Frag} {mg:Str→Option Value} {base:Heap} {j k n:Nat} {x:Str} {m:List D→Res D} (F:FnQX P w K mg base j x n m) (h:j≤k):FnQX P w K mg base k x n m:=by
 obtain ⟨f,fd,ps,a,b⟩:=F.ex
 exact ⟨f,fd,ps,a.mono h,b⟩
end
end L3
namespace L3
open PySem PySem.Spec PyProof.Rows L2 SeqAt
section
variable {X:Cx} {xw:XW} {e:Expr} {f:DSt→Res D} {p pos:Pos}
end
end L3
namespace L3
open PySem PySem.Spec PyProof.Rows L2 SeqAt
section
variable {X:Cx} {xw:XW} {e:Expr} {f:DSt→Res D} {p pos apos pos2:Pos}
end
end L3
namespace L3
open PySem PySem.Spec PyProof.Rows L2 SeqAt
section
variable {X:Cx} {xw:XW} {a b e:Expr} {fa fb:DSt→Res (List (Key×D))} {p pos:Pos}
end
end L3
namespace L3
open PySem PySem.Spec PyProof.Rows L2 SeqAt
section
variable {K:PySem.W.Frag} {W₀ W:WS} {H₀ H H':Hp} {σ:L2.St} {δ:DSt}
end
section
variable {X:Cx} {xw:XW} {pos p p1 p2 p3:Pos} {e ie:Expr} {f fi:DSt→Res D} {ff:DSt→Res (List D)}
def tNil:TE:=fun _ H Q=>∀ a,H a=none→Q (.ref a) (upd H a (.lst []))
variable {scope:Scope} {tg iter:Expr} {fl:DSt→Res (List D)} {t:D→DSt→Res DSt}
end
end L3
namespace L3
open PySem PySem.Spec PyProof.Rows L2 SeqAt
section
variable {X:Cx} {xw:XW} {tg a:Expr} {p pos:Pos} {fs:DSt→Res (List D)}
end
end L3
namespace L3
open PySem PySem.Spec PyProof.Rows L2 SeqAt
section
variable {X:Cx} {xw:XW} {e:Expr} {f:DSt→Res D} {pos p1 p2 p3:Pos}
def mrg {α:Type} (kvs more:List (Key×α)):List (Key×α):=more.foldl (fun acc p=>tPut acc p.1 p.2) kvs
noncomputable def updJ (i:Nat) (δ:DSt) (l:List (Key×D)) (d:D):Out:=match d with
 | .dct ks ds=>@ite Out (l.length+(ks.zip ds).length≤1000) (Classical.propDecidable _) (.nx (δ.set i (some (.q ((mrg l (ks.zip ds)).map (·.1)) ((mrg l (ks.zip ds)).map (·.2)))))) .stuck
 |_=> .stuck
noncomputable def sUpd (i:Nat) (f:DSt→Res D):DSt→Out:=fun δ=>match δ[i]? with
 |some (some (.q ks ds))=>ofR (f δ) (updJ i δ (ks.zip ds))
 |_=> .stuck
end
end L3
namespace L3
open PySem PySem.Spec PyProof.Rows L2 SeqAt
structure NoR (g:DSt→Out):Prop where
 h:∀ δ d,g δ≠ .rt d
theorem NoR.l {g:DSt→Out} (h:NoR g):NoL g:=⟨fun δ _=>h.h δ _⟩
theorem NoR.q {g:DSt→Out} (h:NoR g):NoQ g:=⟨fun δ _ _=>h.h δ _⟩
theorem ofR_nr {α:Type} {r:Res α} {k:α→Out} {d:D} (h:∀ a,k a≠ .rt d):ofR r k≠ .rt d:=by
 cases r with
 |ok a=>exact h a
 |ex c fs=>intro e;cases e
 |stuck=>intro e;cases e
theorem NoR.seq {a b:DSt→Out} (ha:NoR a) (hb:NoR b):NoR (sSeq a b):=⟨fun δ d=>by
 show seqO (a δ) b≠_
 cases h:a δ with
 |nx δ'=>exact hb.h δ' d
 |rt d'=>intro e;exact ha.h δ d (by rw [h];exact e)
 |bk δ'=>intro e;cases e
 |ct δ'=>intro e;cases e
 |ex c fs=>intro e;cases e
 |stuck=>intro e;cases e⟩
theorem NoR.nx:NoR Out.nx:=⟨fun δ d e=>by cases e⟩
theorem NoR.own {i:Nat} {f:DSt→Res (List D)}:NoR (sOwn i f):=⟨fun δ d=>ofR_nr fun k e=>by cases e⟩
theorem NoR.set {i:Nat} {f:DSt→Res D}:NoR (sSet i f):=⟨fun δ d=>ofR_nr fun k e=>by cases e⟩
theorem NoR.put {i:Nat} {fi f:DSt→Res D}:NoR (sPutI i fi f):=⟨fun δ d=>ofR_nr fun z=>by
 unfold putO
 split
 ·refine ofR_nr fun z=> ?_
  unfold putJ
  split
  ·split
   ·intro e;cases e
   ·intro e;cases e
  ·intro e;cases e
 ·intro e;cases e⟩
theorem NoR.upd {i:Nat} {f:DSt→Res D}:NoR (sUpd i f):=⟨fun δ d=>by
 unfold sUpd
 split
 ·refine ofR_nr fun z=> ?_
  unfold updJ
  split
  ·split
   ·intro e;cases e
   ·intro e;cases e
  ·intro e;cases e
 ·intro e;cases e⟩
theorem NoR.frz {i:Nat} {g:DSt→Out} (h:NoR g):NoR (sFrz i g):=⟨fun δ d=>h.h _ d⟩
end L3
namespace L3
open PySem PySem.Spec PyProof.Rows L2 SeqAt
def Txts (xs:List Str):Prop:=xs.length≤100∧∀ x∈xs,(reprText x).length≤1000
section
variable {X:Cx} {pos p p1 p2:Pos}
end
def spR (K:PySem.W.Frag) (C:Addr) (attr:Str):Sp:=fun vs H Q _=>∃ a l xs,vs= [.ref a, .ref l]∧SqL K H l (xs.map V.str)∧Txts xs∧H a=some (.ext (ExcN a C))∧∀ n o d,H n=none→H d=none→d≠n→Q .non (upd (upd (upd H n (.frz o (.lst (xs.map V.str)))) a (.ext (ExcO a C (some d)))) d (.xd [(attr, .ref n)]))
structure XInR (X:Cx) (C:Addr) (attr:Str) (sts:List Stmt):Prop where
 h:PSs X sts (fun D σ H=>∃ a l xs,σ[0]? =some (some (.ref a))∧σ[1]? =some (some (.ref l))∧SqL X.K H l (xs.map V.str)∧Txts xs∧H a=some (.ext (ExcN a C))∧∀ n o d,H n=none→H d=none→d≠n→D.nx σ (upd (upd (upd H n (.frz o (.lst (xs.map V.str)))) a (.ext (ExcO a C (some d)))) d (.xd [(attr, .ref n)])))
section
variable {X:Cx} {C S f:Addr} {xb self x attr:Str} {p1 p2 p3 p7 p8 p9 q1 q2 q3 q4 q5 q6 r1 r2 r3:Pos} {z:Str} {k:Nat}
end
structure FnR (P:Program) (w:World) (K:PySem.W.Frag) (mg:Str→Option Value) (base:Heap) (k:Nat) (c attr:Str):Prop where
 ex:∃ j C S f fd ps,j+1≤k∧FnOkH P w K mg base CX0 j f fd ps (spR K C attr)∧XInit K C S f∧mg c=some (.ref C)∧PySem.W.nsIn K mainGlobals c=some (some (.ref C))∧Binds K fd ps []
theorem FnR.mono {P:Program} {w:World} {K:PySem.W.Frag} {mg:Str→Option Value} {base:Heap} {j k:Nat} {c attr:Str} (F:FnR P w K mg base j c attr) (h:j≤k):FnR P w K mg base k c attr:=by
 obtain ⟨i,C,S,f,fd,ps,a,b⟩:=F.ex
 exact ⟨i,C,S,f,fd,ps,Nat.le_trans a h,b⟩
section
variable {X:Cx} {xw:XW} {C S f:Addr} {fd:FuncData} {ps:List Str} {k:Nat} {x c attr:Str} {p pos np cpos:Pos} {e a:Expr} {es:List Expr} {t:TA} {fs:DSt→Res (List D)}
end
end L3
namespace L3
open PySem PySem.Spec PyProof.Rows L2 SeqAt
section
variable {X:Cx}
end
section
variable {K:PySem.W.Frag} {W:WS} {H:Hp}
end
section
variable {X:Cx} {xw:XW} {o e:Expr} {f:DSt→Res D} {fs:DSt→Res (List D)} {apos cpos:Pos}
end
end L3
namespace L3
open PySem PySem.Spec PyProof.Rows L2 SeqAt
section
variable {prog:Program} {w:World} {A:Around} {E:Value→Shared→Prop} {s:Shared} {it l:Addr} {xs:Array Value}
end
section
variable {X:Cx} {xw:XW} {a:Expr} {p p2 pos pos2:Pos}
end
end L3
namespace L3
open PySem PySem.Spec PyProof.Rows L2 SeqAt
section
variable {X:Cx} {xw:XW} {a:Expr} {es:List Expr} {pos p:Pos} {fs:DSt→Res (List D)}
end
end L3
namespace L3
open PySem
open Sem (wp)
def ddk {K:Type} [DecidableEq K] (σ:List K) (k:K):List K:=if k∈σ then σ else σ++ [k]
def mtk {K:Type} [DecidableEq K] (ks:List K):List K:=ks.foldl ddk []
theorem ddk_len {K:Type} [DecidableEq K] (σ:List K) (k:K):(ddk σ k).length≤σ.length+1:=by unfold ddk;split<;>simp
theorem foldk_len {K:Type} [DecidableEq K]:∀ (ns σ:List K),(ns.foldl ddk σ).length≤σ.length+ns.length
 | [],σ=>by simp
 |n::ns,σ=>by have:=foldk_len ns (ddk σ n);have:=ddk_len σ n;rw [List.foldl_cons,List.length_cons];omega
theorem mtk_len {K:Type} [DecidableEq K] (ns:List K):(mtk ns).length≤ns.length:=by have:=foldk_len ns [];simpa [mtk] using this
theorem mtk_take {K:Type} [DecidableEq K] {ns:List K} {i:Nat} {k:K} (h:ns[i]? =some k):mtk (ns.take (i+1))=ddk (mtk (ns.take i)) k:=by
 unfold mtk
 rw [List.take_add_one,List.foldl_append,h]
 rfl
section
variable {prog:Program} {w:World} {K:Type} [DecidableEq K] {knd:KeyKind prog w K} {A:Around} {R:Result→Shared→Prop} {I:Addr} {fp wr:List Addr} {G:Array GenState→Array GenState→Prop} {n:Nat} {P:Nat→Value→Prop} {St:Nat→Shared→Prop} {E:Value→Shared→Prop} {s:Shared}
def SB (knd:KeyKind prog w K) (h:Heap) (a:Addr) (σ:List K):Prop:=h.SetOf knd a (fun k=>decide (k∈σ)) σ.length
theorem SB.at' {h h':Heap} {a:Addr} {σ:List K} (x:SB knd h a σ) (k:∀ o,h.get? a=some o→h'.get? a=some o):SB knd h' a σ:=by
 obtain ⟨o,es,ep,t,ho,r⟩:=x;exact ⟨o,es,ep,t,k o ho,r⟩
theorem sb_add {a:Addr} {σ:List K} {k:K} {v:Value} {Q:Bool→Shared→Prop} (hk:knd.is k v=true) (hsc:v.scannable=true) (hS:SB knd s.heap a σ) (room:σ.length+1<scanBound)
  (h:∀ h' b,Heap.SameBut a s.heap h'→SB knd h' a (ddk σ k)→Q b {s with heap:=h'}):wpAny (model prog w) A (setAddHashed a v (knd.hash k)) Q E s:=by
 refine wpAny_setAddHashed_of hk hsc hS room fun h' sb hS'=>h h' _ sb ?_
 unfold SB ddk
 by_cases hm:k∈σ
 ·rw [if_pos hm]
  rw [decide_eq_true hm] at hS'
  have e:(fun k'=>decide (k'∈σ)||decide (k'=k))=fun k'=>decide (k'∈σ):=by
   funext k'
   by_cases h1:k'=k
   ·rw [h1,decide_eq_true hm];rfl
   ·rw [decide_eq_false h1,Bool.or_false]
  rw [e] at hS'
  exact hS'
 ·rw [if_neg hm]
  rw [decide_eq_false hm] at hS'
  have e:(fun k'=>decide (k'∈σ)||decide (k'=k))=fun k'=>decide (k'∈σ++ [k]):=by
   funext k'
   by_cases h1:k'=k
   ·rw [h1];simp
   ·simp [h1]
  rw [e] at hS'
  rw [List.length_append,List.length_singleton]
  exact hS'
theorem sb_loop (W:WalksS prog w A.in1 I fp wr G n P St) (S:Addr) (hSf:S∉fp) (ks:List K) (hn:ks.length=n) (hv:∀ i v,P i v→∃ k,ks[i]? =some k∧knd.is k v=true∧v.scannable=true) (hb:n+1<scanBound):
  ∀ (k i:Nat) (s:Shared),n-i=k→i≤n→St i s→SB knd s.heap S (mtk (ks.take i))→(∀ s',Moved (S::wr) G s s'→SB knd s'.heap S (mtk ks)→R (.ok (.ret .none)) s')→
   codeAny (model prog w) A (.builtin "set.update.loop" ⟨[.ref S, .ref I],[]⟩) R s:=by
 have hSw:S∉wr:=fun h=>hSf (W.sub _ h)
 have up:∀ b∈wr,b∈S::wr:=fun b hb=>List.mem_cons_of_mem _ hb
 intro k
 induction k with
 |zero=>
  intro i s hk hi st hS hR
  have:i=n:=by omega
  subst this
  refine codeAny_builtin PyProof.Rows.F.entry_set_update_loop ?_;rw [Around.under_plainId PyProof.Rows.F.plain_set_update_loop _]
  show wpAny _ A.in1 (pyNext (.ref I) >>= _) _ _ s
  refine wpAny_bind (W.done s _ _ st fun s' mv=>wpAny_pure (hR s' (mv.mono up) ?_))
  rw [List.take_of_length_le (Nat.le_of_eq hn)] at hS
  exact hS.at' fun o e=>mv.heap S o hSw e
 |succ k ih=>
  intro i s hk hi st hS hR
  have lt:i<n:=by omega
  refine codeAny_builtin PyProof.Rows.F.entry_set_update_loop ?_;rw [Around.under_plainId PyProof.Rows.F.plain_set_update_loop _]
  show wpAny _ A.in1 (pyNext (.ref I) >>= _) _ _ s
  refine wpAny_bind (W.item i s _ _ lt st fun v s' pv st' mv=> ?_)
  obtain ⟨kk,ek,hkk,hsc⟩:=hv i v pv
  have hS':SB knd s'.heap S (mtk (ks.take i)):=hS.at' fun o e=>mv.heap S o hSw e
  have room:(mtk (ks.take i)).length+1<scanBound:=by have:=mtk_len (ks.take i);rw [List.length_take] at this;omega
  show wpAny _ A.in1 (holding [v] (setAdd S v) >>= _) _ _ s'
  refine wpAny_bind (wpAny_holding ?_)
  unfold setAdd
  refine wpAny_holding (wpAny_bind (knd.pyHash (k:=kk) hkk ?_))
  refine sb_add (s:= {s' with toks:=s'.toks+1}) hkk hsc hS' room fun h' b sb hS2=>wpAny_pure ⟨plainId_quiet PyProof.Rows.F.plain_set_update_loop _,?_⟩
  refine ih (i+1) _ (by omega) lt (W.frame _ s' _ _ st' (Nat.le_succ _) fun b hb o e=>sb.extBut _ _ (fun q=>hSf (q▸hb)) e) (by rw [mtk_take ek];exact hS2) fun s'' mv2 hS3=>hR s'' ?_ hS3
  exact Moved.trans W.gtrans ((mv.mono up).then_heap (Nat.le_succ _) fun b o hb e=>sb.extBut _ _ (fun q=>hb (by rw [q];exact List.mem_cons_self)) e) mv2
theorem sb_fresh {h:Heap} {a:Addr} {led:Bool} (hg:h.get? a=some {cls:= .type "set",dict:=none,data:= .set #[] 0 (.fresh 0 0 led)}):SB knd h a []:=
 ⟨_,#[],0,_,hg,⟨rfl,rfl,rfl⟩,rfl,fun e he=>by simp at he,fun k=>by simp,by decide,by rfl,rfl⟩
theorem call_set_seqK {T:String} {l:Addr} {ol:Obj} {items:Array Value} {ks:List K} {Q:Value→Shared→Prop} (hh:A.handled=none) (hol:s.heap.get? l=some ol) (hcl:ol.cls= .type T) (hs1:isSubtype (.type T) (.type "set")=pure false)
  (hs2:isSubtype (.type T) (.type "frozenset")=pure false) (hnd:(Value.type T==Value.type "dict")=false) (hit:Itr prog w l ol items) (hn:ks.length=items.size) (hv:∀ (i:Nat) (v:Value),items[i]? =some v→∃ k,ks[i]? =some k∧knd.is k v=true∧v.scannable=true) (hb:items.size+1<scanBound)
  (h:∀ h' tk,SB knd h' s.heap.objs.size (mtk ks)→(∀ b o,s.heap.get? b=some o→h'.get? b=some o)→Q (.ref s.heap.objs.size) {s with heap:=h',toks:=tk}):wpAny (model prog w) A (call (.type "set") [.ref l]) Q E s:=by
 obtain ⟨c,tl,hmro⟩:=PySem.F.called_set.mro
 have hmade:=PySem.F.called_set.made
 have hsub:=PySem.F.called_set.sub
 refine wpAny_call (codeAny_of_tree ?_);show wpAny _ _ (callAny (.type "set") _) _ _ _
 refine wpAny_pure ⟨Code.quiet_builtin _ (by decide +kernel),codeAny_builtin PySem.F.entry_type_call ?_⟩;rw [Around.under_plain (weight_type_call_type "set" [.ref l] []) rfl]
 have q1:=PySem.F.called_set.notType
 have q2:=PySem.F.called_set.canCreate
 have q3:=PySem.F.typeCall_set_1 (.ref l)
 repeat (any_goals (first|assumption|wp_step))
 refine codeAny_mono (set_made (.ref l) (E:=E) (Q₁:=fun obj s₁=>∃ led:Bool,led=(!w.params.followText "set-order")∧obj= .ref s.heap.objs.size∧s₁= {s with heap:=s.heap.push {cls:= .type "set",dict:=none,data:= .set #[] 0 (.fresh 0 0 led)}}) fun led e=>⟨led,e,rfl,rfl⟩) fun r s₁ hr=> ?_
 cases r with
 |error e=>exact hr
 |ok fl=>
  cases fl with
  |ret obj=>
   obtain ⟨led,hled,rfl,rfl⟩:=hr
   generalize hg:s.heap.push {cls:= .type "set",dict:=none,data:= .set #[] 0 (.fresh 0 0 led)}=h1
   have k1:∀ b o,s.heap.get? b=some o→h1.get? b=some o:=fun b o e=>by rw [←hg];exact Heap.get?_push_of_some _ e
   have n1:h1.get? s.heap.objs.size=some {cls:= .type "set",dict:=none,data:= .set #[] 0 (.fresh 0 0 led)}:=by rw [←hg];exact Heap.get?_push_size _ rfl
   have z1:h1.objs.size=s.heap.objs.size+1:=by rw [←hg,Heap.size_push]
   clear hg
   have hT:Shared.TypeIs {s with heap:=h1} (.ref s.heap.objs.size) "set":=⟨_,n1,rfl⟩
   have q4:=PySem.F.called_set.init.lookup
   have q5:=PySem.F.called_set.init.bind (.ref s.heap.objs.size)
   repeat (any_goals (first|assumption|wp_step))
   refine codeAny_mono (codeAny_call_builtin (R:=wants (fun r s₂=>r= .none∧∃ h' tk,s₂= {s with heap:=h',toks:=tk}∧SB knd h' s.heap.objs.size (mtk ks)∧∀ b o,s.heap.get? b=some o→h'.get? b=some o) E)
    PySem.F.called_set.init.plain PySem.F.entry_set_init (check_set_init_1 hT ?_)) fun r₂ s₂ hr₂=> ?_
   ·have hol':=k1 _ _ hol
    have hTl:Shared.TypeIs {s with heap:=h1} (.ref l) T:=⟨_,hol',hcl⟩
    unfold Builtin.«set.__init__» noKeywords Builtin.Frozenset.updateFrom
    generalize hPI:pyIter=PI
    wp_walk
    subst hPI
    refine hit _ _ _ _ hol' fun I St h2 W st eI k2=> ?_
    refine wpAny_bind (wpAny_runValue ?_)
    have lS:s.heap.objs.size<I:=by rw [eI];show _<h1.objs.size;rw [z1];exact Nat.lt_succ_self _
    have ll:l<s.heap.objs.size:=Heap.lt_size hol
    have hSf:s.heap.objs.size∉ [I,l]:=by
     simp only [List.mem_cons,List.not_mem_nil,or_false,not_or]
     exact ⟨Nat.ne_of_lt lS,Nat.ne_of_gt ll⟩
    refine sb_loop ((W _ (by simp [hh])).toS) s.heap.objs.size hSf ks hn hv hb items.size 0 _ (by omega) (Nat.zero_le _) st (sb_fresh (k2 _ _ n1)) fun s' mv hS=> ?_
    obtain ⟨h',g',d',tk',os'⟩:=s'
    have eg:g'=s.gens:=mv.gens
    have ed:d'=s.drawn:=mv.drawn
    have eo:os'=s.os:=mv.os
    subst eg ed eo
    refine wpAny_pure (wpAny_pure ⟨rfl,h',tk',rfl,hS,fun b o e=> ?_⟩)
    have lb:b<s.heap.objs.size:=Heap.lt_size e
    refine mv.heap b o (fun z=> ?_) (k2 _ _ (k1 _ _ e))
    simp only [List.mem_cons,List.not_mem_nil,or_false] at z
    rcases z with z|z
    ·rw [z] at lb;exact Nat.lt_irrefl _ lb
    ·rw [z] at lb;exact Nat.lt_irrefl _ (Nat.lt_trans lb lS)
   ·cases r₂ with
    |error e=>exact hr₂
    |ok fl₂=>
     cases fl₂ with
     |ret r=>
      obtain ⟨rfl,h',tk,rfl,hS',hk'⟩:=hr₂
      repeat (any_goals (first|assumption|wp_step))
      exact h _ _ hS' hk'
     |_=>exact hr₂.elim
  |_=>exact hr.elim
end
end L3
namespace L3
open PySem PySem.Spec PyProof.Rows L2 SeqAt
section
variable {X:Cx} {xw:XW} {pos p pos2 p2:Pos} {a e:Expr} {fa:DSt→Res D}
theorem strs_at:∀ {us:List Value} {xs:List Str},Vals (xs.map V.str) us→xs.length=us.length∧∀ (i:Nat) v,us[i]? =some v→∃ k,xs[i]? =some k∧Value.isStrOf k v=true∧v.scannable=true
 |us,[],r=>by cases r;exact ⟨rfl,fun i v h=>by simp at h⟩
 |us,x::xs,r=>by
  cases r with
  |cons h1 t=>
   obtain ⟨l,q⟩:=strs_at t
   refine ⟨by rw [List.length_cons,List.length_cons,l],fun i v hv=> ?_⟩
   cases i with
   |zero=>
    obtain ⟨tk,rfl⟩:=h1
    have e:Value.str x tk=v:=by simpa using hv
    subst e
    exact ⟨x,rfl,by simp [Value.isStrOf],rfl⟩
   |succ i=>
    obtain ⟨k,e1,e2⟩:=q i v (by simpa using hv)
    exact ⟨k,by simpa using e1,e2⟩
def tLT (K:PySem.W.Frag) (ta:TE):TE:=fun σ H Q=>ta σ H fun v H1=>∃ l xs,v= .ref l∧SqL K H1 l (xs.map V.str)∧xs.length<64∧Q (.int (mtk xs).length) H1
theorem pe_lensetT {ta:TE} (hc:X.calm=true) (hg1:Gl X "len") (hm1:X.mg "len"=none) (hg2:Gl X "set") (hm2:X.mg "set"=none) (ha:PE X a ta)
  (h1:starEach [.Call (.Name "set" p2) [a] [] pos2] X.env=(false,eval (.Call (.Name "set" p2) [a] [] pos2) X.env)::starEach [] X.env) (h2:starEach [a] X.env=(false,eval a X.env)::starEach [] X.env)
  (h3:(backTo pos (starEach [] X.env)).any (·.1)=false) (h4:(backTo pos2 (starEach [] X.env)).any (·.1)=false):PE X (.Call (.Name "len" p) [.Call (.Name "set" p2) [a] [] pos2] [] pos) (tLT X.K ta):=by
 intro pins s σ H Q I h
 refine wpAny_Call_Name_kw (ld_blt I hg1 hm1 (show bootBuiltins "len"=some (.builtin "len") by decide +kernel) ?_)
 refine PyProof.Rows.callWith_builtin1 ?_ h1 h3
 rw [h1]
 show wpAny _ _ (spliced ((false,eval (.Call (.Name "set" p2) [a] [] pos2) X.env)::backTo pos (starEach [] X.env))) _ _ s
 refine Calls.spliced_cons ?_
 refine wpAny_Call_Name_kw (ld_blt I hg2 hm2 (show bootBuiltins "set"=some (.type "set") by decide +kernel) ?_)
 refine PyProof.Rows.callWith_type1 ?_ h2 h4
 rw [h2]
 show wpAny _ _ (spliced ((false,eval a X.env)::backTo pos2 (starEach [] X.env))) _ _ s
 refine Calls.spliced_cons (thn (ha pins s σ H _ I h) fun u s1 ⟨x,H1,I1,r1,q1⟩=> ?_)
 refine Calls.spliced_nil ?_
 obtain ⟨l,xs,rfl,sq,hl,q⟩:=q1
 cases (show u=Value.ref l from r1)
 obtain ⟨its,rv,ps,_⟩:=I1.list sq
 obtain ⟨el,hat⟩:=strs_at rv
 have hb:its.toArray.size+1<scanBound:=by rw [List.size_toArray,←el];unfold scanBound;omega
 obtain ⟨ol,nl,hol,hcl,_,hd⟩:=ps
 refine call_set_seqK (knd:=strKind X.prog X.w) (I1.ok.hd hc) hol hcl (by rw [isSubtype_type];kernel_rfl) (by rw [isSubtype_type];kernel_rfl) (by decide) (itr_list hcl hd) (by rw [List.size_toArray];exact el) (fun i v e=>hat i v (by simpa using e)) hb fun h' tk hS k=> ?_
 refine Calls.spliced_nil ?_
 obtain ⟨o,es,ep,t,ho,hex,hd,hel,hp,hb,hf,ht⟩:=hS
 have hsz:es.size=(mtk xs).length:=ht
 have hfit:(es.size:Int)<2^63:=by
  have:=mtk_len xs
  rw [hsz];omega
 refine call_len_set (s:= {s1 with heap:=h',toks:=tk}) ho hex hd hf hfit ?_
 rw [hsz]
 exact ⟨.int ((mtk xs).length:Int),H1,(I1.kept (t':=tk) k).tok _,⟨_,rfl⟩,q⟩
noncomputable def lensT:D→Res D
 | .lst ds=>match strsOf ds with
  |some xs=>@ite _ (xs.length<64) (Classical.propDecidable _) (.ok (.int (mtk xs).length)) .stuck
  |none=> .stuck
 |_=> .stuck
theorem x_lensetT (hc:X.calm=true) (hm1:X.mg "len"=none) (hm2:X.mg "set"=none) (ha:XP X xw a fa) (hg1:Gl X "len":=by rfl) (hg2:Gl X "set":=by rfl)
  (h1:starEach [.Call (.Name "set" p2) [a] [] pos2] X.env=(false,eval (.Call (.Name "set" p2) [a] [] pos2) X.env)::starEach [] X.env:=by rfl) (h2:starEach [a] X.env=(false,eval a X.env)::starEach [] X.env:=by rfl)
  (h3:(backTo pos (starEach [] X.env)).any (·.1)=false:=by rfl) (h4:(backTo pos2 (starEach [] X.env)).any (·.1)=false:=by rfl):
  XE X xw (.Call (.Name "len" p) [.Call (.Name "set" p2) [a] [] pos2] [] pos) (b1 lensT fa):=
 ⟨PE.weak (pe_lensetT hc hg1 hm1 hg2 hm2 ha.h h1 h2 h3 h4) fun σ H Q ⟨W₀,H₀,W,δ,st,q⟩=>one_read st q fun H2 d v k w st2 hv _ q2=>by
  unfold lensT at q2
  split at q2
  ·split at q2
   ·rename_i xs hn
    split at q2
    ·rename_i hl
     obtain ⟨p,ys,e,sq,r⟩:=hv.lst
     have:=strsOf_has hn r
     subst this
     exact ⟨p,xs,e,sq,hl,q2 _ H2 (Same.refl _) (by rw [Has])⟩
    ·exact q2.elim
   ·exact q2.elim
  ·exact q2.elim⟩
end
end L3
namespace L3
open PySem PySem.Spec PyProof.Rows L2 SeqAt
section
variable {X:Cx} {xw:XW} {e a o:Expr} {es:List Expr} {f fa:DSt→Res D} {gs:DSt→Res (List D)} {pos p p2 apos:Pos} {fld m:Str} {cs:List Str}
structure OwnK (K:PySem.W.Frag) (C:Addr):Prop where
 hg:PySem.W.plainGet K C "__class__"=true
 hd:PySem.W.hasDictIn K C=true
 ha:PySem.W.findIn K (.ref C) "__class__"=some (some (.builtin "object.__class__"))
 hn:PySem.W.specialIn K (.builtin "object.__class__") "__get__"=some (some (.builtin "getset_descriptor.__get__"))
 ht:PySem.W.takesIn K (.builtin "object.__class__")=some true
 hm:PySem.W.mroIn K C (.type "object")=some true
structure IsiO (K:PySem.W.Frag) (tb:List (Str×Bool)) (vc:V):Prop where
 cls:∃ a,vc= .ref a
 ok:∀ c b,tb.lookup c=some b→∃ C,PySem.W.nsIn K mainGlobals c=some (some (.ref C))∧OwnK K C∧PySem.W.kitOne K (.ref C) (valC vc)=some b
structure MtK (P:Program) (w:World) (K:PySem.W.Frag) (mg:Str→Option Value) (base:Heap) (k:Nat) (c m:Str) (n:Nat) (g:List D→Res D):Prop where
 ex:∃ C f fd ps,PySem.W.nsIn K mainGlobals c=some (some (.ref C))∧Cls K C∧Meth K C m f∧FnOk P w K mg base CX0 k f fd ps (spD K n g)∧Binds K fd ps []
theorem MtK.mono {P:Program} {w:World} {K:PySem.W.Frag} {mg:Str→Option Value} {base:Heap} {j k n:Nat} {c m:Str} {g:List D→Res D} (F:MtK P w K mg base j c m n g) (h:j≤k):MtK P w K mg base k c m n g:=by
 obtain ⟨C,f,fd,ps,a,b,d,e,i⟩:=F.ex
 exact ⟨C,f,fd,ps,a,b,d,e.mono h,i⟩
end
end L3
namespace L3
open PySem PyProof.Rows
section
variable {prog:Program} {w:World} {A:Around} {E:Value→Shared→Prop} {s:Shared} {T:String} {r d:Addr} {n:Nat} {P:Nat→Value→Prop} {OK:Heap→Prop}
end
end L3
namespace L3
open PySem PySem.Spec PyProof.Rows L2 SeqAt
section
variable {X:Cx} {xw:XW} {e:Expr} {f:DSt→Res D} {p pos:Pos}
theorem RSO.less {K:PySem.W.Frag} {xw:XW} {W₀ W W1:WS} {H₀ H:Hp} {o:Out} {Dn:Ends} (hw:∀ b,W1 b→W b) (q:RSO K xw W₀ H₀ W H o Dn):RSO K xw W₀ H₀ W1 H o Dn:=by
 cases o with
 |rt d=>cases d<;>exact q
 |nx δ=>exact RS.less (xw:=xw) (o:= .nx δ) hw q
 |bk δ=>exact RS.less (xw:=xw) (o:= .bk δ) hw q
 |ct δ=>exact RS.less (xw:=xw) (o:= .ct δ) hw q
 |ex c fs=>exact q
 |stuck=>exact q
end
end L3
namespace L3
open PySem PySem.SeqAt PySem.MeetsSeq PySem.MeetsSeq2 PySem.MeetsSeq3
section
variable {P:Program} {w:World}
end
end L3
namespace L3
open PySem PySem.Spec PyProof.Rows L2 SeqAt
section
variable {X:Cx} {xw:XW} {pins:List (Addr×Obj)} {σ:L2.St} {W:WS} {H:Hp} {s:Shared}
end
end L3
namespace L3
open PySem PySem.Spec PyProof.Rows L2 SeqAt
section
variable {K:PySem.W.Frag} {W₀ W:WS} {H₀ H H':Hp} {σ:L2.St} {δ:DSt}
theorem StHas.innerK {i j:Nat} {t:Tp} {cs:List Ch} {c c':Ch} {a b:Addr} {ob ob':HO} (h:StHas K W₀ H₀ W H σ δ) (hi:δ[i]? =some (some (.k t cs))) (hs:σ[i]? =some (some (.ref a))) (ha:H a=some ob) (hc:cs[j]? =some c) (co:ChO c) (hb:(hoVs ob)[j]? =some (.ref b)) (mo:MutO ob') (co':ChO c')
  (q:H₀ b=none→W b→Keep W H (upd H b ob')→ChHas K H₀ W (upd H b ob') c' (.ref b)):StHas K W₀ H₀ W (upd H b ob') σ (δ.set i (some (.k t (cs.set j c')))):=by
 obtain ⟨v,e,a',ob2,e',h1,h2,h3,h4,h5,h6⟩:=h.at' i _ hi
 rw [hs] at e;cases e;cases e'
 rw [ha] at h1;cases h1
 have own:Owns H (.k t cs) (.ref a) b:= .inr ⟨a,ob,j,c,rfl,ha,hc,co,hb⟩
 obtain ⟨hba,hap⟩:=h5 j c b hc co hb
 have ha':upd H b ob' a=some ob:=by rw [upd_ne (Ne.symm hba)];exact ha
 have hj:j<cs.length:=(List.getElem?_eq_some_iff.mp hc).1
 obtain ⟨hWb,h0b,_⟩:=(h.at' i _ hi).elim fun v z=>by
  have:v= .ref a:=by have:=z.1;rw [hs] at this;exact (Option.some.inj (Option.some.inj this)).symm
  subst this
  exact z.2.owns own
 have get:∀ k z,(cs.set j c')[k]? =some z→(k=j∧z=c')∨(k≠j∧cs[k]? =some z):=fun k z e=>by
  by_cases hk:j=k
  ·subst hk
   rw [List.getElem?_set_self hj] at e
   exact .inl ⟨rfl,(Option.some.inj e).symm⟩
  ·rw [List.getElem?_set_ne hk] at e
   exact .inr ⟨Ne.symm hk,e⟩
 refine h.changeS hi hs own mo (fun h0 kk=>⟨a,ob,rfl,ha',h2,h3,by rw [List.length_set];exact h4,?_,fun k z x e1 e2=> ?_⟩) (fun b2 o m t' v hm e e'=>h.ap i m _ _ _ _ b2 hm hi e hs e' ?_)
 ·intro k z b2 e1 zo e2
  have old:∀ m z,(cs.set j c')[m]? =some z→ChO z→∃ z',cs[m]? =some z'∧ChO z':=fun m z e o=>by
   rcases get m z e with ⟨rfl,rfl⟩|⟨_,e⟩
   ·exact ⟨c,hc,co⟩
   ·exact ⟨z,e,o⟩
  obtain ⟨z',g1,g2⟩:=old k z e1 zo
  obtain ⟨f1,f2⟩:=h5 k z' b2 g1 g2 e2
  refine ⟨f1,fun m z2 hm e3 o3=> ?_⟩
  obtain ⟨z3,g3,g4⟩:=old m z2 e3 o3
  exact f2 m z3 hm g3 g4
 ·rcases get k z e1 with ⟨rfl,rfl⟩|⟨hk,e1⟩
  ·rw [hb] at e2;cases e2
   exact q h0b hWb kk
  ·have hz:=h6 k z x e1 e2
   cases z with
   |d y=>exact Has.keep kk h.fr.wl (fun b z=> .inl z) hz
   |l ds=>
    obtain ⟨b2,xs,rfl,f1,f2,f3,f4⟩:=hz
    have ne:b2≠b:=fun y=>hap k _ hk e1 trivial (by rw [←y];exact e2)
    exact ⟨b2,xs,rfl,f1,f2,by rw [upd_ne ne];exact f3,HasL.keep kk h.fr.wl (fun b z=> .inl z) f4⟩
   |q ks ds=>
    obtain ⟨b2,xs,rfl,f1,f2,f3,f4,f5⟩:=hz
    have ne:b2≠b:=fun y=>hap k _ hk e1 trivial (by rw [←y];exact e2)
    exact ⟨b2,xs,rfl,f1,f2,by rw [upd_ne ne];exact f3,f4,HasL.keep kk h.fr.wl (fun b z=> .inl z) f5⟩
 ·rcases o with o|⟨a2,ob2,k,z,e2,g,e3,zo,e4⟩
  ·exact .inl o
  ·cases e2
   rw [ha'] at g;cases g
   rcases get k z e3 with ⟨rfl,rfl⟩|⟨_,e3⟩
   ·exact .inr ⟨a,ob,_,c,rfl,ha,hc,co,e4⟩
   ·exact .inr ⟨a,ob,k,z,rfl,ha,e3,zo,e4⟩
theorem StHas.demote {N:WS} {i:Nat} {so sl:S} {w:V} (h:StHas K W₀ H₀ W H σ δ) (hi:δ[i]? =some (some so)) (hs:σ[i]? =some (some w)) (oN:∀ b,N b→Owns H so w b)
  (hd:SlotHas K W₀ H₀ (fun b=>W b∧¬ N b) H sl w) (ow:∀ b,Owns H sl w b→Owns H so w b):StHas K W₀ H₀ (fun b=>W b∧¬ N b) H σ (δ.set i (some sl)):=by
 obtain ⟨v,h1,h2⟩:=h.at' i _ hi
 rw [hs] at h1
 cases h1
 have kk:Keep W H H:=fun _ _ e _=>e
 have hw:∀ b,(W b∧¬ N b)→W b∨H b=none:=fun b z=> .inl z.1
 have hl:i<δ.length:=(List.getElem?_eq_some_iff.mp hi).1
 have back:∀ (m:Nat) (t:S) (x:V) (b:Addr),(δ.set i (some sl))[m]? =some (some t)→σ[m]? =some (some x)→Owns H t x b→∃ t',δ[m]? =some (some t')∧Owns H t' x b:=fun m t x b e e' o=>by
  by_cases hm:i=m
  ·subst hm
   rw [List.getElem?_set_self hl] at e;cases e
   rw [hs] at e';cases e'
   exact ⟨so,hi,ow b o⟩
  ·rw [List.getElem?_set_ne hm] at e
   exact ⟨t,e,o⟩
 refine ⟨⟨h.fr.ext,fun b z=>⟨h.fr.sub b z,fun e=> ?_⟩,fun b z=>h.fr.wl b z.1,h.fr.wl0⟩,by simp [h.len],fun j s e=> ?_,fun j l s1 s2 u u' b hjl e1 e2 e3 e4 os ot=> ?_⟩
 ·obtain ⟨ys,z',_⟩:=h.fr.wl0 _ z
  rw [(h2.owns (oN _ e)).2.1] at z';cases z'
 ·by_cases hj:i=j
  ·subst hj
   rw [List.getElem?_set_self hl] at e
   cases e
   exact ⟨_,hs,hd⟩
  ·rw [List.getElem?_set_ne hj] at e
   obtain ⟨v,g1,g2⟩:=h.at' j s e
   exact ⟨v,g1,g2.mv h.fr.wl kk hw fun b o e1 h1' _ h3' _=>⟨⟨h1',fun z=>h.ap i j _ _ _ _ b hj hi e hs g1 (oN b z) e1⟩,h3'⟩⟩
 ·obtain ⟨t1,g1,o1⟩:=back j s1 u b e1 e3 os
  obtain ⟨t2,g2,o2⟩:=back l s2 u' b e2 e4 ot
  exact h.ap j l t1 t2 u u' b hjl g1 g2 e3 e4 o1 o2
def chD:Ch→D
 | .d x=>x
 | .l ds=> .lst ds
 | .q ks ds=> .dct ks ds
def chL:Ch→Bool
 | .q _ _=>false
 |_=>true
theorem StHas.demoteQ {i:Nat} {ks:List Key} {cs:List Ch} (h:StHas K W₀ H₀ W H σ δ) (hi:δ[i]? =some (some (.k (.dct ks) cs))) (hL:cs.all chL=true):
  ∃ W':WS,(∀ b,W' b→W b)∧StHas K W₀ H₀ W' H σ (δ.set i (some (.q ks (cs.map chD)))):=by
 obtain ⟨v,hs,a,ob,rfl,h1,h2,h3,h4,h5,h6⟩:=h.at' i _ hi
 cases ob with
 |dK kvs=>
  have hk:kvs.map (·.1)=ks:=h2
  refine ⟨fun b=>W b∧¬ ∃ (j:Nat) (c:Ch),cs[j]? =some c∧ChO c∧(kvs.map (·.2))[j]? =some (V.ref b),fun b z=>z.1,h.demote (N:=fun b=>∃ (j:Nat) (c:Ch),cs[j]? =some c∧ChO c∧(kvs.map (·.2))[j]? =some (V.ref b)) hi hs (fun b ⟨j,c,e1,co,e2⟩=> .inr ⟨a,_,j,c,rfl,h1,e1,co,e2⟩) ?_ (fun b o=> .inl ⟨trivial,o⟩)⟩
  have na:¬ ∃ (j:Nat) (c:Ch),cs[j]? =some c∧ChO c∧(kvs.map (·.2))[j]? =some (V.ref a):=fun ⟨j,c,e1,co,e2⟩=>(h5 j c a e1 co e2).1 rfl
  refine ⟨a,kvs,rfl,⟨(h3 trivial).1,na⟩,(h3 trivial).2,h1,hk,?_⟩
  have hl:cs.length=(kvs.map (·.2)).length:=h4
  have kk:Keep W H H:=fun _ _ e _=>e
  have hw:∀ b,(W b∧¬ ∃ (j:Nat) (c:Ch),cs[j]? =some c∧ChO c∧(kvs.map (·.2))[j]? =some (V.ref b))→W b∨H b=none:=fun b z=> .inl z.1
  have el:∀ (j:Nat) (c:Ch) (x:V),cs[j]? =some c→(kvs.map (·.2))[j]? =some x→Has K (fun b=>W b∧¬ ∃ (j:Nat) (c:Ch),cs[j]? =some c∧ChO c∧(kvs.map (·.2))[j]? =some (V.ref b)) H (chD c) x:=fun j c x e1 e2=>by
   have hc:=h6 j c x e1 e2
   cases c with
   |d y=>exact Has.keep kk h.fr.wl hw hc
   |l ds=>
    obtain ⟨b,xs,rfl,f1,f2,f3,f4⟩:=hc
    show Has _ _ _ (.lst ds) _
    rw [Has]
    exact ⟨b,xs,rfl, .inl ⟨f3,fun z=>z.2 ⟨j,_,e1,trivial,e2⟩⟩,HasL.keep kk h.fr.wl hw f4⟩
   |q ks' ds=>
    have:=List.all_eq_true.mp hL _ (List.mem_of_getElem? e1)
    cases this
  generalize (fun b=>W b∧¬ ∃ (j:Nat) (c:Ch),cs[j]? =some c∧ChO c∧(kvs.map (·.2))[j]? =some (V.ref b))=W' at*
  generalize kvs.map (·.2)=vs at*
  clear na hw h4 h5 h6 hL h2 hk h3 hi
  induction cs generalizing vs with
  |nil=>
   cases vs with
   |nil=>exact HasL.nil
   |cons _ _=>cases hl
  |cons c cs ih=>
   cases vs with
   |nil=>cases hl
   |cons x vs=>
    exact HasL.cons (el 0 c x rfl rfl) (ih vs (by simpa using hl) fun j c x e1 e2=>el (j+1) c x (by simpa using e1) (by simpa using e2))
 |_=>exact h2.elim
end
section
variable {X:Cx} {xw:XW} {pins:List (Addr×Obj)} {σ:L2.St} {H:Hp} {s:Shared} {e:Expr} {f:DSt→Res D}
theorem _root_.L2.Inv.thaw {a:Addr} {o:Obj} {kvs:List (Key×V)} (I:Inv X pins σ H s) (ha:H a=some (.frz o (.dK kvs))) (h1:∀ o u,X.H₀ a≠some (.frz o u)) (h2:∀ xs,X.H₀ a≠some (.tup xs)) (h3:∀ ps,X.H₀ a≠some (.tbl ps)):Inv X pins σ (upd H a (.dK kvs)) s:=by
 have ne:∀ {b:Addr},H b=none→b≠a:=fun {b} e z=>by rw [z,ha] at e;cases e
 have st:∀ {b:Addr} {u:HO},ObjOk X.prog X.w H s.heap b u→ObjOk X.prog X.w (upd H a (.dK kvs)) s.heap b u:=fun {b u} x=>x.stay (fun _ _ _ q=>q)
  (fun c e=>by rw [upd_ne (fun z=>by rw [z,ha] at e;cases e)];exact e) fun c xs e=>by rw [upd_ne (fun z=>by rw [z,ha] at e;cases e)];exact e
 refine ⟨I.ok,I.os,I.bare,⟨I.base.keep,I.base.slot,fun b u e n x=> ?_,I.base.there,fun b xs e=> ?_,fun b u v e=> ?_,fun b ps e=> ?_⟩,I.loc,I.cell,by rw [upd_ne (ne I.free)];exact I.free,fun x c e=>by rw [upd_ne (ne (I.freeC x c e))];exact I.freeC x c e,fun p hp=> ?_,fun b u e=> ?_,I.len⟩
 ·have:=I.base.free b u e n x
  rw [upd_ne (ne this)];exact this
 ·rw [upd_ne (fun z=>by rw [z] at e;exact h2 xs e)];exact I.base.tups b xs e
 ·rw [upd_ne (fun z=>by rw [z] at e;exact h1 _ _ e)];exact I.base.frzs b u v e
 ·rw [upd_ne (fun z=>by rw [z] at e;exact h3 _ e)];exact I.base.tbls b ps e
 ·obtain ⟨g1,g2,g3⟩:=I.pin p hp
  exact ⟨g1,by rw [upd_ne (ne g2)];exact g2,g3⟩
 ·by_cases hb:b=a
  ·rw [hb,upd_same] at e
   cases e
   rw [hb]
   exact st (I.hok a _ ha).2
  ·rw [upd_ne hb] at e
   exact st (I.hok b u e)
def viewS:S→Option D
 | .q ks ds=>some (.dct ks ds)
 | .k (.dct ks) cs=>if cs.all chL=true then some (.dct ks (cs.map chD)) else none
 |_=>none
def viewE (i:Nat) (f:DSt→Res D):DSt→Res D:=fun δ=>match δ[i]? with
 |some (some s)=>match viewS s with
  |some d=>match f (δ.set i (some (.d d))) with
   | .ok x=>if flatD x=true then .ok x else .stuck
   |_=> .stuck
  |none=> .stuck
 |_=> .stuck
theorem view_step {i:Nat} {W₀ W:WS} {H₀:Hp} {δ:DSt} {sl:S} {d:D} (I:Inv X pins σ H s) (st:StHas X.K W₀ H₀ W H σ δ) (hi:δ[i]? =some (some sl)) (hv:viewS sl=some d):
  ∃ (a:Addr) (kvs:List (Key×V)) (o:Obj) (W':WS),H a=some (.dK kvs)∧(∀ b,W' b→W b)∧Inv X pins σ (upd H a (.frz o (.dK kvs))) s∧StHas X.K W₀ H₀ W' (upd H a (.frz o (.dK kvs))) σ (δ.set i (some (.d d))):=by
 have main:∀ {W:WS} {δ:DSt} {ks:List Key} {ds:List D},StHas X.K W₀ H₀ W H σ δ→δ[i]? =some (some (.q ks ds))→∃ (a:Addr) (kvs:List (Key×V)) (o:Obj) (W':WS),H a=some (.dK kvs)∧(∀ b,W' b→W b)∧Inv X pins σ (upd H a (.frz o (.dK kvs))) s∧StHas X.K W₀ H₀ W' (upd H a (.frz o (.dK kvs))) σ (δ.set i (some (.d (.dct ks ds)))):=by
  intro W δ ks ds st h
  obtain ⟨v,e,a,kvs,rfl,r2,r3,r4,r5,r6⟩:=st.at' i _ h
  have ok:=I.hok _ _ r4
  obtain ⟨z,hS,vs,rel,dd⟩:=id ok
  obtain ⟨o,es,ep,ho,_⟩:=dd
  exact ⟨a,kvs,o,_,r4,fun b z=>z.1,I.write (x:=a) (e:=a) (o:= .frz o (.dK kvs)) (h':=s.heap) (t':=s.toks) (by rw [r4];exact trivial) (.inl rfl) (fun b' u hb hu=>hu) ⟨_,ho⟩ ⟨ho,ok⟩,st.frzQ o h e r2 r5 r6⟩
 cases sl with
 |q ks ds=>cases hv;exact main st hi
 |k t cs=>
  cases t with
  |dct ks=>
   unfold viewS at hv
   dsimp only at hv
   split at hv
   ·rename_i hL
    cases hv
    obtain ⟨W',hw,st'⟩:=st.demoteQ hi hL
    have hl:i<δ.length:=(List.getElem?_eq_some_iff.mp hi).1
    obtain ⟨a,kvs,o,W2,g1,g2,g3,g4⟩:=main st' (List.getElem?_set_self hl)
    rw [List.set_set] at g4
    exact ⟨a,kvs,o,W2,g1,fun b z=>hw b (g2 b z),g3,g4⟩
   ·cases hv
  |_=>cases hv
 |_=>cases hv
theorem x_view (i:Nat) (h:XE X xw e f):XE X xw e (viewE i f):=⟨fun pins s σ H Q I ⟨W₀,H₀,W,δ,st,q⟩=>by
 unfold viewE at q
 split at q
 ·rename_i sl hi
  split at q
  ·rename_i d hv
   split at q
   ·rename_i x hf
    split at q
    ·rename_i fl
     obtain ⟨a,kvs,o,W',ha,hw,I',st'⟩:=view_step I st hi hv
     refine thn (h.h pins s σ _ (fun v H2=>Same (upd H a (.frz o (.dK kvs))) H2∧Has X.K W' H2 x v) I' ⟨W₀,H₀,W',_,st',?_⟩) fun u s' ⟨v,H2,I2,rv,k2,hx⟩=> ?_
     ·rw [hf]
      exact fun v H2 k2 hx=>⟨k2,hx⟩
     ·have h2:H2 a=some (.frz o (.dK kvs)):=k2 _ _ upd_same
      refine ⟨v,upd H2 a (.dK kvs),I2.thaw h2 (fun o u z=>by have:=I.base.frzs _ _ _ z;rw [ha] at this;cases this) (fun xs z=>by have:=I.base.tups _ _ z;rw [ha] at this;cases this) (fun ps z=>by obtain ⟨m,this⟩:=I.base.tbls _ _ z;rw [ha] at this;cases this),rv,q v _ (fun b u e=> ?_) (flat_any hx fl)⟩
      by_cases hb:b=a
      ·rw [hb] at e ⊢;rw [upd_same,←ha];exact e
      ·rw [upd_ne hb]
       exact k2 _ _ (by rw [upd_ne hb];exact e)
    ·exact q.elim
   ·exact q.elim
  ·exact q.elim
 ·exact q.elim⟩
end
end L3
namespace L3
open PySem PySem.Spec PyProof.Rows L2
abbrev IsZipG (h:Heap) (z TI TO:Addr) (f0:Value) (f1:Bool):Prop:=
 h.get? z=some {cls:= .type "zip",dict:=none,data:= .fields #[f0, .bool f1, .bool false, .ref TI, .ref TO],slots:= #[]}
section
variable {prog:Program} {w:World} {A:Around} {E:Value→Shared→Prop} {s:Shared} {z TI TO i1 i2:Addr} {f1 f2:List Addr} {n1 n2 k:Nat} {P1 P2:Nat→Value→Prop} {S1 S2:Nat→Heap→Prop}
end
def ZSt (t1 t2:Bool) (h:Heap) (z TI TO i1 i2 l1 l2 N:Addr) (k:Nat):Prop:=IsPair h TI (.ref i1) (.ref i2)∧SqI t1 h i1 l1 k∧SqI t2 h i2 l2 k∧
 ((k=0∧IsZip h z TI TO .none∧∃ a b,IsPair h TO a b)∨∃ (c:Addr) (oc:Obj) (f:Bool),IsZipG h z TI TO (rawInt c) f∧h.get? c=some oc∧c≠z∧c≠i1∧c≠i2∧c≠N)
structure ZN (z TI TO i1 i2 l1 l2 N:Addr):Prop where
 za:ZA z TI TO i1 i2 [i1,l1] [i2,l2]
 n1:l1≠i1
 n2:l2≠i2
 nz:N≠z
 nT:N≠TI
 nO:N≠TO
 m1:N≠i1
 m2:N≠i2
 k1:N≠l1
 k2:N≠l2
theorem ZSt.keep {t1 t2:Bool} {h h':Heap} {z TI TO i1 i2 l1 l2 N:Addr} {k:Nat} (x:ZSt t1 t2 h z TI TO i1 i2 l1 l2 N k) (n:ZN z TI TO i1 i2 l1 l2 N) (up:∀ b o,b≠N→h.get? b=some o→h'.get? b=some o):ZSt t1 t2 h' z TI TO i1 i2 l1 l2 N k:=by
 obtain ⟨a1,a2,a3,a4⟩:=x
 refine ⟨up _ _ (Ne.symm n.nT) a1,a2.at' fun o e=>up _ _ (Ne.symm n.m1) e,a3.at' fun o e=>up _ _ (Ne.symm n.m2) e,?_⟩
 rcases a4 with ⟨e,hz,a,b,ho⟩|⟨c,oc,f,hz,hc,c1,c2,c3,c4⟩
 ·exact .inl ⟨e,up _ _ (Ne.symm n.nz) hz,a,b,up _ _ (Ne.symm n.nO) ho⟩
 ·exact .inr ⟨c,oc,f,up _ _ (Ne.symm n.nz) hz,up _ _ c4 hc,c1,c2,c3,c4⟩
section
variable {prog:Program} {w:World} {A:Around} {E:Value→Shared→Prop} {s:Shared} {z TI TO i1 i2 l1 l2 N:Addr} {k:Nat} {t1 t2:Bool} {xs ys:Array Value}
end
end L3
namespace L3
open PySem PySem.Spec PyProof.Rows L2
structure ZG (xs ys:Array Value) (lo:Addr) (h:Heap) (as:List Addr):Prop where
 rise:as.Pairwise (· < ·)
 above:∀ a∈as,lo<a
 pairs:∀ (j:Nat) (a:Addr),as[j]? =some a→∃ x y,xs[j]? =some x∧ys[j]? =some y∧IsPair h a x y
theorem ZG.there {xs ys:Array Value} {lo:Addr} {h:Heap} {as:List Addr} (g:ZG xs ys lo h as) {a:Addr} (ha:a∈as):a<h.objs.size:=by
 obtain ⟨j,hj⟩:=List.mem_iff_getElem?.mp ha
 obtain ⟨_,_,_,_,e⟩:=g.pairs j a hj
 exact Heap.lt_size e
section
variable {prog:Program} {w:World} {A:Around} {E:Value→Shared→Prop} {s:Shared} {R:Result→Shared→Prop} {z TI TO i1 i2 l1 l2 N:Addr} {t1 t2:Bool} {xs ys:Array Value}
end
section
variable {X:Cx} {xw:XW} {a b:Expr} {fs:DSt→Res (List D)} {p p2 pos pos2:Pos}
end
end L3
namespace L3
open PySem PySem.Spec PyProof.Rows L2 SeqAt
section
variable {X:Cx} {xw:XW} {pos p pos' spos:Pos} {a:Expr} {fa:DSt→Res D}
end
section
variable {X:Cx} {xw:XW} {e:Expr} {f:DSt→Res Bool}
end
end L3
namespace L3
open PySem PySem.Spec PyProof.Rows L2 SeqAt
section
variable {X:Cx} {xw:XW} {e ie:Expr} {f fi:DSt→Res D} {pos:Pos}
def kIx:List Key→Key→Option Nat
 | [],_=>none
 |k::ks,x=>if k=x then some 0 else (kIx ks x).map (· +1)
theorem kIx_get {α:Type} {x:Key}:∀ {kvs:List (Key×α)} {j:Nat},kIx (kvs.map (·.1)) x=some j→∃ v,tGet kvs x=some v∧(kvs.map (·.2))[j]? =some v
 | [],_,e=>by cases e
 |p::kvs,j,e=>by
  unfold kIx at e
  rw [List.map_cons] at e
  dsimp only at e
  by_cases hk:p.1=x
  ·rw [if_pos hk] at e
   cases e
   exact ⟨p.2,tGet_pos hk,rfl⟩
  ·rw [if_neg hk] at e
   cases h:kIx (kvs.map (·.1)) x with
   |none=>rw [h] at e;cases e
   |some i=>
    rw [h] at e
    cases e
    obtain ⟨v,g1,g2⟩:=kIx_get h
    exact ⟨v,by rw [tGet_neg hk];exact g1,by simpa using g2⟩
theorem val_readS {σ:L2.St} {H:Hp} {W₀ W:WS} {H₀:Hp} {δ:DSt} {k:D→Out} {Dn:Ends} {R:V→Hp→Prop} (st:StHas X.K W₀ H₀ W H σ δ) (q:RS X.K xw W₀ H₀ W H (ofR (f δ) k) Dn)
  (h:∀ H2 d v,Same H H2→StHas X.K W₀ H₀ W H2 σ δ→Has X.K W H2 d v→RS X.K xw W₀ H₀ W H2 (k d) Dn→R v H2):tDE X.K xw f σ H R:=by
 refine ⟨W₀,H₀,W,δ,st,?_⟩
 cases h1:f δ with
 |stuck=>rw [h1] at q;exact q
 |ex c fs=>rw [h1] at q;exact fun H' k'=>q H' (st.fr.ext.trans k')
 |ok d=>
  rw [h1] at q
  exact fun v H2 k2 hv=>h H2 d v k2 (st.same k2) hv (RS.step (o:=k d) q (Step.same k2))
def apK (i:Nat) (f:DSt→Res D) (δ:DSt) (ks:List Key) (cs:List Ch) (kd:D):Out:=match keyD kd with
 |some k=>match kIx ks k with
  |some j=>match cs[j]? with
   |some (.l ds)=>if ds.length≤100000 then ofR (f δ) fun d=> .nx (δ.set i (some (.k (.dct ks) (cs.set j (.l (ds++ [d])))))) else .stuck
   |_=> .stuck
  |none=> .stuck
 |none=> .stuck
def sAppK (i:Nat) (fi f:DSt→Res D):DSt→Out:=fun δ=>match δ[i]? with
 |some (some (.k (.dct ks) cs))=>ofR (fi δ) (apK i f δ ks cs)
 |_=> .stuck
theorem s_appK (i:Nat) {x:Str} {p1 p2 p3 p4:Pos} (hi:XE X xw ie fi) (he:XE X xw e f) (hs:PlainIx ie:=by intro _ _;rfl) (hN:X.N[i]? =some x:=by rfl) (hv:Vis X.env.scope x:=by first|exact Or.inl rfl|exact Or.inr (Or.inl rfl)|exact Or.inr (Or.inr rfl)) (hd:(x==("__debug__":Str))=false:=by decide)
  (hcd:(x==("__classdict__":Str))=false:=by decide)
  (hsE:starEach [e] X.env=(false,eval e X.env)::starEach [] X.env:=by rfl)
  (hbase:attributeBase (.Subscript (.Name x p1) ie p4) "append" X.env (eval (.Subscript (.Name x p1) ie p4) X.env)=eval (.Subscript (.Name x p1) ie p4) X.env:=by rfl)
  (hfew:((backTo p3 (starEach [e] X.env)).all (fun x=> !x.1)&&(backToKw p3 (keywordEach [] X.env)).all (fun x=>x.1.isSome)
   &&decide (([e]:List Expr).length+([]:List Keyword).length+(if ([]:List Keyword).isEmpty then 0 else 1)<30))=true:=by rfl)
  (hline:(p2.endLine==p3.line)=true:=by rfl) (hplain:(backTo p3 (starEach [] X.env)).any (·.1)=false:=by rfl)
  (hsw:swapsWith (.Call (.Attribute (.Subscript (.Name x p1) ie p4) "append" p2) [e] [] p3) none pos.line X.env=pure false:=by rfl):
  XS X xw (.Expr (.Call (.Attribute (.Subscript (.Name x p1) ie p4) "append" p2) [e] [] p3) pos) (sAppK i fi f):=
 ⟨PS.weak (ps_expr (pe_bm PySem.F.plainAttrs_list PySem.F.slot_list_append PySem.F.type_list_append mt_append (pe_dget (pe_var hN hv hd hcd) hi.h hs) (pa_cons he.h pa_nil hsE) hbase hfew hline hsE hplain) hsw) fun Dn σ H ⟨W₀,H₀,W,δ,st,q⟩=>by
  unfold sAppK at q
  split at q
  ·rename_i ks cs h
   obtain ⟨v,e1,a,ob,rfl,_⟩:=st.at' i _ h
   refine ⟨_,e1,?_⟩
   refine val_read st q fun H2 kd y st2 hy q2=> ?_
   unfold apK at q2
   split at q2
   ·rename_i k hk
    split at q2
    ·rename_i j hj
     split at q2
     ·rename_i ds hc
      split at q2
      ·rename_i hlen
       obtain ⟨v2,e2,a2,ob2,e',r1,r2,r3,r4,r5,r6⟩:=st2.at' i _ h
       rw [e1] at e2
       cases e2
       cases e'
       cases ob2 with
       |dK kvs=>
        have hks:kvs.map (·.1)=ks:=r2
        obtain ⟨z,g1,g2⟩:=kIx_get (kvs:=kvs) (by rw [hks];exact hj)
        obtain ⟨b,xs,rfl,f1,f2,f3,f4⟩:=r6 j _ z hc g2
        refine ⟨a,kvs,k, .ref b,rfl, .inl r1,keyD_has (.inl hy) hk,g1, .inl ⟨rfl,xs, .of f3⟩,?_⟩
        refine val_readS st2 q2 fun H3 d u k3 st3 hu q3=> ?_
        have sz:sizeLine=16777216:=sizeLine_eq
        have f3':=k3 _ _ f3
        have f4':=HasL.keep (Same.keep k3) st2.fr.wl (fun b z=> .inl z) f4
        refine ⟨b,xs,u,rfl,rfl,f3',?_,?_⟩
        ·rw [←f4.length];omega
        ·refine q3 W _ σ ⟨fun c o e n=> ?_,fun _ z=> .inl z⟩ (st3.innerK (c':= .l (ds++ [d])) h e1 (k3 _ _ r1) hc trivial g2 trivial trivial fun h0 hw kk=>⟨b,xs++ [u],rfl,hw,h0,upd_same,HasL.keep kk st3.fr.wl (fun b z=> .inl z) (f4'.snoc hu)⟩)
         rw [upd_ne (fun z=>n (by rw [z];exact f1))];exact e
       |_=>exact r2.elim
      ·exact q2.elim
     ·exact q2.elim
    ·exact q2.elim
   ·exact q2.elim
  ·exact q.elim⟩
def rDL3 (t1 t2 t3:TE):TE:=fun σ H Q=>∀ d,H d=none→t1 σ (upd H d (.dK [])) fun x1 H1=>∀ c1,H1 c1=none→t2 σ (upd H1 c1 (.lst [])) fun x2 H2=>∀ c2,H2 c2=none→t3 σ (upd H2 c2 (.lst [])) fun x3 H3=>∀ c3,H3 c3=none→
 ∃ k1 k2 k3,x1=kV k1∧x2=kV k2∧x3=kV k3∧k1≠k2∧k1≠k3∧k2≠k3∧upd H3 c3 (.lst []) d=some (.dK [])∧Q (.ref d) (upd (upd H3 c3 (.lst [])) d (.dK [(k1, .ref c1),(k2, .ref c2),(k3, .ref c3)]))
theorem pe_dl3 {a1 a2 a3:Expr} {p0 p1 p2 p3:Pos} {t1 t2 t3:TE} (h1:PE X a1 t1) (h2:PE X a2 t2) (h3:PE X a3 t3):PE X (.Dict [some a1,some a2,some a3] [.List [] p1, .List [] p2, .List [] p3] p0) (rDL3 t1 t2 t3):=by
 intro pins s σ H Q I h
 have big:sysModules<s.heap.objs.size:=by
  have h:mainGlobals<s.heap.objs.size:=(I.mod.glob.keeps I.bk).lt
  exact Nat.lt_trans (by decide) h
 refine wpAny_Dict_walk (knd:=mixKind X.prog X.w) rfl rfl (by simp) (by simp) ?_
 have I0:=I.laid (a:=s.heap.objs.size) (o:= .dK []) (t':=s.toks) (fun _ _ q=>Heap.get?_push_of_some _ q) (Nat.le_refl _) (dk_empty s.heap big)
 have nl:∀ {p:Pos},PE X (.List [] p) (tLst L2.tNil):=pe_lst pa_nil
 refine pairTrees_cons_walk (thn (h1 pins _ σ _ _ I0 (h _ I.fresh)) fun u1 s1 ⟨x1,H1,I1,r1,q1⟩=>thn (nl pins s1 σ H1 (fun v H'=>∃ c,v= .ref c∧H1 c=none∧H'=upd H1 c (.lst [])) I1 ⟨Nat.zero_le _,fun c hc=>⟨c,rfl,hc,rfl⟩⟩) fun w1 s1' ⟨y1,H1',I1',ry1,c1,e1,n1,g1⟩=> ?_)
 subst e1 g1
 refine pairTrees_cons_walk (thn (h2 pins _ σ _ _ I1' (q1 c1 n1)) fun u2 s2 ⟨x2,H2,I2,r2,q2⟩=>thn (nl pins s2 σ H2 (fun v H'=>∃ c,v= .ref c∧H2 c=none∧H'=upd H2 c (.lst [])) I2 ⟨Nat.zero_le _,fun c hc=>⟨c,rfl,hc,rfl⟩⟩) fun w2 s2' ⟨y2,H2',I2',ry2,c2,e2,n2,g2⟩=> ?_)
 subst e2 g2
 refine pairTrees_cons_walk (thn (h3 pins _ σ _ _ I2' (q2 c2 n2)) fun u3 s3 ⟨x3,H3,I3,r3,q3⟩=>thn (nl pins s3 σ H3 (fun v H'=>∃ c,v= .ref c∧H3 c=none∧H'=upd H3 c (.lst [])) I3 ⟨Nat.zero_le _,fun c hc=>⟨c,rfl,hc,rfl⟩⟩) fun w3 s3' ⟨y3,H3',I3',ry3,c3,e3,n3,g3⟩=>pairTrees_nil_walk ?_)
 subst e3 g3
 obtain ⟨k1,k2,k3,rfl,rfl,rfl,k12,k13,k23,hd,q⟩:=q3 c3 n3
 obtain ⟨_,hS,vs,rkv,dof⟩:=I3'.hok _ _ hd
 have hvs:vs= []:=by cases rkv;rfl
 subst hvs
 refine ⟨[(k1,w1),(k2,w2),(k3,w3)],?_,dof,fun h' hd' sb=> ?_⟩
 ·exact ⟨rel_key r1,rfl,rel_key r2,rfl,rel_key r3,rfl,trivial⟩
 ·have em:merged ([]:List (Key×Value)) [(k1,w1),(k2,w2),(k3,w3)]= [(k1,w1),(k2,w2),(k3,w3)]:=by
   exact merged_nil_of_nodup _ (by simp [k12,k13,k23])
  rw [em] at hd'
  obtain ⟨o,es,ep,e,rr⟩:=id hd'
  refine ⟨.ref _,_,I3'.write (x:=s.heap.objs.size) (e:=s.heap.objs.size) (by rw [hd];exact trivial) (.inl rfl) (fun b' u hb hu=>(sb.2 b' hb).trans hu) ⟨_,e⟩ ?_,rfl,q⟩
  exact ⟨by show 3≤sizeLine;rw [sizeLine_eq];decide,hS,_, .cons ⟨rfl,ry1⟩ (.cons ⟨rfl,ry2⟩ (.cons ⟨rfl,ry3⟩ .nil)),hd'⟩
def sDL3 (i:Nat) (a b c:Str):DSt→Out:=fun δ=> .nx (δ.set i (some (.k (.dct [.inr a, .inr b, .inr c]) [.l [], .l [], .l []])))
theorem s_dl3 (i:Nat) {x a b c:Str} {a1 a2 a3:Expr} {p0 p1 p2 p3 pos':Pos} (h1:XE X xw a1 (kD (.str a))) (h2:XE X xw a2 (kD (.str b))) (h3:XE X xw a3 (kD (.str c))) (hN:X.N.Nodup) (hab:a≠b:=by decide) (hac:a≠c:=by decide) (hbc:b≠c:=by decide) (hi:X.N[i]? =some x:=by rfl) (hx:Loc X.env.scope x:=by first|exact Or.inl rfl|exact Or.inr rfl)
  (hs:swapsWith (.Dict [some a1,some a2,some a3] [.List [] p1, .List [] p2, .List [] p3] p0) (some (.Name x pos')) pos.line X.env=pure false:=by rfl)
  (hf:X.fn x=true∨X.env.scope.names.lookup x=some .local:=by first|exact .inl rfl|exact .inr rfl|assumption):XS X xw (.Assign [.Name x pos'] (.Dict [some a1,some a2,some a3] [.List [] p1, .List [] p2, .List [] p3] p0) pos) (sDL3 i a b c):=
 ⟨PS.weak (ps_set hN hi hx (pe_dl3 h1.h h2.h h3.h) hs hf) fun Dn σ H ⟨W₀,H₀,W,δ,st,q⟩=>by
  intro d hd
  have k0:Same H (upd H d (.dK [])):=same_upd hd
  refine ⟨W₀,H₀,W,δ,st.same k0,fun x1 H1 m1 hx1 c1 n1=> ?_⟩
  have k1:Same H1 (upd H1 c1 (.lst [])):=same_upd n1
  refine ⟨W₀,H₀,W,δ,((st.same k0).same m1).same k1,fun x2 H2 m2 hx2 c2 n2=> ?_⟩
  have k2:Same H2 (upd H2 c2 (.lst [])):=same_upd n2
  refine ⟨W₀,H₀,W,δ,((((st.same k0).same m1).same k1).same m2).same k2,fun x3 H3 m3 hx3 c3 n3=> ?_⟩
  have k3:Same H3 (upd H3 c3 (.lst [])):=same_upd n3
  rw [Has] at hx1 hx2 hx3
  have d1:H1 d=some (.dK []):=m1 _ _ upd_same
  have d2:H2 d=some (.dK []):=m2 _ _ (k1 _ _ d1)
  have d3:H3 d=some (.dK []):=m3 _ _ (k2 _ _ d2)
  have b2:H2 c1=some (.lst []):=m2 _ _ upd_same
  have b3:H3 c1=some (.lst []):=m3 _ _ (k2 _ _ b2)
  have g3:H3 c2=some (.lst []):=m3 _ _ upd_same
  have s3:Same H H3:=k0.trans (m1.trans (k1.trans (m2.trans (k2.trans m3))))
  have nd1:c1≠d:=fun z=>by rw [z,d1] at n1;cases n1
  have nd2:c2≠d:=fun z=>by rw [z,d2] at n2;cases n2
  have nd3:c3≠d:=fun z=>by rw [z,d3] at n3;cases n3
  have n12:c2≠c1:=fun z=>by rw [z,b2] at n2;cases n2
  have n13:c3≠c1:=fun z=>by rw [z,b3] at n3;cases n3
  have n23:c3≠c2:=fun z=>by rw [z,g3] at n3;cases n3
  have f1:H c1=none:=Same.free (k0.trans m1) n1
  have f2:H c2=none:=Same.free (k0.trans (m1.trans (k1.trans m2))) n2
  have f3:H c3=none:=Same.free s3 n3
  refine ⟨.inr a, .inr b, .inr c,hx1,hx2,hx3,fun z=>hab (Sum.inr.inj z),fun z=>hac (Sum.inr.inj z),fun z=>hbc (Sum.inr.inj z),by rw [upd_ne (Ne.symm nd3)];exact d3,?_⟩
  generalize hH:upd (upd H3 c3 (.lst [])) d (.dK [(.inr a, .ref c1),(.inr b, .ref c2),(.inr c, .ref c3)])=H'
  have e0:H' d=some (.dK [(.inr a, .ref c1),(.inr b, .ref c2),(.inr c, .ref c3)]):=by rw [←hH];exact upd_same
  have e1:H' c1=some (.lst []):=by rw [←hH,upd_ne nd1,upd_ne (Ne.symm n13)];exact b3
  have e2:H' c2=some (.lst []):=by rw [←hH,upd_ne nd2,upd_ne (Ne.symm n23)];exact g3
  have e3:H' c3=some (.lst []):=by rw [←hH,upd_ne nd3];exact upd_same
  have kk:Same H H':=fun y o e=>by
   rw [←hH,upd_ne (ne_of_none e hd)]
   exact k3 _ _ (s3 _ _ e)
  clear hH
  have q':RS X.K xw W₀ H₀ W H (.nx (δ.set i (some (.k (.dct [.inr a, .inr b, .inr c]) [.l [], .l [], .l []])))) Dn:=q
  have ow:∀ y,Owns H' (.k (.dct [.inr a, .inr b, .inr c]) [.l [], .l [], .l []]) (.ref d) y→y=d∨y=c1∨y=c2∨y=c3:=fun y o=>by
   rcases o with ⟨_,o⟩|⟨a',ob,j,ch,z,g,z1,_,z2⟩
   ·cases o;exact .inl rfl
   ·cases z
    rw [e0] at g
    cases g
    match j with
    |0=>cases z2;exact .inr (.inl rfl)
    |1=>cases z2;exact .inr (.inr (.inl rfl))
    |2=>cases z2;exact .inr (.inr (.inr rfl))
    |j+3=>cases z2
  have nn:∀ y,(y=d∨y=c1∨y=c2∨y=c3)→H y=none∧∃ ob,H' y=some ob∧MutO ob:=fun y hy=>by
   rcases hy with rfl|rfl|rfl|rfl
   ·exact ⟨hd,_,e0,trivial⟩
   ·exact ⟨f1,_,e1,trivial⟩
   ·exact ⟨f2,_,e2,trivial⟩
   ·exact ⟨f3,_,e3,trivial⟩
  have st1:=st.ownS (i:=i) (a:=d) (sl:= .k (.dct [.inr a, .inr b, .inr c]) [.l [], .l [], .l []]) (N:=fun y=>y=d∨y=c1∨y=c2∨y=c3) kk nn ⟨d,_,rfl,e0,rfl,fun _=>⟨.inr (.inl rfl),Same.free st.fr.ext hd⟩,rfl,?_,?_⟩ (fun y o=>(nn y (ow y o)).1)
  ·exact q' _ _ _ ⟨fun y o e _=>kk _ _ e,fun y z=>z.elim .inl fun z=> .inr (nn y z).1⟩ st1
  ·intro j ch y z1 _ z2
   have key:∀ (j:Nat) (y:Addr),(hoVs (.dK [(.inr a, .ref c1),(.inr b, .ref c2),(.inr c, .ref c3)]))[j]? =some (.ref y)→(j=0∧y=c1)∨(j=1∧y=c2)∨(j=2∧y=c3):=fun j y z=>by
    match j with
    |0=>cases z;exact .inl ⟨rfl,rfl⟩
    |1=>cases z;exact .inr (.inl ⟨rfl,rfl⟩)
    |2=>cases z;exact .inr (.inr ⟨rfl,rfl⟩)
    |j+3=>cases z
   refine ⟨?_,fun m ch' hm _ _ z3=> ?_⟩
   ·rcases key j y z2 with ⟨_,rfl⟩|⟨_,rfl⟩|⟨_,rfl⟩<;>assumption
   ·rcases key j y z2 with ⟨rfl,rfl⟩|⟨rfl,rfl⟩|⟨rfl,rfl⟩<;>rcases key m _ z3 with ⟨rfl,z⟩|⟨rfl,z⟩|⟨rfl,z⟩<;>first|exact hm rfl|exact absurd z (by assumption)|exact absurd z.symm (by assumption)
  ·intro j ch y z1 z2
   match j with
   |0=>cases z1;cases z2;exact ⟨c1,[],rfl, .inr (.inr (.inl rfl)),Same.free st.fr.ext f1,e1,HasL.nil⟩
   |1=>cases z1;cases z2;exact ⟨c2,[],rfl, .inr (.inr (.inr (.inl rfl))),Same.free st.fr.ext f2,e2,HasL.nil⟩
   |2=>cases z1;cases z2;exact ⟨c3,[],rfl, .inr (.inr (.inr (.inr rfl))),Same.free st.fr.ext f3,e3,HasL.nil⟩
   |j+3=>cases z1⟩
def qK (i:Nat) (δ:DSt):DSt:=match δ[i]? with
 |some (some (.k (.dct ks) cs))=>if cs.all chL=true then δ.set i (some (.q ks (cs.map chD))) else δ
 |_=>δ
def sFrzK (i:Nat) (g:DSt→Out):DSt→Out:=fun δ=>sFrz i g (qK i δ)
theorem s_frzK (i:Nat) {st:Stmt} {g:DSt→Out} (h:XS X xw st g):XS X xw st (sFrzK i g):=⟨fun pins s σ H Dn I ⟨W₀,H₀,W,δ,st,q⟩=>(s_frz i h).h pins s σ H Dn I (by
 have q':RS X.K xw W₀ H₀ W H (sFrz i g (qK i δ)) Dn:=q
 unfold qK at q'
 split at q'
 ·rename_i ks cs h
  split at q'
  ·rename_i hL
   obtain ⟨W',k,st2⟩:=st.demoteQ h hL
   exact ⟨W₀,H₀,W',_,st2,RS.less k q'⟩
  ·exact ⟨W₀,H₀,W,δ,st,q'⟩
 ·exact ⟨W₀,H₀,W,δ,st,q'⟩)⟩
end
end L3
namespace L3
open PySem PySem.Spec PyProof.Rows L2
theorem enumS_new (t:Bool) (l:Addr) (xs:Array Value) (tk:Tok):Meets (Builtin.«enumerate.__new__» ⟨[.type "enumerate", .ref l],[("start", .int 1 tk)]⟩) (fun _ R s=>IsSq t s.heap l xs∧R (.ok (.ret (.ref (eh1 t s.heap l).objs.size))) {s with heap:=(eh1 t s.heap l).push {cls:= .type "enumerate",data:= .fields #[.none, .bool false, .ref s.heap.objs.size,rawInt 1, .none, .none]}}):=
 .of_wp fun prog w A R s h=>by
  obtain ⟨hp,g,d,tk,os⟩:=s;obtain ⟨q,h⟩:=h
  have hsub:=sub_enumerate
  have e1:IsSq t (Shared.heap ⟨hp,g,d,tk,os⟩) l xs:=q
  wp_walk
  refine wpAny_stack_any fun st=>wpAny_pure ?_
  split
  ·rename_i c _ _ _ _ _
   cases (c==Value.type "enumerate")
   ·wp_walk using sq_iter e1
    exact ⟨_,rfl,h⟩
   ·wp_walk using sq_iter e1
    exact ⟨_,rfl,h⟩
  ·wp_walk using sq_iter e1
   exact ⟨_,rfl,h⟩
theorem enumS_init {self a k:Value}:Meets (Builtin.«object.__init__» ⟨[self,a],[("start",k)]⟩) (fun _ R s=>s.TypeIs self "enumerate"∧R (.ok (.ret .none)) s):=by
 have hl:=F.called_enumerate.init.lookup
 have hm:=F.called_enumerate.made
 have hne:(some "enumerate.__new__" != some "object.__new__")=true:=by decide
 refine Meets.of_wp fun prog w A R s ⟨hT,hq⟩=> ?_
 repeat (any_goals (first|wp_step|assumption))
 exact ⟨_,rfl,hq⟩
section
variable {prog:Program} {w:World} {A:Around} {E:Value→Shared→Prop} {s:Shared}
theorem enumS_type {a v:Value} {S:PySem.Spec} {Q:Value→Shared→Prop} (g:Meets (Builtin.«enumerate.__new__» ⟨[.type "enumerate",a],[("start",v)]⟩) S) (h:S A.in1 (wants (fun obj s₁=>s₁.TypeIs obj "enumerate"∧Q obj s₁) E) s):
  wpAny (model prog w) A (call (.type "enumerate") [a] [("start",v)]) Q E s:=by
 have ft:=F.called_enumerate
 obtain ⟨c,tl,m1⟩:=ft.mro
 have m2:=ft.made;have m3:=ft.sub;have m4:=ft.notType;have m5:=ft.canCreate
 have m6:checkTypeCall "enumerate" ⟨[a],[("start",v)]⟩=pure ():=by kernel_rfl
 have m7:checkBuiltinCall "enumerate.__new__" ⟨[.type "enumerate",a],[("start",v)]⟩=pure ():=by kernel_rfl
 refine wpAny_call (codeAny_of_tree (show wpAny _ _ (callAny (.type "enumerate") _) _ _ _ from wpAny_pure ⟨Code.quiet_builtin _ (by decide +kernel),codeAny_builtin F.entry_type_call ?_⟩))
 rw [Around.under_plain (weight_type_call_type "enumerate" [a] [("start",v)]) (units_type_call_type "enumerate" [a] [("start",v)])]
 repeat (any_goals (first|wp_step|assumption))
 refine codeAny_mono (codeAny_call_builtin ft.plain F.entry_enumerate_new (wpAny_of_eq m7 (g prog w A.in1 _ s h))) fun r s1 hr=> ?_
 cases r with
 |error e=>exact hr
 |ok fl=>
  cases fl with
  |ret obj=>
   obtain ⟨hT,hQ⟩:=hr
   have m8:=ft.init.lookup;have m9:=ft.init.bind obj
   have ok:argsOk "object.__init__" ⟨[obj,a],[("start",v)]⟩:=by first|exact F.args_object_init_kw|kernel_rfl|(intro _ _;kernel_rfl)|decide +kernel
   repeat (any_goals (first|wp_step|assumption))
   refine codeAny_mono (codeAny_call_builtin ft.init.plain F.entry_object_init (ft.init.check _ _ _ _ _ _ _ _ hT ok (enumS_init prog w A.in1 (wants (fun r s2=>r= .none∧Q obj s2) E) s1 ⟨hT,rfl,hQ⟩))) fun r2 s2 hr2=> ?_
   cases r2 with
   |error e=>exact hr2
   |ok f2=>
    cases f2 with
    |ret z=>
     obtain ⟨rfl,hq⟩:=hr2
     repeat (any_goals (first|wp_step|assumption))
    |_=>exact hr2.elim
  |_=>exact hr.elim
end
end L3
namespace L3
open PySem PySem.Spec PyProof.Rows L2
def IteS (K : PySem.W.Frag) (t : Bool) (l : Addr) : It :=
  ⟨fun i H => ∃ xs x, SqK t K H l xs ∧ xs[i]? = some x,
   fun i H v H' => ∃ p x, v = .ref p ∧ H p = none ∧ H' = upd H p (.tup [.int ((i + 1 : Nat) : Int), x]) ∧ ∀ xs, SqK t K H l xs → xs[i]? = some x,
   fun i H => ∃ xs, SqK t K H l xs ∧ i = xs.length⟩
theorem draws_up {prog:Program} {w:World} {A:Around} {it:Addr} {fp:List Addr} {n:Nat} {P:Nat→Value→Prop} {St:Nat→Heap→Prop} (D:Draws prog w A it fp n P St):
  Draws prog w A it fp (n+1) (fun i x=>P (i-1) x) (fun i h=>∃ j,i=j+1∧St j h) where
 live:=fun i h ⟨j,_,z⟩=>D.live j h z
 frame:=fun i h h' ⟨j,e,z⟩ k=>⟨j,e,D.frame j h h' z k⟩
 item:=fun i s Q E hi ⟨j,e,z⟩ hQ=>by
  subst e
  exact D.item j s Q E (by omega) z fun x h' tk px st sb=>hQ x h' tk px ⟨j+1,rfl,st⟩ sb
 done:=fun s Q E ⟨j,e,z⟩ hE=>by
  have:n=j:=by omega
  subst this
  exact D.done s Q E z hE
theorem enumS_call {prog:Program} {w:World} {A:Around} {E:Value→Shared→Prop} {s:Shared} {t:Bool} {l:Addr} {xs:Array Value} {tk:Tok} {Q:Value→Shared→Prop} (q:IsSq t s.heap l xs)
  (h:∀ n h',n=s.heap.objs.size→IsEnum h' (n+1) n ((0+1:Nat):Int) .none→SqI t h' n l 0→(∀ c o,s.heap.get? c=some o→h'.get? c=some o)→Q (.ref (n+1)) {s with heap:=h'}):
  wpAny (model prog w) A (call (.type "enumerate") [.ref l] [("start", .int 1 tk)]) Q E s:=by
 refine enumS_type (enumS_new t l xs tk) ⟨q,?_⟩
 have z1:(eh1 t s.heap l).objs.size=s.heap.objs.size+1:=Heap.size_push ..
 have g2:=Heap.get?_push_size (eh1 t s.heap l) (o:= {cls:= .type "enumerate",data:= .fields #[.none, .bool false, .ref s.heap.objs.size,rawInt 1, .none, .none]}) rfl
 have f1:(itO t l).isFreed=false:=by cases t<;>rfl
 have g1:((eh1 t s.heap l).push {cls:= .type "enumerate",data:= .fields #[.none, .bool false, .ref s.heap.objs.size,rawInt 1, .none, .none]}).get? s.heap.objs.size=some (itO t l):=Heap.get?_push_of_some _ (Heap.get?_push_size _ f1)
 show _∧_
 rw [z1] at g2 ⊢
 refine ⟨⟨_,g2,rfl⟩,h _ _ rfl g2 ?_ fun c o e=>Heap.get?_push_of_some _ (Heap.get?_push_of_some _ e)⟩
 cases t with
 |true=>exact ⟨_,g1,rfl,rfl⟩
 |false=>exact ⟨_,g1,rfl,rfl⟩
theorem turn_enumS {P:Program} {w:World} {K:PySem.W.Frag} {elts:List Expr} {kt:Nat} {pt:Pos} {t:Bool} {e it l:Addr} (n1:l≠it) (n2:e≠it) (n3:e≠l):
  Turn P w K (.Tuple elts kt pt) (IteS K t l) [e,it] e (fun i h=>(∃ old,IsEnum h e it ((i+1:Nat):Int) old)∧SqI t h it l i) where
 mem:=by simp
 obj:=fun i h st b hb=>by
  obtain ⟨⟨old,he⟩,s1⟩:=st
  simp only [List.mem_cons,List.not_mem_nil,or_false] at hb
  rcases hb with rfl|rfl
  ·exact ⟨_,he,fun v q=>nomatch q⟩
  ·obtain ⟨o,vs,e,d⟩:=s1.rec
   exact ⟨o,e,fun v q=>by rw [d] at q;cases q⟩
 keep:=fun i h h' st k=>by
  obtain ⟨⟨old,he⟩,s1⟩:=st
  exact ⟨⟨old,k e (by simp) _ he⟩,s1.at' fun o q=>k it (by simp) o q⟩
 item:=by
  intro X hP hw hK hc i pins s σ H E I hf st hg
  subst hP hw hK
  obtain ⟨⟨old,he⟩,s1⟩:=st
  obtain ⟨xs,x,q1,e1⟩:=hg
  obtain ⟨it1,r1,p1,_⟩:=inv_sq I q1
  obtain ⟨u1,hu1,ru1⟩:=r1.get e1
  have hef:e∉ [it,l]:=by simp only [List.mem_cons,List.not_mem_nil,or_false,not_or];exact ⟨n2,n3⟩
  have hlt:i<it1.toArray.size:=by
   rcases Nat.lt_or_ge i it1.length with z|z
   ·simpa using z
   ·rw [List.getElem?_eq_none z] at hu1;cases hu1
  refine wpAny_pyNext_enum_itemD (draws_up (drawsS (show X.A.in1.handled=none from I.ok.hd hc) t it l n1 it1.toArray)) he ⟨i,rfl,s1,p1⟩ (Nat.succ_lt_succ hlt) n2 hef fun x' h1 tk px eo st1 nw sz kk=>⟨_,rfl,?_⟩
  have px':it1[i]? =some x':=by simpa using px
  rw [hu1] at px';cases px'
  refine wpAny_letOwnedTupleGo_enum (s:= {s with heap:=h1,toks:=tk+1}) eo fun h2 e2 c2=> ?_
  have le:e<s.heap.objs.size:=Heap.lt_size he
  have lit:it<s.heap.objs.size:=by obtain ⟨o,_,q,_⟩:=s1.rec;exact Heap.lt_size q
  have up:∀ b o,b≠e→h1.get? b=some o→h2.get? b=some o:=fun b o ne q=>c2.extBut _ _ ne q
  obtain ⟨j,ej,st2⟩:=st1
  have:j=i+1:=by omega
  subst this
  refine ⟨.ref s.heap.objs.size,upd H s.heap.objs.size (.tup [.int ((i+1:Nat):Int),x]),?_,rfl,⟨_,x,rfl,I.hok.fresh (Nat.le_refl _),rfl,fun zs hs=>by rw [inv_sq_inj I hs q1];exact e1⟩,⟨⟨_,e2⟩,st2.1.at' fun o q=>up _ _ (Ne.symm n2) q⟩,fun b hb=> ?_⟩
  ·show Inv X pins σ (upd H s.heap.objs.size (.tup [.int ((i+1:Nat):Int),x])) {s with heap:=h2,toks:=tk+1}
   refine inv_turnT (ch:= [e,it]) (t':=tk+1) I hf (fun b o hb q=> ?_) (Nat.le_refl _) (.cons (by exact ⟨tk,rfl⟩) (.cons ru1 .nil)) (show (2:Nat)≤sizeLine by rw [sizeLine_eq];decide) ⟨_,up _ _ (Nat.ne_of_gt le) nw,rfl,_,rfl⟩
   simp only [List.mem_cons,List.not_mem_nil,or_false,not_or] at hb
   exact up _ _ hb.1 (kk b o hb.1 hb.2 q)
  ·have hb1:=(hf b hb).1
   have:b<s.heap.objs.size:=by
    simp only [List.mem_cons,List.not_mem_nil,or_false] at hb
    rcases hb with rfl|rfl
    ·exact le
    ·exact lit
   rw [upd_ne (Nat.ne_of_lt this)];exact hb1
 done:=by
  intro X hP hw hK hc i pins s σ H E I hf st hg
  subst hP hw hK
  obtain ⟨⟨old,he⟩,s1⟩:=st
  obtain ⟨xs,q1,rfl⟩:=hg
  obtain ⟨it1,r1,p1,_⟩:=inv_sq I q1
  have hsz:xs.length=it1.toArray.size:=by simp [r1.length]
  rw [hsz] at s1 he
  refine wpAny_pyNext_enum_endD (drawsS (show X.A.in1.handled=none from I.ok.hd hc) t it l n1 it1.toArray) he ⟨s1,p1⟩ fun h1 k=>⟨rfl,?_⟩
  refine inv_turns (ch:= [e,it]) (t':=s.toks) I hf fun b o hb q=> ?_
  simp only [List.mem_cons,List.not_mem_nil,or_false,not_or] at hb
  exact k b o hb.2 q
 self:=fun _ _ _ _ _ st h=>let ⟨⟨_,he⟩,_⟩:=st;wpAny_pyIter_enum he h
section
variable {X:Cx} {xw:XW} {elts:List Expr} {kt:Nat} {pt p kp pos:Pos} {a b:Expr} {fs:DSt→Res (List D)}
def iEnumS (K:PySem.W.Frag) (ta:TA):TI:=fun σ H R=>ta σ H fun vs H1=>∃ t l xs,vs= [.ref l]∧SqK t K H1 l xs∧R (IteS K t l) H1
theorem pi_enumS {ta:TA} (hg:Gl X "enumerate") (hm:X.mg "enumerate"=none) (ha:PA X [a] ta) (hb:PE X b (tC (.int 1))) (hs:starEach [a] X.env= [(false,eval a X.env)])
  (he:eval (.Call (.Name "enumerate" p) [a] [⟨some "start",b,kp⟩] pos) X.env=(do callWith pos (←eval (.Name "enumerate" p) X.env) [] (backTo pos (starEach [a] X.env)) (backToKw pos (keywordEach [⟨some "start",b,kp⟩] X.env))):=by rfl)
  (hk:keywordEach [⟨some "start",b,kp⟩] X.env= [(some ("start":Str),eval b X.env)]:=by rfl):
  PI X (.Tuple elts kt pt) (.Call (.Name "enumerate" p) [a] [⟨some "start",b,kp⟩] pos) (iEnumS X.K ta):=by
 intro pins s σ H R I h
 rw [he,hk]
 refine wpAny_bind (ld_blt I hg hm (show bootBuiltins "enumerate"=some (.type "enumerate") by decide +kernel) ?_)
 refine PySem.W.callWith_of (P:=fun _=>True) ?_ (fun h _=>⟨.machine, .inr (.inl rfl), .now⟩) ?_
 ·rw [hs];rfl
 ·rw [hs]
  refine evalArgs_kw (by rfl) ?_
  have ha':=ha pos pins s σ H _ I h
  rw [hs] at ha'
  refine thn ha' fun us s1 ⟨vs,H1,I1,r1,t,l,xs,e,q1,q⟩=> ?_
  subst e
  obtain ⟨u1,rfl,ru1⟩:=r1.one
  cases (show u1=Value.ref l from ru1)
  refine wpAny_evalAll_cons (wpAny_bind (thn (hb pins s1 σ H1 (fun v H'=>v= .int 1∧H'=H1) I1 ⟨rfl,rfl⟩) fun u s2 ⟨v,H2,I2,rv,ev,eh⟩=>wpAny_bind (wpAny_standAt (wpAny_pure (wpAny_evalAll_nil ⟨trivial,?_⟩)))))
  subst ev eh
  obtain ⟨tk,rfl⟩:=rv
  obtain ⟨it1,v1,p1,_⟩:=inv_sq I2 q1
  have a1:=p1.lt
  refine enumS_call p1 fun n h' hn he s1' kk=>wpAny_pyIter_enum he ?_
  subst hn
  have J:Inv X pins σ H2 {s2 with heap:=h'}:=I2.kept (t':=s2.toks) fun c o e=>kk c o e
  refine ⟨s2.heap.objs.size+1,[s2.heap.objs.size+1,s2.heap.objs.size],_,_,H2,rfl,J,turn_enumS (t:=t) (Nat.ne_of_lt a1) (Nat.ne_of_gt (Nat.lt_succ_self _)) (Nat.ne_of_gt (Nat.lt_succ_of_lt a1)),⟨⟨_,he⟩,s1'⟩,fun c hc=> ?_,q⟩
  have hcs:s2.heap.objs.size≤c:=by
   simp only [List.mem_cons,List.not_mem_nil,or_false] at hc
   rcases hc with rfl|rfl
   ·exact Nat.le_succ _
   ·exact Nat.le_refl _
  exact I2.fpOk hcs (I2.hok.fresh hcs)
def enumSR (ds:List D):Res (List D):=match ds with
 | [x]=>match itemsD x with
  |some xs=> .ok (enumD 1 xs)
  |_=> .stuck
 |_=> .stuck
theorem i_enumS {elts:List Expr} {kt:Nat} {pt:Pos} {fs:DSt→Res (List D)} (hm:X.mg "enumerate"=none) (ha:XA X xw [a] fs) (hb:PE X b (tC (.int 1)):=by exact pe_int) (hg:Gl X "enumerate":=by rfl) (hs:starEach [a] X.env= [(false,eval a X.env)]:=by rfl)
  (he:eval (.Call (.Name "enumerate" p) [a] [⟨some "start",b,kp⟩] pos) X.env=(do callWith pos (←eval (.Name "enumerate" p) X.env) [] (backTo pos (starEach [a] X.env)) (backToKw pos (keywordEach [⟨some "start",b,kp⟩] X.env))):=by rfl)
  (hk:keywordEach [⟨some "start",b,kp⟩] X.env= [(some ("start":Str),eval b X.env)]:=by rfl):
  XI X xw (.Tuple elts kt pt) (.Call (.Name "enumerate" p) [a] [⟨some "start",b,kp⟩] pos) (b1 enumSR fs):=
 ⟨PI.weak (pi_enumS hg hm ha.h hb hs he hk) fun σ H R ⟨W₀,H₀,W,δ,st,q⟩=>by
  refine ⟨W₀,H₀,W,δ,st,?_⟩
  simp only [b1] at q
  cases h1:fs δ with
  |stuck=>rw [h1] at q;exact q
  |ex c gs=>rw [h1] at q;exact q
  |ok ds=>
   rw [h1] at q
   intro vs H1 k1 hv
   dsimp only [Res.bind] at q
   unfold enumSR at q
   split at q
   ·rename_i ds' hq
    split at hq
    ·rename_i x
     split at hq
     ·rename_i xs ex
      have e':enumD 1 xs=ds':=by cases hq;rfl
      subst e'
      rw [HasL] at hv
      obtain ⟨v1,r1,rfl,g1,hv⟩:=hv
      rw [HasL] at hv
      subst hv
      have w1:=st.fr.wl.same k1
      obtain ⟨t1,l1,xs1,rfl,r1,f1⟩:=sqk_of w1 g1 ex
      refine ⟨t1,l1,xs1,rfl,f1 W H1 Step.refl,q _ H1 k1 fun W' H2 k2 w2=> ?_⟩
      have c1:=f1 W' H2 k2
      refine ⟨fun i d e=> ?_,xs1,c1,by rw [enumD_len,r1.length]⟩
      obtain ⟨x0,e1,rfl⟩:=enumD_get e
      obtain ⟨x1,o1,hx1⟩:=r1.get e1
      refine ⟨⟨xs1,x1,c1,o1⟩,fun u H3 ⟨p0,x2,e2,hp,e3,z1⟩=> ?_⟩
      subst e2 e3
      have:=z1 xs1 c1
      rw [o1] at this;cases this
      refine ⟨same_upd hp,?_⟩
      rw [Has]
      have hx2:=(Has.keep k2.keep w1 k2.new hx1).same (same_upd (o:= .tup [.int ((i+1:Nat):Int),x1]) hp) w2
      refine ⟨p0,[.int ((i+1:Nat):Int),x1],rfl, .of upd_same,HasL.cons ?_ (HasL.cons hx2 HasL.nil)⟩
      rw [Has,Nat.add_comm]
     ·cases hq
    ·cases hq
   ·rename_i hq
    split at hq
    ·split at hq<;>cases hq
    ·cases hq
   ·exact q.elim⟩
end
end L3
namespace L3
open PySem PySem.Spec PyProof.Rows L2 SeqAt
section
variable {X:Cx} {xw:XW} {pos p p2 apos cpos:Pos} {a b e o:Expr} {f fa fb:DSt→Res D} {fs:DSt→Res (List D)}
def rStarts:V→List V→Hp→VK→Prop:=fun x vs H Q=>∃ z y,x= .str z∧vs= [.str y]∧Q (.bl (PySem.Txt.startswith z y)) H
theorem mt_starts:MtR X "str.startswith" rStarts:=by
 intro pins s σ H x vs v us Q I rx rv h
 obtain ⟨z,y,rfl,rfl,q⟩:=h
 obtain ⟨t,rfl⟩:=rx
 obtain ⟨u',rfl,ru⟩:=rv.one
 obtain ⟨u,rfl⟩:=ru
 exact PySem.SC.startswith ⟨.bl _,H,I,rfl,q⟩
def startsR (z:Str):List D→Res D
 | [.str y]=> .ok (.bl (PySem.Txt.startswith z y))
 |_=> .stuck
theorem x_starts (ho:XE X xw o f) (ha:XA X xw [e] fs)
  (hbase:attributeBase o "startswith" X.env (eval o X.env)=eval o X.env:=by rfl)
  (hfew:((backTo cpos (starEach [e] X.env)).all (fun x=> !x.1)&&(backToKw cpos (keywordEach [] X.env)).all (fun x=>x.1.isSome)
   &&decide (([e]:List Expr).length+([]:List Keyword).length+(if ([]:List Keyword).isEmpty then 0 else 1)<30))=true:=by rfl)
  (hline:(apos.endLine==cpos.line)=true:=by rfl) (hs:starEach [e] X.env=(false,eval e X.env)::starEach [] X.env:=by rfl) (hplain:(backTo cpos (starEach [] X.env)).any (·.1)=false:=by rfl):
  XE X xw (.Call (.Attribute o "startswith" apos) [e] [] cpos) (bM startsR f fs):=
 ⟨PE.weak (pe_bm (T:="str") F.plainAttrs_str F.slot_str_startswith F.type_str_startswith mt_starts ho.h ha.h hbase hfew hline hs hplain) fun σ H Q ⟨W₀,H₀,W,δ,st,q⟩=>by
  unfold bM at q
  refine ⟨W₀,H₀,W,δ,st,?_⟩
  cases h1:f δ with
  |stuck=>rw [h1] at q;exact q
  |ex c fs=>rw [h1] at q;exact q
  |ok d=>
   rw [h1] at q
   intro v H1 k1 hv
   cases d with
   |str z=>
    rw [Has] at hv
    subst hv
    have q':RE X.K xw W H ((fs δ).bind (startsR z)) Q:=q
    refine ⟨rfl,W₀,H₀,W,δ,st.same k1,?_⟩
    cases h2:fs δ with
    |stuck=>rw [h2] at q';exact q'
    |ex c gs=>rw [h2] at q';exact fun H2 k2=>q' H2 (k1.trans k2)
    |ok ds=>
     rw [h2] at q'
     intro vs H2 k2 hvs
     have q2:RE X.K xw W H (startsR z ds) Q:=q'
     unfold startsR at q2
     split at q2
     ·rename_i y
      rw [HasL] at hvs
      obtain ⟨y',r,rfl,hy,hr⟩:=hvs
      rw [HasL] at hr
      rw [Has] at hy
      subst hr hy
      exact ⟨z,y,rfl,rfl,q2 _ H2 (k1.trans k2) (by rw [Has])⟩
     ·exact q2.elim
   |_=>exact q.elim⟩
def EntG {α:Type} (w:World) (R:Value→α→Prop) (e:DictEntry) (p:Str×α):Prop:=e.hash=keyH w (.inr p.1)∧(∃ t,e.key= .str p.1 t)∧R e.val p.2
theorem tab_pairsG {α:Type} {R:Value→α→Prop} {P:Program} {w:World}:∀ {es:List DictEntry} {l:List (Str×α)},Paired (EntG w R) es l→∃ vs:List (Key×Value),Pairs (mixKind P w) es vs∧vs.map (·.1)=l.map (fun p=>Sum.inr p.1)∧
  (∀ k,match l.lookup k with|some v=>∃ u,valueAt vs (.inr k)=some u∧R u v|none=>valueAt vs (.inr k)=none)∧∀ e∈es,∃ k,(mixKind P w).is k e.key=true∧e.hash=(mixKind P w).hash k
 | [],_,h=>by
  cases h
  exact ⟨[], .nil,rfl,fun k=>rfl,fun e he=>by simp at he⟩
 |e::es,_,h=>by
  cases h with
  |@cons _ p _ l h1 h2=>
   obtain ⟨vs,g1,g2,g3,g4⟩:=tab_pairsG (P:=P) h2
   obtain ⟨k1,⟨t,k2⟩,k3⟩:=h1
   have hk:(mixKind P w).is (.inr p.1) e.key=true:=by rw [k2];exact mixKind_str P w _ _
   refine ⟨(.inr p.1,e.val)::vs, .cons hk rfl g1,by rw [List.map_cons,List.map_cons,g2],fun k=> ?_,fun e' he=> ?_⟩
   ·rw [show p=(p.1,p.2) from rfl,List.lookup_cons]
    cases hb:k==p.1 with
    |true=>
     have:=eq_of_beq hb
     subst this
     exact ⟨e.val,by simp [valueAt,List.find?_cons],k3⟩
    |false=>
     have ne:¬ p.1=k:=fun z=>by rw [z] at hb;simp at hb
     have ev:valueAt ((Sum.inr p.1,e.val)::vs) (Sum.inr k:Key)=valueAt vs (.inr k):=by simp [valueAt,List.find?_cons,ne]
     rw [ev]
     exact g3 k
   ·rcases List.mem_cons.mp he with rfl|he
    ·exact ⟨_,hk,k1⟩
    ·exact g4 e' he
structure GlobG {α:Type} (R:Value→α→Prop) (w:World) (K:PySem.W.Frag) (mg:Str→Option Value) (x:Str) (l:List (Str×α)):Prop where
 h:∃ (ad:Addr) (o:Obj) (es:Array DictEntry) (n:Nat),mg x=some (.ref ad)∧K.lookup ad=some o∧o.ExactDict∧o.data= .dict es n∧Paired (EntG w R) es.toList l∧(l.map (·.1)).Nodup∧(ad==sysModules)=false
theorem globG_at {α:Type} {R:Value→α→Prop} {w:World} {l:List (Str×α)} {P:Program} {ad:Addr} {o:Obj} {es:Array DictEntry} {n:Nat} {hp:Heap} (hx:hp.get? ad=some o) (h3:o.ExactDict) (h4:o.data= .dict es n) (h5:Paired (EntG w R) es.toList l) (h6:(l.map (·.1)).Nodup):
  ∃ vs,hp.DictOf (mixKind P w) ad vs∧∀ k,match l.lookup k with|some v=>∃ u,valueAt vs (.inr k)=some u∧R u v|none=>valueAt vs (.inr k)=none:=by
 obtain ⟨vs,g1,g2,g3,g4⟩:=tab_pairsG (P:=P) h5
 refine ⟨vs,⟨o,es,n,hx,h3,h4,fun e he=>g4 e (Array.mem_toList_iff.mpr he),g1,?_⟩,g3⟩
 rw [g2,show (l.map (fun p=>(Sum.inr p.1:Key)))=(l.map (·.1)).map Sum.inr by rw [List.map_map];rfl]
 exact List.Pairwise.map _ (fun _ _ h z=>h (Sum.inr.inj z)) h6
def ninTR {α:Type} (l:List (Str×α)):D→Res D
 | .str k=> .ok (.bl (!(l.lookup k).isSome))
 |_=> .stuck
theorem op_ninG {α:Type} {R:Value→α→Prop} {l:List (Str×α)} {ad:Addr} {o:Obj} {es:Array DictEntry} {n:Nat} (h2:X.K.lookup ad=some o) (h3:o.ExactDict) (h4:o.data= .dict es n) (h5:Paired (EntG X.w R) es.toList l) (h6:(l.map (·.1)).Nodup) (h7:(ad==sysModules)=false):
  OpR X (compareOp .NotIn) (fun y x H Q=>∃ k,x= .ref ad∧y= .str k∧Q (.bl (!(l.lookup k).isSome)) H):=by
 intro pins s σ H y x u v Q I ry rx h
 obtain ⟨k,rfl,rfl,q⟩:=h
 cases rx
 obtain ⟨vs,dd,g⟩:=globG_at (P:=X.prog) (I.kIn ad o h2) h3 h4 h5 h6
 refine wpAny_notIn_of (key_is (k:= .inr k) ry) h7 dd.mapOf ⟨.bl (!(l.lookup k).isSome),H,I.tok _,?_,q⟩
 have:=g k
 cases hl:l.lookup k with
 |none=>rw [hl] at this;rw [this];rfl
 |some v=>rw [hl] at this;obtain ⟨u,e,_⟩:=this;rw [e];rfl
theorem y_ninG {α:Type} {R:Value→α→Prop} {x:Str} {l:List (Str×α)} (hm:GlobG R X.w X.K X.mg x l) (ha:XP X xw a fa) (hmk:behindInMarks .NotIn (.Name x p)=false:=by rfl) (hg:Gl X x:=by rfl) (hdb:(x==("__debug__":Str))=false:=by decide):
  XT X xw (.Compare a [.NotIn] [.Name x p] pos) (tR (b1 (ninTR l) fa)):=⟨by
 obtain ⟨ad,o,es,n,h1,h2,h3,h4,h5,h6,h7⟩:=hm.h
 refine DE.t_of (f:=b1 (ninTR l) fa) (PT.weak (pt_cmpR (op_ninG h2 h3 h4 h5 h6 h7) ha.h (pe_glob (v:= .ref ad) hg h1 rfl hdb) hmk) fun σ H Q ⟨W₀,H₀,W,δ,st,q⟩=> ?_)
 show tDP X.K xw fa σ H _
 refine one_read st q fun H2 d v k w st2 hv _ q2=> ?_
 unfold ninTR at q2
 cases d with
 |str k=>rw [hv.str];exact ⟨k,rfl,rfl,q2 _ _ (Same.refl _) (by rw [Has])⟩
 |_=>exact q2.elim⟩
def tabG {α:Type} (dd:α→D) (l:List (Str×α)):D→Res D
 | .str k=>match l.lookup k with
  |some v=> .ok (dd v)
  |none=> .stuck
 |_=> .stuck
def rIxGG {α:Type} (K:PySem.W.Frag) (ad:Addr) (dd:α→D) (l:List (Str×α)):R2:=fun x y H Q=>∃ k v,x= .ref ad∧y= .str k∧l.lookup k=some v∧∀ z,(∀ W H,Has K W H (dd v) z)→Q z H
theorem pe_ggetG {α:Type} {R:Value→α→Prop} {dd:α→D} {ta tb:TE} {ad:Addr} {l:List (Str×α)} {o:Obj} {es:Array DictEntry} {n:Nat} (h2:X.K.lookup ad=some o) (h3:o.ExactDict) (h4:o.data= .dict es n) (h5:Paired (EntG X.w R) es.toList l) (h6:(l.map (·.1)).Nodup)
  (hR:∀ u v,R u v→∃ z,L2.RelV z u∧∀ W H,Has X.K W H (dd v) z) (ha:PE X a ta) (hb:PE X b tb) (hs:PlainIx b):PE X (.Subscript a b pos) (tOp (rIxGG X.K ad dd l) ta tb):=by
 intro pins s σ H Q I h
 refine Subscript_ (binT ha hb I h fun v u s2 x y H2 I2 rx ry q=> ?_)
 obtain ⟨k,z,rfl,rfl,hg,q⟩:=q
 cases rx
 obtain ⟨vs,dd',g⟩:=globG_at (P:=X.prog) (I2.kIn ad o h2) h3 h4 h5 h6
 have g':=g k
 rw [hg] at g'
 obtain ⟨uv,hw,hr⟩:=g'
 obtain ⟨zv,r1,r2⟩:=hR _ _ hr
 unfold subscriptTail
 refine wpAny_bind ?_
 rw [getitemInPython_of_ne dd'.typeIs.not_modules]
 refine wpAny_bind (wpAny_specialOf dd'.typeIs PySem.F.slot_dict_getitem.lookup ?_)
 have fin:wpAny (model X.prog X.w) X.A (subscripted b false (.ref ad) u) (fun r s₃=>wpAny (model X.prog X.w) X.A (letTemporaryGo a (.ref ad) r >>= fun _=>pure r) (EP X pins σ Q) X.xe s₃) X.xe s2:=by
  rw [hs (.ref ad) u]
  exact wpAny_operating (wpAny_getItem_of (key_is (k:= .inr k) ry) dd'.mapOf hw (wpAny_bind (wpAny_letTemporaryGo (wpAny_pure ⟨zv,H2,I2.tok _,r1,q zv r2⟩))))
 first
  |exact wpAny_pure (wpAny_bind fin)
  |exact wpAny_bind (wpAny_pure (wpAny_bind fin))
  |exact wpAny_bind fin
theorem x_ggetG {α:Type} {R:Value→α→Prop} {dd:α→D} {x:Str} {l:List (Str×α)} (hm:GlobG R X.w X.K X.mg x l) (hR:∀ u v,R u v→∃ z,L2.RelV z u∧∀ W H,Has X.K W H (dd v) z) (hb:XP X xw b fb) (hs:PlainIx b:=by intro _ _;rfl) (hg:Gl X x:=by rfl) (hdb:(x==("__debug__":Str))=false:=by decide):
  XE X xw (.Subscript (.Name x p) b pos) (b1 (tabG dd l) fb):=⟨by
 obtain ⟨ad,o,es,n,h1,h2,h3,h4,h5,h6,h7⟩:=hm.h
 refine PE.weak (pe_ggetG h2 h3 h4 h5 h6 hR (pe_glob (v:= .ref ad) hg h1 rfl hdb) hb.h hs) fun σ H Q ⟨W₀,H₀,W,δ,st,q⟩=> ?_
 show tDP X.K xw fb σ H _
 refine one_read st q fun H2 d v k w st2 hv _ q2=> ?_
 unfold tabG at q2
 cases d with
 |str k=>
  dsimp only at q2
  split at q2
  ·rename_i z hz
   rw [hv.str]
   exact ⟨k,z,rfl,rfl,hz,fun y hy=>q2 _ _ (Same.refl _) (hy _ _)⟩
  ·exact q2.elim
 |_=>exact q2.elim⟩
def RTxt:Value→Str→Prop:=fun u x=>∃ t,u= .str x t
def RTup (K:PySem.W.Frag):Value→List Str→Prop:=fun u xs=>∃ (c:Addr) (o:Obj) (its:Array Value) (n:Nat),u= .ref c∧K.lookup c=some o∧o.cls= .type "tuple"∧o.data= .seq its n∧its.size≤sizeLine∧Vals (xs.map V.str) its.toList
def dTup (xs:List Str):D:= .tup (xs.map D.str)
theorem x_ggetS {x:Str} {l:List (Str×Str)} (hm:GlobG RTxt X.w X.K X.mg x l) (hb:XP X xw b fb) (hs:PlainIx b:=by intro _ _;rfl) (hg:Gl X x:=by rfl) (hdb:(x==("__debug__":Str))=false:=by decide):
  XE X xw (.Subscript (.Name x p) b pos) (b1 (tabG D.str l) fb):=x_ggetG hm (fun u v ⟨t,e⟩=>⟨.str v,⟨t,e⟩,fun W H=>by rw [Has]⟩) hb hs hg hdb
theorem x_ggetT {x:Str} {l:List (Str×List Str)} (hm:GlobG (RTup X.K) X.w X.K X.mg x l) (hb:XP X xw b fb) (hs:PlainIx b:=by intro _ _;rfl) (hg:Gl X x:=by rfl) (hdb:(x==("__debug__":Str))=false:=by decide):
  XE X xw (.Subscript (.Name x p) b pos) (b1 (tabG dTup l) fb):=x_ggetG hm (fun u v ⟨c,o,its,n,e,g1,g2,g3,g4,g5⟩=>⟨.ref c,e,fun W H=>by
   unfold dTup
   rw [Has]
   exact ⟨c,v.map V.str,rfl, .inr ⟨o,its,n,g1,g2,g3,g4,g5⟩,vals_has v⟩⟩) hb hs hg hdb
end
end L3
namespace L3
open PySem PySem.Spec PyProof.Rows L2 SeqAt
open Builtin Builtin.Str
section
variable {X:Cx} {xw:XW} {pos p p2 apos cpos:Pos} {a b e o:Expr} {f fa fb:DSt→Res D} {fs:DSt→Res (List D)}
theorem range_any (bs:List Bool):(List.range bs.length).any (fun i=>bs.getD i false)=bs.any id:=by
 induction bs with
 |nil=>rfl
 |cons b bs ih=>
  rw [List.length_cons,List.range_succ_eq_map,List.any_cons,List.any_map,List.any_cons,←ih]
  rfl
theorem call_anyL (hc:X.calm=true):CallR X (.builtin "any") (fun xs H Q=>∃ W ds bs v,xs= [v]∧HasT X.K W H (.lst ds) v∧asBools ds=some bs∧Q (.bl (bs.any id)) H):=by
 intro pins s σ H xs us Q I r h
 obtain ⟨W,ds,bs,v,rfl,hd,hb,q⟩:=h
 obtain ⟨u,rfl,rx⟩:=vals1 r
 obtain ⟨a,ys,rfl,sq,rl⟩:=hd.lst
 cases (show u=Value.ref a from rx)
 obtain ⟨its,rv,pl,hz⟩:=I.list sq
 have hlt:a<s.heap.objs.size:=by obtain ⟨_,e,_⟩:=pl.isList;exact Heap.lt_size e
 have hh:X.A.in1.handled=none:=I.ok.hd hc
 refine call_any_walk (wpAny_pyIter_list pl.isList ⟨s.heap.objs.size,_,_,_,_,_,fun i=>bs.getD i false,rfl,Walks.list hh s.heap.objs.size a (Nat.ne_of_lt hlt) its.toArray,⟨⟨_,Heap.get?_push_size _ rfl,rfl,rfl⟩,pl.isList.push _⟩,fun i v s' Q' E' hP hQ'=> ?_,fun h' tk hk=> ?_⟩)
 ·have hi:its[i]? =some v:=by simpa using hP
  have hil:i<ys.length:=by rw [rv.length];exact (List.getElem?_eq_some_iff.mp hi).1
  obtain ⟨x,e1⟩:∃ x,ys[i]? =some x:=⟨_,List.getElem?_eq_getElem hil⟩
  obtain ⟨d,e2,hx⟩:=rl.at' e1
  obtain ⟨b,rfl,e3⟩:=asBools_get hb e2
  rw [Has] at hx
  subst hx
  obtain ⟨w',e4,rw'⟩:=rv.get e1
  rw [hi] at e4;cases e4
  cases (show v=Value.bool b from rw')
  have:bs.getD i false=b:=by rw [List.getD_eq_getElem?_getD,e3];rfl
  dsimp only at hQ'
  rw [this] at hQ'
  exact wpAny_truthy_bool hQ'
 ·rw [show its.toArray.size=bs.length by rw [List.size_toArray,asBools_len hb,rl.length,rv.length],range_any]
  refine ⟨.bl _,H,I.kept (fun b o e=>hk b o (fun z=> ?_) (Heap.get?_push_of_some _ e)),rfl,q⟩
  have:b=s.heap.objs.size:=by simpa using z
  exact absurd (Heap.lt_size e) (by rw [this];exact Nat.lt_irrefl _)
def someR:D→Res D
 | .lst ds=>match asBools ds with
  |some bs=> .ok (.bl (bs.any id))
  |none=> .stuck
 |_=> .stuck
theorem x_any (hc:X.calm=true) (hm:X.mg "any"=none) (ha:XP X xw a fa) (hg:Gl X "any":=by rfl) (he:starEach [a] X.env=(false,eval a X.env)::starEach [] X.env:=by rfl) (hpl:(backTo pos (starEach [] X.env)).any (·.1)=false:=by rfl):
  XE X xw (.Call (.Name "any" p) [a] [] pos) (b1 someR fa):=
 ⟨de_callB1 (call_anyL hc) (fun W H d v Q w hv q=>by
  unfold someR at q
  split at q
  ·split at q
   ·rename_i hb
    exact ⟨W,_,_,v,rfl,hv,hb,q.bl⟩
   ·exact q.elim
  ·exact q.elim) hm (by decide +kernel) ha.h hg (by decide) (by decide) he hpl⟩
def rSplitB:V→List V→Hp→VK→Prop:=fun x vs H Q=>∃ z y,x= .str z∧vs= [.str y]∧(y.length==0)=false∧z.length≤100000∧(partsBetween z (occurrences z y 0 z.length (z.length+1)) y.length).length≤1000∧
 ∀ p,H p=none→Q (.ref p) (upd H p (.lst ((PySem.Txt.split z y).map V.str)))
theorem mt_splitB:MtR X "str.split" rSplitB:=by
 intro pins s σ H x vs v us Q I rx rv h
 obtain ⟨z,y,rfl,rfl,hy,hz,hp,q⟩:=h
 obtain ⟨t,rfl⟩:=rx
 obtain ⟨u',rfl,ru⟩:=rv.one
 obtain ⟨u,rfl⟩:=ru
 have hz':z.length≤sizeLine:=by rw [sizeLine_eq];omega
 have hp':=Nat.le_trans hp k1000
 have hs:=Nat.le_trans (split_len z y hp) k1000
 have one:PySem.Txt.split z y= [z]→∀ tk,EP X pins σ Q (.ref s.heap.objs.size) {s with heap:=s.heap.push {cls:= .type "list",data:= .seq [Value.str z t].toArray},toks:=tk}:=fun e tk=>by
  rw [e] at q
  exact ⟨.ref _,_,I.lnew (t':=tk) (ys:= [.str z]) (its:= [.str z t]) (.cons ⟨t,rfl⟩ .nil) (by rw [sizeLine_eq,List.length_singleton];decide),rfl,q _ I.fresh⟩
 cases h1:(decide (z.length<y.length)||decide (strKind z<strKind y))
 ·cases hf:(occurrences z y 0 z.length (z.length+1)).isEmpty
  ·refine call_meets F.slot_str_split (typeIs_str _ _ _) F.entry_str_split (F.args_str_split_2 _ _) (meets_str_split_sep z y t u h1 hy hf hz' hp') ?_
   have e:PySem.Txt.split z y=partsBetween z (occurrences z y 0 z.length (z.length+1)) y.length:=(if_neg (ne_true_of_eq_false h1)).trans (if_neg (ne_true_of_eq_false hf))
   rw [e] at q hs
   exact ⟨.ref _,_,I.lnew (vals_numbered s.toks _) (by rw [List.length_map];exact hs),rfl,q _ I.fresh⟩
  ·exact call_meets F.slot_str_split (typeIs_str _ _ _) F.entry_str_split (F.args_str_split_2 _ _) (meets_str_split_not_found z y t u h1 hy hf) (one ((if_neg (ne_true_of_eq_false h1)).trans (if_pos hf)) s.toks)
 ·exact call_meets F.slot_str_split (typeIs_str _ _ _) F.entry_str_split (F.args_str_split_2 _ _) (meets_str_split_cannot_occur z y t u h1) (one (if_pos h1) s.toks)
noncomputable def splitB (z:Str):List D→Res (List D)
 | [.str y]=>@ite (Res (List D)) ((y.length==0)=false∧z.length≤100000∧(partsBetween z (occurrences z y 0 z.length (z.length+1)) y.length).length≤1000) (Classical.propDecidable _) (.ok ((PySem.Txt.split z y).map D.str)) .stuck
 |_=> .stuck
theorem f_splitB (ho:XE X xw o f) (ha:XA X xw [e] fs)
  (hbase:attributeBase o "split" X.env (eval o X.env)=eval o X.env:=by rfl)
  (hfew:((backTo cpos (starEach [e] X.env)).all (fun x=> !x.1)&&(backToKw cpos (keywordEach [] X.env)).all (fun x=>x.1.isSome)
   &&decide (([e]:List Expr).length+([]:List Keyword).length+(if ([]:List Keyword).isEmpty then 0 else 1)<30))=true:=by rfl)
  (hline:(apos.endLine==cpos.line)=true:=by rfl) (hs:starEach [e] X.env=(false,eval e X.env)::starEach [] X.env:=by rfl) (hplain:(backTo cpos (starEach [] X.env)).any (·.1)=false:=by rfl):
  XF X xw (.Call (.Attribute o "split" apos) [e] [] cpos) (bM splitB f fs):=
 ⟨PE.weak (pe_bm (T:="str") F.plainAttrs_str F.slot_str_split F.type_str_split mt_splitB ho.h ha.h hbase hfew hline hs hplain) fun σ H Q ⟨W₀,H₀,W,δ,st,q⟩=>by
  unfold bM at q
  refine ⟨W₀,H₀,W,δ,st,?_⟩
  cases h1:f δ with
  |stuck=>rw [h1] at q;exact q
  |ex c fs=>rw [h1] at q;exact q
  |ok d=>
   rw [h1] at q
   intro v H1 k1 hv
   cases d with
   |str z=>
    rw [Has] at hv
    subst hv
    have q':RF X.K xw W H ((fs δ).bind (splitB z)) Q:=q
    refine ⟨rfl,W₀,H₀,W,δ,st.same k1,?_⟩
    cases h2:fs δ with
    |stuck=>rw [h2] at q';exact q'
    |ex c gs=>rw [h2] at q';exact fun H2 k2=>q' H2 (k1.trans k2)
    |ok ds=>
     rw [h2] at q'
     intro vs H2 k2 hvs
     have q2:RF X.K xw W H (splitB z ds) Q:=q'
     unfold splitB at q2
     split at q2
     ·rename_i y
      split at q2
      ·rename_i hz
       rw [HasL] at hvs
       obtain ⟨x,r,rfl,hx,hr⟩:=hvs
       rw [HasL] at hr
       rw [Has] at hx
       subst hr hx
       exact ⟨z,y,rfl,rfl,hz.1,hz.2.1,hz.2.2,fun p hp=>q2 p _ H2 (k1.trans k2) hp (vals_has _)⟩
      ·exact q2.elim
     ·exact q2.elim
   |_=>exact q.elim⟩
end
end L3
namespace G
open PySem PySem.Spec PyProof.Rows L2 L3
noncomputable def b__law_cell_at:DSt→Out:=(sSeq (sIf (tR (b2 ltR (slotP 1) (b1 lenR (slotP 0)))) (sRet (b2 ixR (slotP 0) (slotP 1))) Out.nx)
  (sRet (kD (.int 0))))
noncomputable def m__law_cell_at:List D→Res D:=runD 2 b__law_cell_at
noncomputable def l__law_lists_fit_1:DSt→Out:=(sIf (tOr2 (tNot1 (tR (b1 (isiR "tuple") (slotP 2)))) (tOr2 (tNot1 (tR (b1 (isiR "str") (b2 ixR (slotP 2) (kD (.int 0)))))) (tNot1 (tR (b1 (isiR "list") (b2 ixR (slotP 2) (kD (.int 1)))))))) (sRet (kD (.bl false))) Out.nx)
noncomputable def b__law_lists_fit:DSt→Out:=(sSeq (sIf (tOr2 (tNot1 (tR (b1 (isiR "list") (slotP 0)))) (tR (b2 neR (slotP 0) (slotP 1)))) (sRet (kD (.bl false))) Out.nx)
  (sSeq (sFor (setI 2) l__law_lists_fit_1 (b1 seqR (slotD 0)))
  (sRet (kD (.bl true)))))
noncomputable def m__law_lists_fit:List D→Res D:=runD 3 b__law_lists_fit
noncomputable def l__law_fits_1:DSt→Out:=(sIf (tOr2 (tNot1 (tR (b1 (isiR "int") (slotP 5)))) (tR (b1 (isiR "bool") (slotP 5)))) (sRet (kD (.bl false))) Out.nx)
noncomputable def b__law_fits:DSt→Out:=(sSeq (sIf (tOr2 (tNot1 (tR (b1 (isiR "tuple") (b1 (fldR "House" "rules") (slotD 0))))) (tR (b2 neR (b1 (fldR "House" "rules") (slotD 0)) (slotP 1)))) (sRet (kD (.bl false))) Out.nx)
  (sSeq (sFor (setI 5) l__law_fits_1 (b1 seqR (b1 (fldR "House" "rules") (slotD 0))))
  (sSeq (sIf (tOr2 (tNot1 (tR (b1 (isiR "list") (b1 (fldR "House" "doors") (slotD 0))))) (tR (b2 neR (b1 (fldR "House" "doors") (slotD 0)) (slotP 2)))) (sRet (kD (.bl false))) Out.nx)
  (sRet (vAnd (b1 (callR 2 m__law_lists_fit) (aCons (b1 (fldR "House" "wings") (slotD 0)) (aCons (slotD 3) aNil))) (b1 (callR 2 m__law_lists_fit) (aCons (b1 (fldR "House" "grants") (slotD 0)) (aCons (slotD 4) aNil))))))))
noncomputable def m__law_fits:List D→Res D:=runD 6 b__law_fits
noncomputable def b__law_mixed:DSt→Out:=(sSeq (sSet 2 (b2 modD (b2 mulE (b2 addD (b2 modD (slotP 0) (kD (.int 2147483647))) (kD (.int 7))) (b2 addD (kD (.int 48271)) (b2 mulE (kD (.int 2)) (slotP 1)))) (kD (.int 2147483629))))
  (sRet (b2 modD (b2 mulE (slotP 2) (slotP 2)) (kD (.int 2147483587)))))
noncomputable def m__law_mixed:List D→Res D:=runD 3 b__law_mixed
noncomputable def l__law_lists_1:DSt→Out:=(sSeq (sSet 5 (b1 (callR 2 m__law_mixed) (aCons (b1 (callR 2 m__law_cell_at) (aCons (slotD 2) (aCons (b2 addD (kD (.int 4)) (b2 modD (slotP 4) (kD (.int 40)))) aNil))) (aCons (b2 addD (kD (.int 10)) (slotP 4)) aNil))))
  (sSeq (sSet 6 (b2 modD (b2 fdivD (slotP 5) (kD (.int 6))) (b1 lenR (slotP 1))))
  (sSeq (sSet 7 (asD (b2F catR (asD (b3 slL (slotP 1) (b1 partR (slotD 6)) oNone)) (asD (b3 slL (slotP 1) oNone (b1 partR (slotD 6)))))))
  (sApp 3 (b1 tupR (aCons (b2 ixR (slotP 0) (slotP 4)) (aCons (asD (b3 slL (slotP 7) oNone (b1 partR (b2 addD (kD (.int 1)) (b2 modD (slotP 5) (kD (.int 6))))))) aNil)))))))
noncomputable def b__law_lists:DSt→Out:=(sSeq (sOwn 3 (b1 lstR aNil))
  (sSeq (sFor (setI 4) l__law_lists_1 (b1 rng1R (aCons (b1 lenR (slotP 0)) aNil)))
  (sRet (slotP 3))))
noncomputable def m__law_lists:List D→Res D:=runD 8 b__law_lists
noncomputable def l__law_name_1:DSt→Out:=(sSeq (sSet 2 (b2 addD (slotP 2) (b2 ixR (kD (.str "abcdefghijklmnopqrstuvwxyz")) (b2 modD (slotP 1) (kD (.int 26))))))
  (sSet 1 (b2 fdivD (slotP 1) (kD (.int 26)))))
noncomputable def b__law_name:DSt→Out:=(sSeq (sSet 1 (b2 modD (b2 fdivD (slotP 0) (kD (.int 10))) (b2 powD (kD (.int 26)) (kD (.int 10)))))
  (sSeq (sSet 2 (kD (.str "")))
  (sSeq (sFor (setI 3) l__law_name_1 (b1 rng1R (aCons (b2 addD (kD (.int 1)) (b2 modD (slotP 0) (kD (.int 10)))) aNil)))
  (sRet (slotD 2)))))
noncomputable def m__law_name:List D→Res D:=runD 4 b__law_name
noncomputable def b__law_open:DSt→Out:=(sSeq (sIf (tR (b2 inR (slotP 0) (asD (b1 lstR (aCons (kD (.str "door")) (aCons (kD (.str "key")) (aCons (kD (.str "opens")) (aCons (kD (.str "rules")) (aCons (kD (.str "wing")) aNil))))))))) (sRet (b2 addD (slotP 0) (kD (.str "x")))) Out.nx)
  (sRet (slotD 0)))
noncomputable def m__law_open:List D→Res D:=runD 1 b__law_open
noncomputable def l__law_names_1:DSt→Out:=(sSeq (sSet 7 (b2 addD (b2 ixR (slotP 4) (b2 modD (slotP 6) (kD (.int 9)))) (b2 ixR (slotP 4) (b2 modD (b2 fdivD (slotP 6) (kD (.int 9))) (kD (.int 9))))))
  (sApp 5 (b1 (callR 1 m__law_open) (aCons (b2 addD (b2 addD (b3 slS (slotP 2) oNone (b1 partR (slotD 3))) (slotP 7)) (b3 slS (slotP 2) (b1 partR (slotD 3)) oNone)) aNil))))
noncomputable def b__law_names:DSt→Out:=(sSeq (sSet 2 (b1 (callR 1 m__law_name) (aCons (slotD 0) aNil)))
  (sSeq (sSet 3 (b2 modD (b2 fdivD (slotP 0) (kD (.int 7))) (b2 addD (b1 lenR (slotP 2)) (kD (.int 1)))))
  (sSeq (sSet 4 (b2 ixR (asD (b1 lstR (aCons (kD (.str "bdfhkmpry")) (aCons (kD (.str "yrpmkhfdb")) (aCons (kD (.str "kbydrfmhp")) aNil))))) (b2 modD (b2 fdivD (slotP 0) (kD (.int 5))) (kD (.int 3)))))
  (sSeq (sOwn 5 (b1 lstR aNil))
  (sSeq (sFor (setI 6) l__law_names_1 (b1 rng1R (aCons (slotD 1) aNil)))
  (sRet (slotP 5)))))))
noncomputable def m__law_names:List D→Res D:=runD 8 b__law_names
noncomputable def b__law_rules:DSt→Out:=(sSeq (sSet 1 (b2 addD (kD (.int 2)) (b2 modD (b1 (callR 2 m__law_mixed) (aCons (slotD 0) (aCons (kD (.int 1)) aNil))) (kD (.int 19)))))
  (sSeq (sSet 2 (b2 addD (kD (.int 1)) (b2 modD (b1 (callR 2 m__law_mixed) (aCons (slotD 0) (aCons (kD (.int 2)) aNil))) (b2 subD (slotP 1) (kD (.int 1))))))
  (sRet (b1 tupR (aCons (b2 addD (kD (.int 1)) (b2 modD (slotP 0) (kD (.int 24)))) (aCons (slotD 1) (aCons (b2 addD (kD (.int 1)) (b2 modD (b1 (callR 2 m__law_mixed) (aCons (slotD 0) (aCons (kD (.int 3)) aNil))) (slotP 1))) (aCons (slotD 2) aNil))))))))
noncomputable def m__law_rules:List D→Res D:=runD 3 b__law_rules
noncomputable def e__law_text_1:DSt→Res D:=(b1 strR (slotP 0))
noncomputable def e__law_text_2:DSt→Res D:=(b2 addD (kD (.str "door ")) (slotP 0))
noncomputable def l__law_text_1:DSt→Out:=(sApp 4 (b2 addD (b2 addD (b2 addD (kD (.str "wing ")) (slotP 5)) (kD (.str " = "))) (bM joinR (kD (.str " ")) (aCons (slotD 6) aNil))))
noncomputable def l__law_text_2:DSt→Out:=(sApp 4 (b2 addD (b2 addD (b2 addD (kD (.str "key ")) (slotP 5)) (kD (.str " opens "))) (bM joinR (kD (.str " ")) (aCons (slotD 7) aNil))))
noncomputable def b__law_text:DSt→Out:=(sSeq (sOwn 4 (b2F catR (asD (b1 lstR (aCons (b2 addD (kD (.str "rules ")) (bM joinR (kD (.str " ")) (aCons (asD (vComp 1 (setI 0) (fun _=> .ok true) e__law_text_1 (b1 seqR (slotD 0)))) aNil))) aNil))) (asD (vComp 1 (setI 0) (fun _=> .ok true) e__law_text_2 (b1 seqR (slotD 1))))))
  (sSeq (sFor (unTup 2 (unCons (setI 5) (unCons (setI 6) unNil))) l__law_text_1 (b1 seqR (slotD 2)))
  (sSeq (sFor (unTup 2 (unCons (setI 5) (unCons (setI 7) unNil))) l__law_text_2 (b1 seqR (slotD 3)))
  (sFrzL 4 (sRet (bM joinR (kD (.str "\n")) (aCons (slotD 4) aNil)))))))
noncomputable def m__law_text:List D→Res D:=runD 8 b__law_text
noncomputable def e_copied_1:DSt→Res D:=(b1 tupR (aCons (slotD 0) (aCons (asD (b1 seqR (slotP 1))) aNil)))
noncomputable def b_copied:DSt→Out:=(sRet (asD (vComp 2 (unTup 2 (unCons (setI 0) (unCons (setI 1) unNil))) (fun _=> .ok true) e_copied_1 (b1 seqR (slotD 0)))))
noncomputable def m_copied:List D→Res D:=runD 1 b_copied
noncomputable def fs_House:List (Str×(DSt→Res D)):= [("rules",(slotD 1)),("doors",(asD (b1 seqR (slotP 2)))),("wings",(b1 (callR 1 m_copied) (aCons (slotD 3) aNil))),("grants",(b1 (callR 1 m_copied) (aCons (slotD 4) aNil)))]
noncomputable def e_can_stand_1:DSt→Res D:=(b2 gtR (b1 lenR (b2Q dgetR (slotQ 1) (slotP 0))) (kD (.int 0)))
noncomputable def b_can_stand:DSt→Out:=(sSeq (sIf (tOr2 (tR (b2 geR (b1 lenR (b2Q dgetR (slotQ 0) (slotP 1))) (kD (.int 60)))) (tR (b1 someR (asD (vComp 1 (setI 0) (fun _=> .ok true) e_can_stand_1 (b1 seqR (b1 (tabG dTup [("door",(["wing","key"]:List Str)),("wing",(["key"]:List Str)),("key",([]:List Str))]) (slotP 1)))))))) (sRet (kD (.bl false))) Out.nx)
  (sRet (vOr (b2 eqR (slotP 1) (kD (.str "door"))) (b2 gtR (b1 lenR (b2Q dgetR (slotQ 0) (kD (.str "door")))) (kD (.int 0))))))
noncomputable def m_can_stand:List D→Res D:=runD 2 b_can_stand
noncomputable def b_depths_of:DSt→Out:=(sRet (b2 ixR (slotP 0) (kD (.int 1))))
noncomputable def m_depths_of:List D→Res D:=runD 1 b_depths_of
noncomputable def b_heights_of:DSt→Out:=(sRet (b2 ixR (slotP 0) (kD (.int 2))))
noncomputable def m_heights_of:List D→Res D:=runD 1 b_heights_of
noncomputable def b_places_of:DSt→Out:=(sRet (b2 ixR (slotP 0) (kD (.int 0))))
noncomputable def m_places_of:List D→Res D:=runD 1 b_places_of
noncomputable def b_step_of:DSt→Out:=(sRet (b2 ixR (slotP 0) (kD (.int 3))))
noncomputable def m_step_of:List D→Res D:=runD 1 b_step_of
noncomputable def b_are_bounded:DSt→Out:=(sSeq (sSet 1 (b1 (callR 1 m_depths_of) (aCons (slotD 0) aNil)))
  (sSeq (sIf (tOr2 (tNot1 (tR (bCh leR leR (kD (.int 1)) (b1 (callR 1 m_places_of) (aCons (slotD 0) aNil)) (kD (.int 24))))) (tNot1 (tR (bCh leR leR (kD (.int 2)) (slotP 1) (kD (.int 20)))))) (sRet (kD (.bl false))) Out.nx)
  (sRet (vAnd (bCh leR leR (kD (.int 1)) (b1 (callR 1 m_heights_of) (aCons (slotD 0) aNil)) (slotP 1)) (bCh leR leR (kD (.int 1)) (b1 (callR 1 m_step_of) (aCons (slotD 0) aNil)) (b2 subD (slotP 1) (kD (.int 1))))))))
noncomputable def m_are_bounded:List D→Res D:=runD 2 b_are_bounded
noncomputable def b_is_whole:DSt→Out:=(sRet (vAnd (b1 (isiR "int") (slotP 0)) (b1 notD (b1 (isiR "bool") (slotP 0)))))
noncomputable def m_is_whole:List D→Res D:=runD 1 b_is_whole
noncomputable def e_is_rules_1:DSt→Res D:=(b1 (callR 1 m_is_whole) (aCons (slotD 0) aNil))
noncomputable def b_is_rules:DSt→Out:=(sSeq (sIf (tOr2 (tNot1 (tR (b1 (isiR "tuple") (slotP 0)))) (tR (b2 neR (b1 lenR (slotP 0)) (kD (.int 4))))) (sRet (kD (.bl false))) Out.nx)
  (sRet (vAnd (b1 allR (asD (vComp 1 (setI 0) (fun _=> .ok true) e_is_rules_1 (b1 seqR (slotD 0))))) (b1 (callR 1 m_are_bounded) (aCons (slotD 0) aNil)))))
noncomputable def m_is_rules:List D→Res D:=runD 1 b_is_rules
noncomputable def e_has_only_1:DSt→Res D:=(b2 inR (slotP 0) (slotP 2))
noncomputable def b_has_only:DSt→Out:=(sRet (b1 allR (asD (vComp 1 (setI 0) (fun _=> .ok true) e_has_only_1 (b1 signR (slotD 0))))))
noncomputable def m_has_only:List D→Res D:=runD 2 b_has_only
noncomputable def b_is_written:DSt→Out:=(sSeq (sIf (tOr2 (tNot1 (tR (bCh leR leR (kD (.int 1)) (b1 lenR (slotP 0)) (slotP 1)))) (tNot1 (tR (b1 (callR 2 m_has_only) (aCons (slotD 0) (aCons (kD (.str "0123456789")) aNil)))))) (sRet (kD (.bl false))) Out.nx)
  (sRet (vOr (b2 eqR (slotP 0) (kD (.str "0"))) (b2 neR (b2 ixR (slotP 0) (kD (.int 0))) (kD (.str "0"))))))
noncomputable def m_is_written:List D→Res D:=runD 2 b_is_written
noncomputable def e_numbers_in_1:DSt→Res D:=(b1 (callR 2 m_is_written) (aCons (slotD 0) (aCons (kD (.int 3)) aNil)))
noncomputable def e_numbers_in_2:DSt→Res D:=(b1 intS (slotP 0))
noncomputable def b_numbers_in:DSt→Out:=(sSeq (sIf (tNot1 (tR (b1 (isiR "str") (slotP 0)))) (sRet (kD .non)) Out.nx)
  (sSeq (sSet 2 (asD (bM splitR (slotD 0) (aCons (slotD 1) aNil))))
  (sSeq (sIf (tNot1 (tR (b1 allR (asD (vComp 1 (setI 0) (fun _=> .ok true) e_numbers_in_1 (b1 seqR (slotD 2))))))) (sRet (kD .non)) Out.nx)
  (sRet (b1 tupofR (asD (vComp 1 (setI 0) (fun _=> .ok true) e_numbers_in_2 (b1 seqR (slotD 2)))))))))
noncomputable def m_numbers_in:List D→Res D:=runD 3 b_numbers_in
noncomputable def b_read_rules:DSt→Out:=(sSeq (sSet 1 (b1 (callR 2 m_numbers_in) (aCons (slotD 0) (aCons (kD (.str " ")) aNil))))
  (sSeq (sIf (tNot1 (tR (b1 (callR 1 m_is_rules) (aCons (slotD 1) aNil)))) (fun _=> .stuck) Out.nx)
  (sRet (slotD 1))))
noncomputable def m_read_rules:List D→Res D:=runD 2 b_read_rules
noncomputable def h_rules_in_1:DSt→Out:=(fun _=> .stuck)
noncomputable def b_rules_in:DSt→Out:=(sSeq (sIf (tNot1 (tR (bM startsR (slotD 0) (aCons (kD (.str "rules ")) aNil)))) (fun _=> .stuck) Out.nx)
  (sTry [] (tryF (aCons (b3 slS (slotP 0) (b1 partR (b1 lenR (kD (.str "rules ")))) oNone) aNil) 1 m_read_rules []) (fun d _=> .rt d) Out.nx (gs0 h_rules_in_1)))
noncomputable def m_rules_in:List D→Res D:=runD 1 b_rules_in
noncomputable def b_is_name:DSt→Out:=(sSeq (sIf (tOr2 (tNot1 (tR (b1 (isiR "str") (slotP 0)))) (tR (b2 inR (slotP 0) (kD (.tup ((["door","key","opens","rules","wing"]:List Str).map D.str)))))) (sRet (kD (.bl false))) Out.nx)
  (sRet (vAnd (bCh leR leR (kD (.int 1)) (b1 lenR (slotP 0)) (kD (.int 12))) (b1 (callR 2 m_has_only) (aCons (slotD 0) (aCons (kD (.str "abcdefghijklmnopqrstuvwxyz")) aNil))))))
noncomputable def m_is_name:List D→Res D:=runD 1 b_is_name
noncomputable def e_are_unlike_names_1:DSt→Res D:=(b1 (callR 1 m_is_name) (aCons (slotD 0) aNil))
noncomputable def b_are_unlike_names:DSt→Out:=(sRet (vAnd (b1 allR (asD (vComp 1 (setI 0) (fun _=> .ok true) e_are_unlike_names_1 (b1 seqR (slotD 0))))) (b2 eqR (b1 lensT (slotP 0)) (b1 lenR (slotP 0)))))
noncomputable def m_are_unlike_names:List D→Res D:=runD 1 b_are_unlike_names
noncomputable def b_thing_in:DSt→Out:=(sSeq (sIf (tR (b2 eqR (b2 ixR (slotP 0) (kD (.int 0))) (kD (.str "door")))) (sRet (vIf (tAnd2 (tR (b2 eqR (b1 lenR (slotP 0)) (kD (.int 2)))) (tR (b1 (callR 1 m_is_name) (aCons (b2 ixR (slotP 0) (kD (.int 1))) aNil)))) (b2 ixR (slotP 0) (kD (.int 1))) (kD .non))) Out.nx)
  (sSeq (sIf (tOr2 (tR (b1 (ninTR (α:=Str) [("wing","="),("key","opens")]) (b2 ixR (slotP 0) (kD (.int 0))))) (tOr2 (tR (b2 ltR (b1 lenR (slotP 0)) (kD (.int 4)))) (tR (b2 neR (b2 ixR (slotP 0) (kD (.int 2))) (b1 (tabG D.str [("wing","="),("key","opens")]) (b2 ixR (slotP 0) (kD (.int 0)))))))) (sRet (kD .non)) Out.nx)
  (sSeq (sIf (tOr2 (tNot1 (tR (b1 (callR 1 m_is_name) (aCons (b2 ixR (slotP 0) (kD (.int 1))) aNil)))) (tNot1 (tR (b1 (callR 1 m_are_unlike_names) (aCons (asD (b3 slL (slotP 0) (b1 partR (kD (.int 3))) oNone)) aNil))))) (sRet (kD .non)) Out.nx)
  (sRet (b1 tupR (aCons (b2 ixR (slotP 0) (kD (.int 1))) (aCons (asD (b3 slL (slotP 0) (b1 partR (kD (.int 3))) oNone)) aNil)))))))
noncomputable def m_thing_in:List D→Res D:=runD 1 b_thing_in
noncomputable def l_read_house_1:DSt→Out:=(sSeq (sSet 6 (asD (bM splitB (slotD 5) (aCons (kD (.str " ")) aNil))))
  (sSeq (sSet 7 (b1 (callR 1 m_thing_in) (aCons (slotD 6) aNil)))
  (sSeq (sIf (tOr2 (tR (b1 isNR (slotP 7))) (tNot1 (tR (viewE 3 (b1 (callR 2 m_can_stand) (aCons (slotD 3) (aCons (b2 ixR (slotP 6) (kD (.int 0))) aNil))))))) (fun _=> .stuck) Out.nx)
  (sAppK 3 (b2 ixR (slotP 6) (kD (.int 0))) (slotD 7)))))
noncomputable def b_read_house:DSt→Out:=(sSeq (sIf (tNot1 (tR (b1 (isiR "str") (slotP 0)))) (fun _=> .stuck) Out.nx)
  (sSeq (sSet 1 (asD (bM splitB (slotD 0) (aCons (kD (.str "\n")) aNil))))
  (sSeq (sSet 2 (b1 (callR 1 m_rules_in) (aCons (b2 ixR (slotP 1) (kD (.int 0))) aNil)))
  (sSeq (sDL3 3 "door" "wing" "key")
  (sSeq (sFor (unTup 2 (unCons (setI 4) (unCons (setI 5) unNil))) l_read_house_1 (b1 enumSR (aCons (asD (b3 slL (slotP 1) (b1 partR (kD (.int 1))) oNone)) aNil)))
  (sSeq (sFrzK 3 (sIf (tR (b2 eqR (b1 lenR (b2Q dgetR (slotQ 3) (kD (.str "door")))) (kD (.int 0)))) (fun _=> .stuck) Out.nx))
  (sRet (b1 (callR 4 (makeR 4 "House" fs_House)) (aCons (slotD 2) (aCons (b2Q dgetR (slotQ 3) (kD (.str "door"))) (aCons (b2Q dgetR (slotQ 3) (kD (.str "wing"))) (aCons (b2Q dgetR (slotQ 3) (kD (.str "key"))) aNil))))))))))))
noncomputable def m_read_house:List D→Res D:=runD 8 b_read_house
noncomputable def e_shown_rules_1:DSt→Res D:=(b1 strR (slotP 0))
noncomputable def b_shown_rules:DSt→Out:=(sRet (bM joinR (kD (.str " ")) (aCons (asD (vComp 1 (setI 0) (fun _=> .ok true) e_shown_rules_1 (b1 seqR (slotD 0)))) aNil)))
noncomputable def m_shown_rules:List D→Res D:=runD 1 b_shown_rules
noncomputable def b_shown_thing:DSt→Out:=(sRet (bM joinR (kD (.str " ")) (aCons (asD (b2F catR (asD (b1 lstR (aCons (slotD 0) (aCons (b2 ixR (slotP 1) (kD (.int 0))) (aCons (b1 (tabG D.str [("wing","="),("key","opens")]) (slotP 0)) aNil))))) (b2 ixR (slotP 1) (kD (.int 1))))) aNil)))
noncomputable def m_shown_thing:List D→Res D:=runD 2 b_shown_thing
noncomputable def e_shown_house_1:DSt→Res D:=(b2 addD (kD (.str "door ")) (slotP 0))
noncomputable def e_shown_house_2:DSt→Res D:=(b1 (callR 2 m_shown_thing) (aCons (kD (.str "wing")) (aCons (slotD 0) aNil)))
noncomputable def e_shown_house_3:DSt→Res D:=(b1 (callR 2 m_shown_thing) (aCons (kD (.str "key")) (aCons (slotD 0) aNil)))
noncomputable def b_shown_house:DSt→Out:=(sSeq (sOwn 1 (b1 lstR (aCons (b2 addD (kD (.str "rules ")) (b1 (callR 1 m_shown_rules) (aCons (b1 (fldR "House" "rules") (slotD 0)) aNil))) aNil)))
  (sSeq (sExt 1 (vComp 1 (setI 0) (fun _=> .ok true) e_shown_house_1 (b1 seqR (b1 (fldR "House" "doors") (slotD 0)))))
  (sSeq (sExt 1 (vComp 1 (setI 0) (fun _=> .ok true) e_shown_house_2 (b1 seqR (b1 (fldR "House" "wings") (slotD 0)))))
  (sSeq (sExt 1 (vComp 1 (setI 0) (fun _=> .ok true) e_shown_house_3 (b1 seqR (b1 (fldR "House" "grants") (slotD 0)))))
  (sFrzL 1 (sRet (bM joinR (kD (.str "\n")) (aCons (slotD 1) aNil))))))))
noncomputable def m_shown_house:List D→Res D:=runD 2 b_shown_house
noncomputable def b_law:DSt→Out:=(sSeq (sSet 1 (b1 (callR 2 m__law_cell_at) (aCons (slotD 0) (aCons (kD (.int 0)) aNil))))
  (sSeq (sSet 2 (b1 (callR 2 m__law_names) (aCons (b1 (callR 2 m__law_mixed) (aCons (slotD 1) (aCons (kD (.int 4)) aNil))) (aCons (kD (.int 56)) aNil))))
  (sSeq (sSet 3 (asD (b3 slL (slotP 2) oNone (b1 partR (b2 addD (kD (.int 1)) (b2 modD (b1 (callR 2 m__law_cell_at) (aCons (slotD 0) (aCons (kD (.int 1)) aNil))) (kD (.int 18))))))))
  (sSeq (sSet 4 (asD (b3 slL (slotP 2) (b1 partR (kD (.int 18))) (b1 partR (b2 addD (kD (.int 18)) (b2 modD (b1 (callR 2 m__law_cell_at) (aCons (slotD 0) (aCons (kD (.int 2)) aNil))) (kD (.int 19))))))))
  (sSeq (sSet 5 (asD (b3 slL (slotP 2) (b1 partR (kD (.int 36))) (b1 partR (b2 addD (kD (.int 36)) (b2 modD (b1 (callR 2 m__law_cell_at) (aCons (slotD 0) (aCons (kD (.int 3)) aNil))) (kD (.int 19))))))))
  (sSeq (sSet 6 (b1 (callR 1 m__law_rules) (aCons (slotD 1) aNil)))
  (sSeq (sSet 7 (b1 (callR 3 m__law_lists) (aCons (slotD 4) (aCons (asD (b2F catR (asD (b2F catR (slotP 3) (slotP 4))) (asD (b3 slL (slotP 2) (b1 partR (kD (.int 54))) oNone)))) (aCons (slotD 0) aNil)))))
  (sSeq (sSet 8 (b1 (callR 3 m__law_lists) (aCons (slotD 5) (aCons (asD (b2F catR (asD (b2F catR (slotP 3) (slotP 4))) (asD (b3 slL (slotP 2) (b1 partR (kD (.int 54))) oNone)))) (aCons (asD (b3 slL (slotP 0) (b1 partR (kD (.int 1))) oNone)) aNil)))))
  (sSeq (sSet 9 (b1 (callR 4 m__law_text) (aCons (slotD 6) (aCons (slotD 3) (aCons (slotD 7) (aCons (slotD 8) aNil))))))
  (sSeq (sSet 10 (b1 (callR 1 m_read_house) (aCons (slotD 9) aNil)))
  (sSeq (sIf (tNot1 (tR (b1 (callR 5 m__law_fits) (aCons (slotD 10) (aCons (slotD 6) (aCons (slotD 3) (aCons (slotD 7) (aCons (slotD 8) aNil)))))))) (sRet (kD (.bl false))) Out.nx)
  (sSeq (sSet 11 (b1 (callR 1 m_read_house) (aCons (kD (.str "rules 1 2 1 1\ndoor a\nkey b opens a")) aNil)))
  (sSeq (sSet 12 (b1 (callR 1 m_shown_house) (aCons (slotD 10) aNil)))
  (sSeq (sIf (tOr2 (tNot1 (tR (b1 (isiR "str") (slotP 12)))) (tOr2 (tR (b2 neR (slotP 12) (slotP 9))) (tR (b2 neR (b1 (fldR "House" "doors") (slotD 11)) (asD (b1 lstR (aCons (kD (.str "a")) aNil))))))) (sRet (kD (.bl false))) Out.nx)
  (sRet (vAnd (b1 (callR 5 m__law_fits) (aCons (b1 (callR 1 m_read_house) (aCons (slotD 12) aNil)) (aCons (slotD 6) (aCons (slotD 3) (aCons (slotD 7) (aCons (slotD 8) aNil)))))) (b1 (callR 5 m__law_fits) (aCons (slotD 10) (aCons (slotD 6) (aCons (slotD 3) (aCons (slotD 7) (aCons (slotD 8) aNil))))))))))))))))))))))
noncomputable def m_law:List D→Res D:=runD 13 b_law
end G
namespace G
open PySem PySem.Spec PyProof.Rows L2 L3
local macro_rules| `(tactic| walk_at "ev")=> `(tactic| simp only [runD_eq,startD,List.map_cons,List.map_nil,List.length_cons,List.length_nil,List.cons_append,List.nil_append,Nat.reduceAdd,Nat.reduceSub,List.replicate,
 kD,b1,b2,b3,bCh,tR,tAnd2,tOr2,tNot1,vAnd,vOr,vIf,aNil,aCons,oNone,asD,vComp,sSeq,sSet,sOwn,sIf,sFor,sWhile,b2F,sApp,sRet,sRetN,sExpr,sAsg,sSetI,sOwnR,sOwnQ,sPutI,b1Q,b2Q,
 slotD_0,slotD_s,slotP_0,slotP_0o,slotP_s,Res.bind_ok,Res.bind_ex,Res.bind_stuck,ofR_ok,ofR_ex,ofR_stuck,seqO_nx,seqO_rt,seqO_stuck,ifO_ok,andB_ok,orB_ok,andD_bl,orD_bl,boolR_bl,notD_bl,
 eqR_ii,neR_ii,eqR_bb,ltR_ii,leR_ii,gtR_ii,geR_ii,addD_ii,addD_small,subD_ii,negD_i,modD_ii,fdivD_ii,mulE_ii,maxR_ii,minR_ii,absR_i,lenR_t,lenR_l,seqR_t,seqR_l,tupofR_t,tupofR_l,partR_i,consR_ok,noex_ok,slD_l,slW_l,finO_rt,finO_nx,chain_le,chain_lelt,
 List.set_cons_zero,List.set_cons_succ,lstR,tupR,if_true,if_false,reduceIte,Bool.not_true,Bool.not_false,Bool.false_eq_true,Nat.zero_le,Nat.reduceLeDiff,Nat.zero_add,Int.reduceLT,true_and,and_true,and_self])
local macro_rules| `(tactic| walk_at "ev*")=> `(tactic| simp only [runD_eq,startD,List.map_cons,List.map_nil,List.length_cons,List.length_nil,List.cons_append,List.nil_append,Nat.reduceAdd,Nat.reduceSub,List.replicate,
 kD,b1,b2,b3,bCh,tR,tAnd2,tOr2,tNot1,vAnd,vOr,vIf,aNil,aCons,oNone,asD,vComp,sSeq,sSet,sOwn,sIf,sFor,sWhile,b2F,sApp,sRet,sRetN,sExpr,sAsg,sSetI,sOwnR,sOwnQ,sPutI,b1Q,b2Q,
 slotD_0,slotD_s,slotP_0,slotP_0o,slotP_s,Res.bind_ok,Res.bind_ex,Res.bind_stuck,ofR_ok,ofR_ex,ofR_stuck,seqO_nx,seqO_rt,seqO_stuck,ifO_ok,andB_ok,orB_ok,andD_bl,orD_bl,boolR_bl,notD_bl,
 eqR_ii,neR_ii,eqR_bb,ltR_ii,leR_ii,gtR_ii,geR_ii,addD_ii,addD_small,subD_ii,negD_i,modD_ii,fdivD_ii,mulE_ii,maxR_ii,minR_ii,absR_i,lenR_t,lenR_l,seqR_t,seqR_l,tupofR_t,tupofR_l,partR_i,consR_ok,noex_ok,slD_l,slW_l,finO_rt,finO_nx,chain_le,chain_lelt,
 List.set_cons_zero,List.set_cons_succ,lstR,tupR,if_true,if_false,reduceIte,Bool.not_true,Bool.not_false,Bool.false_eq_true,Nat.zero_le,Nat.reduceLeDiff,Nat.zero_add,Int.reduceLT,true_and,and_true,and_self, *])
local macro_rules| `(tactic| walk_at "evs")=> `(tactic| simp [runD_eq,startD,List.map_cons,List.map_nil,List.length_cons,List.length_nil,List.cons_append,List.nil_append,Nat.reduceAdd,Nat.reduceSub,List.replicate,
 kD,b1,b2,b3,bCh,tR,tAnd2,tOr2,tNot1,vAnd,vOr,vIf,aNil,aCons,oNone,asD,vComp,sSeq,sSet,sOwn,sIf,sFor,sWhile,b2F,sApp,sRet,sRetN,sExpr,sAsg,sSetI,sOwnR,sOwnQ,sPutI,b1Q,b2Q,
 slotD_0,slotD_s,slotP_0,slotP_0o,slotP_s,Res.bind_ok,Res.bind_ex,Res.bind_stuck,ofR_ok,ofR_ex,ofR_stuck,seqO_nx,seqO_rt,seqO_stuck,ifO_ok,andB_ok,orB_ok,andD_bl,orD_bl,boolR_bl,notD_bl,
 eqR_ii,neR_ii,eqR_bb,ltR_ii,leR_ii,gtR_ii,geR_ii,addD_ii,addD_small,subD_ii,negD_i,modD_ii,fdivD_ii,mulE_ii,maxR_ii,minR_ii,absR_i,lenR_t,lenR_l,seqR_t,seqR_l,tupofR_t,tupofR_l,partR_i,consR_ok,noex_ok,slD_l,slW_l,finO_rt,finO_nx,chain_le,chain_lelt,
 List.set_cons_zero,List.set_cons_succ,lstR,tupR,if_true,if_false,reduceIte,Bool.not_true,Bool.not_false,Bool.false_eq_true,Nat.zero_le,Nat.reduceLeDiff,Nat.zero_add,Int.reduceLT,true_and,and_true,and_self, *])
def jn (c:Nat):List (List Nat)→List Nat
 | []=> []
 | [x]=>x
 |x::y::r=>x++c::jn c (y::r)
theorem jn_cons (c:Nat) (x:List Nat) {r:List (List Nat)} (h:r≠ []):jn c (x::r)=x++c::jn c r:=by
 cases r with
 |nil=>exact absurd rfl h
 |cons y r=>rfl
theorem cut_uniq {c:Nat}:∀ {x y a b:List Nat},c∉x→c∉y→x++c::a=y++c::b→x=y∧a=b
 | [],[],_,_,_,_,e=>by
  simp only [List.nil_append,List.cons.injEq,true_and] at e
  exact ⟨rfl,e⟩
 | [],z::y,_,_,_,hy,e=>by
  simp only [List.nil_append,List.cons_append,List.cons.injEq] at e
  exact absurd (by rw [e.1];exact List.mem_cons_self) hy
 |z::x,[],_,_,hx,_,e=>by
  simp only [List.nil_append,List.cons_append,List.cons.injEq] at e
  exact absurd (by rw [e.1];exact List.mem_cons_self) hx
 |z::x,w::y,a,b,hx,hy,e=>by
  simp only [List.cons_append,List.cons.injEq] at e
  obtain ⟨h1,h2⟩:=cut_uniq (fun h=>hx (List.mem_cons_of_mem _ h)) (fun h=>hy (List.mem_cons_of_mem _ h)) e.2
  exact ⟨by rw [e.1,h1],h2⟩
theorem jn_uniq {c:Nat}:∀ {xs ys:List (List Nat)},xs≠ []→ys≠ []→(∀ x∈xs,c∉x)→(∀ y∈ys,c∉y)→jn c xs=jn c ys→xs=ys
 | [],_,h,_,_,_,_=>absurd rfl h
 |_::_,[],_,h,_,_,_=>absurd rfl h
 | [x],[y],_,_,_,_,e=>by rw [show x=y from e]
 | [x],y::z::r,_,_,hx,_,e=>by
  have e':x=y++c::jn c (z::r):=e
  exact absurd (by rw [e'];simp) (hx x List.mem_cons_self)
 |x::w::r,[y],_,_,_,hy,e=>by
  have e':x++c::jn c (w::r)=y:=e
  exact absurd (by rw [←e'];simp) (hy y List.mem_cons_self)
 |x::w::r,y::z::t,_,_,hx,hy,e=>by
  have e':x++c::jn c (w::r)=y++c::jn c (z::t):=e
  obtain ⟨h1,h2⟩:=cut_uniq (hx x List.mem_cons_self) (hy y List.mem_cons_self) e'
  rw [h1,jn_uniq (by simp) (by simp) (fun a ha=>hx a (List.mem_cons_of_mem _ ha)) (fun a ha=>hy a (List.mem_cons_of_mem _ ha)) h2]
theorem join_cps (c:Nat):∀ xs:List Str,(Str.join ⟨#[c]⟩ xs).cps.toList=jn c (xs.map fun x=>x.cps.toList)
 | []=>rfl
 | [x]=>rfl
 |x::y::r=>by
  show ((x++(⟨#[c]⟩:Str))++Str.join ⟨#[c]⟩ (y::r)).cps.toList=x.cps.toList++c::jn c ((y::r).map fun x=>x.cps.toList)
  rw [←join_cps c (y::r),Str.cps_append,Str.cps_append]
  simp
theorem split_join (c:Nat) (xs:List Str) (hn:xs≠ []) (hf:∀ x∈xs,c∉x.cps.toList):PySem.Txt.split (PySem.Txt.join ⟨#[c]⟩ xs) ⟨#[c]⟩=xs:=by
 have ej:PySem.Txt.join ⟨#[c]⟩ xs=Str.join ⟨#[c]⟩ xs:=StrLaws.glued_eq_join _ _
 rw [ej]
 have h1:=StrLaws.join_split (Str.join ⟨#[c]⟩ xs) ⟨#[c]⟩
 have h2:=StrLaws.split_free (Str.join ⟨#[c]⟩ xs) c
 have h3:=split_pos (Str.join ⟨#[c]⟩ xs) ⟨#[c]⟩
 generalize PySem.Txt.split (Str.join ⟨#[c]⟩ xs) ⟨#[c]⟩=ys at h1 h2 h3 ⊢
 have h4:=congrArg (fun x:Str=>x.cps.toList) h1
 simp only [join_cps] at h4
 have h5:=jn_uniq (c:=c) (by intro z;rw [List.map_eq_nil_iff.mp z] at h3;simp at h3) (by intro z;exact hn (List.map_eq_nil_iff.mp z)) (fun x hx=>by
  obtain ⟨y,hy,rfl⟩:=List.mem_map.mp hx
  exact h2 y hy) (fun x hx=>by
  obtain ⟨y,hy,rfl⟩:=List.mem_map.mp hx
  exact hf y hy) h4
 have inj:∀ {as bs:List Str},as.map (fun x:Str=>x.cps.toList)=bs.map (fun x:Str=>x.cps.toList)→as=bs:=by
  intro as
  induction as with
  |nil=>intro bs e;cases bs with|nil=>rfl|cons b bs=>cases e
  |cons a as ih=>
   intro bs e
   cases bs with
   |nil=>cases e
   |cons b bs=>
    simp only [List.map_cons,List.cons.injEq] at e
    rw [ih e.2]
    congr 1
    exact Str.ext' (Array.toList_inj.mp e.1)
 exact inj h5
theorem splitR_eq (z:Str) (c:Nat) (hz:z.length≤900):splitR z [.str ⟨#[c]⟩]= .ok ((PySem.Txt.split z ⟨#[c]⟩).map D.str):=by
 unfold splitR
 refine if_pos ⟨rfl,by omega,?_⟩
 rw [len_partsBetween]
 have:=StrLaws.occ_length_le z ⟨#[c]⟩ 0 z.length (z.length+1)
 omega
theorem strsOf_map:∀ xs:List Str,strsOf (xs.map D.str)=some xs
 | []=>rfl
 |x::xs=>by show (strsOf (xs.map D.str)).map (x:: ·)=_;rw [strsOf_map xs];rfl
theorem join_len (c:Nat) (xs:List Str):(PySem.Txt.join ⟨#[c]⟩ xs).length≤(xs.map (·.length)).sum+xs.length:=by
 rw [show PySem.Txt.join ⟨#[c]⟩ xs=Str.join ⟨#[c]⟩ xs from StrLaws.glued_eq_join _ _]
 have:=StrLaws.join_length_le ⟨#[c]⟩ xs
 have e:(⟨#[c]⟩:Str).length=1:=rfl
 rw [e] at this
 omega
abbrev FIG:Str:="0123456789"
def figB:D→Bool
 | .str c=>subS c FIG
 |_=>false
theorem lenR_s (x:Str) (h:x.length≤1000):lenR (.str x)= .ok (.int x.length):=if_pos (Nat.le_trans h k1000)
theorem signL_str {x:Str} {d:D} (h:d∈signL x):∃ c,d= .str c:=by
 unfold signL at h
 obtain ⟨c,_,rfl⟩:=List.mem_map.mp h
 exact ⟨_,rfl⟩
theorem has_fig (x:Str) (h:x.length≤1000):callR 2 m_has_only [.str x, .str FIG]= .ok (.bl ((signL x).all figB)):=by
 have e0:signR (.str x)= .ok (signL x):=rfl
 have e1:compR 1 (setI 0) (fun _=> .ok true) e_has_only_1 [some (.d (.str x)),some (.d (.str FIG))] (signL x)= .ok ((signL x).map fun d=>D.bl (figB d)):=by
  refine compR_ok ?_ (by unfold signL;rw [List.length_map,Array.length_toList];exact Nat.le_trans h (by decide))
  refine comp_map (fun d=>D.bl (figB d)) _ _ none fun d hd=> ?_
  obtain ⟨c,rfl⟩:=signL_str hd
  rfl
 have e2:=allR_map figB (signL x)
 refine callR_eq _ _ _ _ ?_ rfl
 unfold m_has_only b_has_only
 walk_at "ev*"
def wrB (x:Str):Bool:=decide (1≤x.length∧x.length≤3)&&((signL x).all figB&&(x=="0"|| !(x.cps.toList.head? ==some 48)))
theorem z1000 {n:Nat} (h:n≤1000):n≤sizeLine:=Nat.le_trans h k1000
theorem addD_s (x y:Str) (h:x.length+y.length≤100000):addD (.str x) (.str y)= .ok (.str (x++y)):=if_pos (by rw [sizeLine_eq];omega)
theorem app_len (x y:Str):(x++y).length=x.length+y.length:=Array.size_append ..
theorem modI (i j:Int) (h:0<j):modD (.int i) (.int j)= .ok (.int (i%j)):=by rw [modD_ii,if_pos h]
theorem divI (i j:Int) (h:0<j) (h2:j<1073741824):fdivD (.int i) (.int j)= .ok (.int (i / j)):=by rw [fdivD_ii,if_pos ⟨h,h2⟩]
def letL:List Nat:= [97,98,99,100,101,102,103,104,105,106,107,108,109,110,111,112,113,114,115,116,117,118,119,120,121,122]
def okC (x:Str):Prop:=∀ c∈x.cps.toList,c∈letL
theorem app_okC {x y:Str} (hx:okC x) (hy:okC y):okC (x++y):=fun c hc=>by
 simp only [Str.cps_append,Array.toList_append,List.mem_append] at hc
 exact hc.elim (hx c) (hy c)
theorem one_okC {x:Str} {c:Nat} (hx:okC x) (h:c∈x.cps.toList):okC ⟨#[c]⟩:=fun d hd=>by
 have:d=c:=by simpa using hd
 rw [this];exact hx c h
theorem sl_okC {x:Str} (hx:okC x) (l u:Option Int):okC (PySem.Txt.slice x l u):=by
 unfold PySem.Txt.slice
 split
 ·exact hx
 ·intro c hc
  obtain ⟨i,_,e⟩:=List.mem_filterMap.mp (show c∈List.filterMap _ _ from hc)
  exact hx c (by rw [Array.mem_toList_iff];exact Array.mem_of_getElem? e)
theorem ixS (z:Str) (i:Int) (hz:z.length≤1000) (h0:0≤i) (h1:i<z.length):∃ c,ixR (.str z) (.int i)= .ok (.str ⟨#[c]⟩)∧c∈z.cps.toList:=by
 have hl:z.cps.toList.length=z.length:=Array.length_toList ..
 obtain ⟨c,e,hm⟩:=atI_in (xs:=z.cps.toList) h0 (by rw [hl];exact h1)
 refine ⟨c,?_,hm⟩
 show (@ite (Res D) (z.length≤sizeLine) (Classical.propDecidable _) _ _)=_
 rw [if_pos (z1000 hz),e]
theorem sl_idx (w:Str) (l u:Option Int):(PySem.Txt.slice w l u).length≤(PySem.Builtin.Str.strSliceIndices l u 1 w.length).length:=by
 unfold PySem.Txt.slice
 split
 ·rename_i h
  have h':(PySem.Builtin.Str.strSliceIndices l u 1 w.length).length=w.length:=by simpa using h
  omega
 ·show (List.filterMap _ (PySem.Builtin.Str.strSliceIndices l u 1 w.length)).toArray.size≤_
  rw [List.size_toArray]
  exact List.length_filterMap_le _ _
theorem idx_to (n:Nat) (p:Int) (h0:0≤p) (h1:p≤n):(PySem.Builtin.Str.strSliceIndices none (some p) 1 n).length≤p.toNat:=by
 unfold PySem.Builtin.Str.strSliceIndices PySem.sliceRange
 simp only [show (1:Int)>0 by decide,if_true,List.length_map,List.length_range]
 (split<;>(try split)<;>(try split)<;>(try simp only [Int.ediv_one])<;>omega)
theorem idx_from (n:Nat) (p:Int) (h0:0≤p) (h1:p≤n):(PySem.Builtin.Str.strSliceIndices (some p) none 1 n).length≤n-p.toNat:=by
 unfold PySem.Builtin.Str.strSliceIndices PySem.sliceRange
 simp only [show (1:Int)>0 by decide,if_true,List.length_map,List.length_range]
 (split<;>(try split)<;>(try split)<;>(try simp only [Int.ediv_one])<;>omega)
theorem sl_sum (w:Str) (p:Int) (h0:0≤p) (h1:p≤(w.length:Int)):(PySem.Txt.slice w none (some p)).length+(PySem.Txt.slice w (some p) none).length≤w.length:=by
 have a:=sl_idx w none (some p)
 have b:=sl_idx w (some p) none
 have c:=idx_to w.length p h0 h1
 have d:=idx_from w.length p h0 h1
 omega
theorem slS_is (z:Str) (lo hi:Option Int) (h:z.length≤1000):slS (.str z) lo hi= .ok (.str (PySem.Txt.slice z lo hi)):=if_pos (z1000 h)
theorem abc_okC:okC "abcdefghijklmnopqrstuvwxyz":=by unfold okC;decide +kernel
theorem cell_ex (ns:List Int) (k:Int) (h0:0≤k):∃ v,callR 2 m__law_cell_at [.lst (ns.map D.int), .int k]= .ok (.int v):=by
 by_cases h:k<(ns.length:Int)
 ·obtain ⟨d,e,hd⟩:=atI_in (xs:=ns.map D.int) (i:=k) h0 (by rw [List.length_map];exact h)
  obtain ⟨v,_,rfl⟩:=List.mem_map.mp hd
  have e':=ixR_l _ _ _ e
  have dt:decide (k<((ns.map D.int).length:Int))=true:=decide_eq_true (by rw [List.length_map];exact h)
  refine ⟨v,callR_eq _ _ _ _ ?_ rfl⟩
  generalize ns.map D.int=ds at*
  unfold m__law_cell_at b__law_cell_at
  walk_at "ev*"
 ·have dt:decide (k<((ns.map D.int).length:Int))=false:=decide_eq_false (by rw [List.length_map];exact h)
  refine ⟨0,callR_eq _ _ _ _ ?_ rfl⟩
  generalize ns.map D.int=ds at*
  unfold m__law_cell_at b__law_cell_at
  walk_at "ev*"
theorem mixed_ex (c k:Int) (h0:0≤k) (h1:k≤1000):∃ v,callR 2 m__law_mixed [.int c, .int k]= .ok (.int v):=by
 have m1:=modI c 2147483647 (by decide)
 have b0:=Int.emod_nonneg c (show (2147483647:Int)≠0 by decide)
 have b1':=Int.emod_lt_of_pos c (show (0:Int)<2147483647 by decide)
 have k2:mulE (.int 2) (.int k)= .ok (.int (2*k)):=by rw [mulE_ii];exact if_pos (.inl (by omega))
 generalize c%2147483647=r at*
 have x1:mulE (.int (r+7)) (.int (48271+2*k))= .ok (.int ((r+7)*(48271+2*k))):=by rw [mulE_ii];exact if_pos (.inl (by omega))
 have m2:=modI ((r+7)*(48271+2*k)) 2147483629 (by decide)
 have b2':=Int.emod_nonneg ((r+7)*(48271+2*k)) (show (2147483629:Int)≠0 by decide)
 have b3:=Int.emod_lt_of_pos ((r+7)*(48271+2*k)) (show (0:Int)<2147483629 by decide)
 generalize (r+7)*(48271+2*k)%2147483629=q at*
 have x2:mulE (.int q) (.int q)= .ok (.int (q*q)):=by rw [mulE_ii];exact if_pos (.inl (by omega))
 have m3:=modI (q*q) 2147483587 (by decide)
 refine ⟨q*q%2147483587,callR_eq _ _ _ _ ?_ rfl⟩
 clear b0 b1' b2' b3 h0 h1
 unfold m__law_mixed b__law_mixed
 simp only [runD_eq,startD,List.map_cons,List.map_nil,List.length_cons,List.length_nil,List.cons_append,List.nil_append,Nat.reduceAdd,Nat.reduceSub,List.replicate,kD,b2,sSeq,sSet,sRet,slotD_0,slotD_s,slotP_0,slotP_s,Res.bind_ok,ofR_ok,seqO_nx,addD_ii,m1,k2,x1,m2,x2,m3,List.set_cons_zero,List.set_cons_succ,finO_rt]
theorem name_turn (c r:Int) (w:Str) (x:D) (hw:w.length≤900) (hc:okC w):∃ (r2:Int) (w2:Str),l__law_name_1 [some (.d (.int c)),some (.d (.int r)),some (.d (.str w)),some (.d x)]= .nx [some (.d (.int c)),some (.d (.int r2)),some (.d (.str w2)),some (.d x)]∧w2.length=w.length+1∧okC w2:=by
 have m1:=modI r 26 (by decide)
 have d1:=divI r 26 (by decide) (by decide)
 have b0:=Int.emod_nonneg r (show (26:Int)≠0 by decide)
 have b1':=Int.emod_lt_of_pos r (show (0:Int)<26 by decide)
 obtain ⟨ch,e1,hm⟩:=ixS "abcdefghijklmnopqrstuvwxyz" (r%26) (by decide) b0 b1'
 have e2:=addD_s w ⟨#[ch]⟩ (by rw [show (⟨#[ch]⟩:Str).length=1 from rfl];omega)
 refine ⟨r / 26,w++⟨#[ch]⟩,?_,by rw [app_len];rfl,app_okC hc (one_okC abc_okC hm)⟩
 clear b0 b1' hw hc hm
 generalize r%26=q at*
 unfold l__law_name_1
 walk_at "ev*"
theorem name_ex (c:Int):∃ w:Str,callR 1 m__law_name [.int c]= .ok (.str w)∧w.length≤10∧okC w:=by
 have ep:powD (.int 26) (.int 10)= .ok (.int (26^10)):=if_pos ⟨by decide,by decide,by decide⟩
 have d1:=divI c 10 (by decide) (by decide)
 have m1:=modI (c / 10) (26^10) (by decide)
 have m2:=modI c 10 (by decide)
 have b0:=Int.emod_nonneg c (show (10:Int)≠0 by decide)
 have b1':=Int.emod_lt_of_pos c (show (0:Int)<10 by decide)
 generalize c%10=q at*
 have rg:=rng1_i (1+q) (by omega) (by omega)
 have hq:(1+q).toNat≤10:=by omega
 generalize (1+q).toNat=n at*
 generalize c / 10%26^10=r at*
 obtain ⟨δ2,f,r2,w,y,rfl,hl,hok⟩:=forD_ix (t:=setI 3) (body:=l__law_name_1) (fun i δ=>∃ (r:Int) (w:Str) (y:Option S),δ= [some (.d (.int c)),some (.d (.int r)),some (.d (.str w)),y]∧w.length=i∧okC w) (rngD 0 n) [some (.d (.int c)),some (.d (.int r)),some (.d (.str "")),none] (fun i d δ hd hI=>by
   obtain ⟨r,w,y,rfl,hw,hk⟩:=hI
   obtain ⟨hi,rfl⟩:=rngD_get hd
   obtain ⟨r2,w2,e,h2,k2⟩:=name_turn c r w (.int (0+i)) (by omega) hk
   exact ⟨_,rfl,_, .inl e,r2,w2,_,rfl,by omega,k2⟩) ⟨r,"",none,rfl,rfl,fun c hc=>absurd hc (by show ¬ c∈([]:List Nat);simp)⟩
 rw [rngD_len] at hl
 refine ⟨w,callR_eq _ _ _ _ ?_ rfl,by omega,hok⟩
 clear b0 b1'
 unfold m__law_name b__law_name
 simp only [runD_eq,startD,List.map_cons,List.map_nil,List.length_cons,List.length_nil,List.cons_append,List.nil_append,Nat.reduceAdd,Nat.reduceSub,List.replicate,kD,b1,b2,aCons,aNil,consR_ok,sSeq,sSet,sFor,sRet,slotD_0,slotD_s,slotP_0,slotP_s,Res.bind_ok,ofR_ok,seqO_nx,addD_ii,d1,ep,m1,m2,rg,f,List.set_cons_zero,List.set_cons_succ,finO_rt]
def sL (ks:List Nat) (f:Nat→Str):D:= .lst (ks.map fun k=>D.str (f k))
def wds:List D:= [.str "door", .str "key", .str "opens", .str "rules", .str "wing"]
def opn (w:Str):Str:=if inB (.str w) wds=true then w++"x" else w
theorem opn_len (w:Str):(opn w).length=w.length+(if inB (.str w) wds=true then 1 else 0):=by
 unfold opn
 split
 ·rw [app_len];rfl
 ·rfl
theorem open_eq (w:Str) (h:w.length≤900):callR 1 m__law_open [.str w]= .ok (.str (opn w)):=by
 have e1:inR (.str w) (.lst [.str "door", .str "key", .str "opens", .str "rules", .str "wing"])= .ok (.bl (inB (.str w) wds)):=by unfold L3.inR;dsimp only;exact if_pos (by simp [flatD])
 have e2:=addD_s w "x" (by rw [show ("x":Str).length=1 from rfl];omega)
 unfold opn
 generalize inB (.str w) wds=b at*
 cases b with
 |true=>
  rw [if_pos rfl]
  refine callR_eq _ _ _ _ ?_ rfl
  clear h
  unfold m__law_open b__law_open
  walk_at "ev*"
 |false=>
  rw [if_neg Bool.false_ne_true]
  refine callR_eq _ _ _ _ ?_ rfl
  clear h
  unfold m__law_open b__law_open
  walk_at "ev*"
def chz (z:Str) (i:Nat):Nat:=z.cps.toList.getD i 0
theorem ixZ (z:Str) (i:Nat) (hz:z.length=9) (h1:i<9):ixR (.str z) (.int (i:Int))= .ok (.str ⟨#[chz z i]⟩):=by
 have hl:z.cps.toList.length=9:=(Array.length_toList ..).trans hz
 have e:atI z.cps.toList (i:Int)=some (chz z i):=by
  refine atI_pos (by omega) ?_
  rw [show ((i:Int)).toNat=i by omega]
  unfold chz
  rw [List.getD_eq_getElem?_getD,List.getElem?_eq_getElem (by omega)];rfl
 show (@ite (Res D) (z.length≤sizeLine) (Classical.propDecidable _) _ _)=_
 rw [if_pos (z1000 (by omega)),e]
theorem str_ext {x y:Str} (h:x.cps.toList=y.cps.toList):x=y:=by
 cases x;cases y
 congr 1
 exact Array.toList_inj.mp h
theorem z_dec (z:Str) (h:∀ i,i<9→∀ j,j<9→chz z i=chz z j→i=j):∀ i j,i<9→j<9→chz z i=chz z j→i=j:=fun i j a b=>h i a j b
def zOk (z:Str):Prop:=z.length=9∧∀ i j,i<9→j<9→chz z i=chz z j→i=j
def fN (l r z:Str) (k:Nat):Str:=opn (l++(⟨#[chz z (k%9)]⟩++⟨#[chz z (k / 9%9)]⟩)++r)
theorem names_turn (a b:D) (w z l r:Str) (p:Int) (i:Nat) (f:Nat→Str) (ef:f=fN l r z) (x:Option S) (hz:zOk z) (l1:l.length≤10) (l2:r.length≤10) (s1:slS (.str w) none (some p)= .ok (.str l)) (s2:slS (.str w) (some p) none= .ok (.str r)) (hl:i≤100):
  ∃ y:Option S,l__law_names_1 [some (.d a),some (.d b),some (.d (.str w)),some (.d (.int p)),some (.d (.str z)),some (.o ((List.range i).map fun k=>D.str (f k))),some (.d (.int (i:Int))),x]= .nx [some (.d a),some (.d b),some (.d (.str w)),some (.d (.int p)),some (.d (.str z)),some (.o ((List.range (i+1)).map fun k=>D.str (f k))),some (.d (.int (i:Int))),y]:=by
 have m1:=modI (i:Int) 9 (by decide)
 have d1:=divI (i:Int) 9 (by decide) (by decide)
 have m2:=modI ((i:Int) / 9) 9 (by decide)
 have e1:=ixZ z (i%9) hz.1 (by omega)
 have e2:=ixZ z (i / 9%9) hz.1 (by omega)
 rw [show ((i%9:Nat):Int)=(i:Int)%9 by omega] at e1
 rw [show ((i / 9%9:Nat):Int)=(i:Int) / 9%9 by omega] at e2
 have e3:=addD_s ⟨#[chz z (i%9)]⟩ ⟨#[chz z (i / 9%9)]⟩ (by show 1+1≤100000;decide)
 have hi2:((⟨#[chz z (i%9)]⟩:Str)++⟨#[chz z (i / 9%9)]⟩).length=2:=by rw [app_len];rfl
 have ei:f i=opn (l++(⟨#[chz z (i%9)]⟩++⟨#[chz z (i / 9%9)]⟩)++r):=by rw [ef];rfl
 generalize (⟨#[chz z (i%9)]⟩:Str)++⟨#[chz z (i / 9%9)]⟩=inn at*
 have e4:=addD_s l inn (by omega)
 have e5:=addD_s (l++inn) r (by rw [app_len];omega)
 have e6:=open_eq (l++inn++r) (by rw [app_len,app_len];omega)
 rw [←ei] at e6
 have e7:=appO_eq 5 [some (.d a),some (.d b),some (.d (.str w)),some (.d (.int p)),some (.d (.str z)),some (.o ((List.range i).map fun k=>D.str (f k))),some (.d (.int i)),some (.d (.str inn))] ((List.range i).map fun k=>D.str (f k)) (.str (f i)) rfl (by rw [List.length_map,List.length_range];omega)
 refine ⟨some (.d (.str inn)),?_⟩
 rw [List.range_succ,List.map_append,List.map_singleton]
 clear l1 l2 hi2 hz hl ei ef
 generalize (List.range i).map (fun k=>D.str (f k))=ds at*
 generalize (i:Int)%9=q1 at*
 generalize (i:Int) / 9%9=q2 at*
 generalize l++inn++r=t at*
 unfold l__law_names_1
 simp only [kD,b1,b2,b3,aCons,aNil,oNone,consR_ok,sSeq,sSet,sApp,slotD_0,slotD_s,slotP_0,slotP_s,Res.bind_ok,ofR_ok,seqO_nx,m1,d1,m2,e1,e2,e3,s1,s2,e4,e5,e6,e7,partR_i,List.set_cons_zero,List.set_cons_succ]
theorem chz_okC {z:Str} (hz:okC z) (h9:z.length=9) (i:Nat) (h:i<9):okC ⟨#[chz z i]⟩:=one_okC hz (by
 have hl:z.cps.toList.length=9:=(Array.length_toList ..).trans h9
 unfold chz
 rw [List.getD_eq_getElem?_getD,List.getElem?_eq_getElem (by omega)]
 exact List.getElem_mem ..)
theorem opn_okC {w:Str} (h:okC w):okC (opn w):=by
 unfold opn
 split
 ·exact app_okC h (by unfold okC;decide +kernel)
 ·exact h
def Gd (x:Str):Prop:=(1≤x.length∧x.length≤12)∧okC x∧inB (.str x) wds=false
theorem in_wds {t:Str} (h:inB (.str t) wds=true):t="door"∨t="key"∨t="opens"∨t="rules"∨t="wing":=by
 have h':("door":Str)=t∨("key":Str)=t∨("opens":Str)=t∨("rules":Str)=t∨("wing":Str)=t:=by simpa [inB,wds,eqD] using h
 rcases h' with h|h|h|h|h<;>simp [←h]
theorem opn_out (t:Str):inB (.str (opn t)) wds=false:=by
 unfold opn
 by_cases h:inB (.str t) wds=true
 ·rw [if_pos h]
  rcases in_wds h with rfl|rfl|rfl|rfl|rfl<;>decide +kernel
 ·rw [if_neg h];simpa using h
theorem opn_le (t:Str) (h:t.length≤12):(opn t).length≤12:=by
 unfold opn
 by_cases h:inB (.str t) wds=true
 ·rw [if_pos h]
  rcases in_wds h with rfl|rfl|rfl|rfl|rfl<;>decide +kernel
 ·rw [if_neg h];assumption
theorem fN_Gd {l r z:Str} (hl:l.length+r.length≤10) (kl:okC l) (kr:okC r) (hz:okC z) (h9:z.length=9) (k:Nat):Gd (fN l r z k):=by
 unfold fN
 have e1:(⟨#[chz z (k%9)]⟩:Str).length=1:=rfl
 have e2:(⟨#[chz z (k / 9%9)]⟩:Str).length=1:=rfl
 refine ⟨⟨?_,opn_le _ (by rw [app_len,app_len,app_len];omega)⟩,opn_okC (app_okC (app_okC kl (app_okC (chz_okC hz h9 _ (Nat.mod_lt _ (by decide))) (chz_okC hz h9 _ (Nat.mod_lt _ (by decide))))) kr),opn_out _⟩
 rw [opn_len,app_len,app_len,app_len]
 omega
theorem fN_inj {l r z:Str} (hz:zOk z) {j k:Nat} (hj:j<81) (hk:k<81) (h:fN l r z j=fN l r z k):j=k:=by
 have l1:=opn_len (l++(⟨#[chz z (j%9)]⟩++⟨#[chz z (j / 9%9)]⟩)++r)
 have l2:=opn_len (l++(⟨#[chz z (k%9)]⟩++⟨#[chz z (k / 9%9)]⟩)++r)
 have h':opn (l++(⟨#[chz z (j%9)]⟩++⟨#[chz z (j / 9%9)]⟩)++r)=opn (l++(⟨#[chz z (k%9)]⟩++⟨#[chz z (k / 9%9)]⟩)++r):=h
 rw [h',l2] at l1
 have q1:(l++(⟨#[chz z (j%9)]⟩++⟨#[chz z (j / 9%9)]⟩)++r:Str).length=l.length+2+r.length:=by rw [app_len,app_len,app_len];rfl
 have q2:(l++(⟨#[chz z (k%9)]⟩++⟨#[chz z (k / 9%9)]⟩)++r:Str).length=l.length+2+r.length:=by rw [app_len,app_len,app_len];rfl
 rw [q1,q2] at l1
 have eq:(l++(⟨#[chz z (j%9)]⟩++⟨#[chz z (j / 9%9)]⟩)++r:Str)=l++(⟨#[chz z (k%9)]⟩++⟨#[chz z (k / 9%9)]⟩)++r:=by
  unfold opn at h'
  by_cases a:inB (.str (l++(⟨#[chz z (j%9)]⟩++⟨#[chz z (j / 9%9)]⟩)++r)) wds=true
  ·by_cases b:inB (.str (l++(⟨#[chz z (k%9)]⟩++⟨#[chz z (k / 9%9)]⟩)++r)) wds=true
   ·rw [if_pos a,if_pos b] at h'
    have h3:=congrArg (fun s:Str=>s.cps.toList) h'
    simp only [Str.cps_append,Array.toList_append,List.append_assoc,List.append_cancel_left_eq] at h3
    exact str_ext (by simp only [Str.cps_append,Array.toList_append,List.append_assoc,List.append_cancel_left_eq];simpa using h3)
   ·rw [if_pos a,if_neg b] at l1;omega
  ·by_cases b:inB (.str (l++(⟨#[chz z (k%9)]⟩++⟨#[chz z (k / 9%9)]⟩)++r)) wds=true
   ·rw [if_neg a,if_pos b] at l1;omega
   ·rw [if_neg a,if_neg b] at h';exact h'
 have h3:=congrArg (fun s:Str=>s.cps.toList) eq
 simp only [Str.cps_append,Array.toList_append,List.append_assoc,List.append_cancel_left_eq] at h3
 simp only [List.cons_append,List.nil_append,List.cons.injEq] at h3
 have g1:=hz.2 _ _ (Nat.mod_lt _ (by decide)) (Nat.mod_lt _ (by decide)) h3.1
 have g2:=hz.2 _ _ (Nat.mod_lt _ (by decide)) (Nat.mod_lt _ (by decide)) h3.2.1
 omega
theorem names_ex (c:Int) (M:Nat) (hM:M≤81):∃ f:Nat→Str,(∀ j k,j<81→k<81→f j=f k→j=k)∧(∀ k,Gd (f k))∧callR 2 m__law_names [.int c, .int (M:Int)]= .ok (sL (List.range M) f):=by
 obtain ⟨w,e1,hw,wk⟩:=name_ex c
 have e2:=lenR_s w (by omega)
 have d1:=divI c 7 (by decide) (by decide)
 have m1:=modI (c / 7) ((w.length:Int)+1) (by omega)
 have d2:=divI c 5 (by decide) (by decide)
 have m2:=modI (c / 5) 3 (by decide)
 obtain ⟨zd,ez,hz⟩:=atI_in (xs:= [D.str "bdfhkmpry", .str "yrpmkhfdb", .str "kbydrfmhp"]) (i:=c / 5%3) (Int.emod_nonneg _ (by decide)) (Int.emod_lt_of_pos _ (by decide))
 have ez':=ixR_l _ _ _ ez
 obtain ⟨z,rfl,hz9,zk⟩:∃ z:Str,zd= .str z∧zOk z∧okC z:=by
  simp only [List.mem_cons,List.not_mem_nil,or_false] at hz
  rcases hz with rfl|rfl|rfl
  ·exact ⟨"bdfhkmpry",rfl,⟨rfl,z_dec _ (by unfold chz;decide +kernel)⟩,by unfold okC;decide +kernel⟩
  ·exact ⟨"yrpmkhfdb",rfl,⟨rfl,z_dec _ (by unfold chz;decide +kernel)⟩,by unfold okC;decide +kernel⟩
  ·exact ⟨"kbydrfmhp",rfl,⟨rfl,z_dec _ (by unfold chz;decide +kernel)⟩,by unfold okC;decide +kernel⟩
 have rg:rng1R [.int (M:Int)]= .ok (rngD 0 M):=by
  have:=rng1_i (M:Int) (by omega) (by omega)
  rwa [show ((M:Int)).toNat=M by omega] at this
 have p0:=Int.emod_nonneg (c / 7) (show (w.length:Int)+1≠0 by omega)
 have p1:=Int.emod_lt_of_pos (c / 7) (show (0:Int)<(w.length:Int)+1 by omega)
 generalize c / 7%((w.length:Int)+1)=p at*
 have sm:=sl_sum w p p0 (by omega)
 have s1:=slS_is w none (some p) (by omega)
 have s2:=slS_is w (some p) none (by omega)
 have k1:okC (PySem.Txt.slice w none (some p)):=sl_okC wk _ _
 have k2:okC (PySem.Txt.slice w (some p) none):=sl_okC wk _ _
 generalize PySem.Txt.slice w none (some p)=l at*
 generalize PySem.Txt.slice w (some p) none=r at*
 obtain ⟨f,ef⟩:∃ f,f=fN l r z:=⟨_,rfl⟩
 obtain ⟨δ2,fo,x,y,rfl⟩:=forD_ix (t:=setI 6) (body:=l__law_names_1) (fun i δ=>∃ (x y:Option S),δ= [some (.d (.int c)),some (.d (.int (M:Int))),some (.d (.str w)),some (.d (.int p)),some (.d (.str z)),some (.o ((List.range i).map fun k=>D.str (f k))),x,y])
  (rngD 0 M) [some (.d (.int c)),some (.d (.int (M:Int))),some (.d (.str w)),some (.d (.int p)),some (.d (.str z)),some (.o []),none,none] (fun i d δ hd hI=>by
   obtain ⟨x,y,rfl⟩:=hI
   obtain ⟨hi,rfl⟩:=rngD_get hd
   obtain ⟨y2,e⟩:=names_turn (.int c) (.int (M:Int)) w z l r p i f ef y hz9 (by omega) (by omega) s1 s2 (by omega)
   refine ⟨_,rfl,_, .inl ?_,some (.d (.int (i:Int))),y2,rfl⟩
   rw [show (0+(i:Int))=(i:Int) by omega]
   exact e) ⟨none,none,rfl⟩
 rw [rngD_len] at fo
 refine ⟨f,fun j k hj hk e=>by rw [ef] at e;exact fN_inj hz9 hj hk e,fun k=>by rw [ef];exact fN_Gd (by omega) k1 k2 zk hz9.1 k,callR_eq _ _ _ _ ?_ rfl⟩
 unfold sL
 clear hw hz9 hz ez zk wk k1 k2 hM sm p0 p1
 generalize (M:Int)=MM at*
 generalize (List.range M).map (fun k=>D.str (f k))=ds at*
 generalize c / 5%3=q at*
 generalize (w.length:Int)=n at*
 unfold m__law_names b__law_names
 simp only [runD_eq,startD,List.map_cons,List.map_nil,List.length_cons,List.length_nil,List.cons_append,List.nil_append,Nat.reduceAdd,Nat.reduceSub,List.replicate,kD,b1,b2,asD,lstR,aCons,aNil,consR_ok,sSeq,sSet,sOwn,sFor,sRet,slotD_0,slotD_s,slotP_0,slotP_0o,slotP_s,Res.bind_ok,ofR_ok,seqO_nx,addD_ii,e1,e2,d1,m1,d2,m2,ez',rg,fo,List.set_cons_zero,List.set_cons_succ,finO_rt,Nat.reduceLeDiff,Nat.zero_le,if_true,reduceIte]
abbrev LET:Str:="abcdefghijklmnopqrstuvwxyz"
abbrev KWD:List D:= [.str "door", .str "key", .str "opens", .str "rules", .str "wing"]
def letB:D→Bool
 | .str c=>subS c LET
 |_=>false
def nameB (x:Str):Bool:= !inB (.str x) KWD&&(decide (1≤(x.length:Int)∧(x.length:Int)≤12)&&(signL x).all letB)
theorem has_A (X L:D) (ds bs:List D) (b:Bool) (e0:signR X= .ok ds) (e1:compR 1 (setI 0) (fun _=> .ok true) e_has_only_1 [some (.d X),some (.d L)] ds= .ok bs) (e2:allR (.lst bs)= .ok (.bl b)):callR 2 m_has_only [X,L]= .ok (.bl b):=by
 refine callR_eq _ _ _ _ ?_ rfl
 unfold m_has_only b_has_only
 walk_at "ev*"
theorem has_eq (x:Str) (h:x.length≤1000):callR 2 m_has_only [.str x, .str LET]= .ok (.bl ((signL x).all letB)):=by
 refine has_A _ _ (signL x) ((signL x).map fun d=>D.bl (letB d)) _ rfl (compR_ok ?_ (by unfold signL;rw [List.length_map,Array.length_toList];exact Nat.le_trans h (by decide))) (allR_map letB (signL x))
 refine comp_map (fun d=>D.bl (letB d)) _ _ none fun d hd=> ?_
 obtain ⟨c,rfl⟩:=signL_str hd
 rfl
theorem name_2 (X:D) (e:isiR "str" X= .ok (.bl true)) (e1:inR X (.tup ((["door","key","opens","rules","wing"]:List Str).map D.str))= .ok (.bl true)):callR 1 m_is_name [X]= .ok (.bl false):=by
 refine callR_eq _ _ _ _ ?_ rfl
 generalize hL:(D.tup ((["door","key","opens","rules","wing"]:List Str).map D.str))=L at e1
 unfold m_is_name b_is_name
 rw [hL]
 walk_at "ev*"
theorem name_3 (X:D) (n:Int) (e:isiR "str" X= .ok (.bl true)) (e1:inR X (.tup ((["door","key","opens","rules","wing"]:List Str).map D.str))= .ok (.bl false)) (e2:lenR X= .ok (.int n)) (h:decide (1≤n∧n≤12)=false):callR 1 m_is_name [X]= .ok (.bl false):=by
 refine callR_eq _ _ _ _ ?_ rfl
 generalize hL:(D.tup ((["door","key","opens","rules","wing"]:List Str).map D.str))=L at e1
 unfold m_is_name b_is_name
 rw [hL]
 walk_at "ev*"
theorem name_4 (X:D) (n:Int) (b:Bool) (e:isiR "str" X= .ok (.bl true)) (e1:inR X (.tup ((["door","key","opens","rules","wing"]:List Str).map D.str))= .ok (.bl false)) (e2:lenR X= .ok (.int n)) (h:decide (1≤n∧n≤12)=true) (e3:callR 2 m_has_only [X, .str LET]= .ok (.bl b)):callR 1 m_is_name [X]= .ok (.bl b):=by
 refine callR_eq _ _ _ _ ?_ rfl
 generalize hL:(D.tup ((["door","key","opens","rules","wing"]:List Str).map D.str))=L at e1
 unfold m_is_name b_is_name
 rw [hL]
 walk_at "ev*"
theorem name_eq (x:Str) (h:x.length≤1000):callR 1 m_is_name [.str x]= .ok (.bl (nameB x)):=by
 have e:isiR "str" (.str x)= .ok (.bl true):=isiR_str _ (by simp [ty_str])
 have e1:inR (.str x) (.tup ((["door","key","opens","rules","wing"]:List Str).map D.str))= .ok (.bl (inB (.str x) KWD)):=rfl
 have e2:=lenR_s x h
 unfold nameB
 cases hi:inB (.str x) KWD with
 |true=>rw [hi] at e1;exact name_2 _ e e1
 |false=>
  rw [hi] at e1
  cases hn:decide (1≤(x.length:Int)∧(x.length:Int)≤12) with
  |false=>exact name_3 _ _ e e1 e2 hn
  |true=>exact name_4 _ _ _ e e1 e2 hn (has_eq x h)
theorem letC (c:Nat):letB (.str ⟨#[c]⟩)=decide (c∈letL):=by
 have:=StrLaws.found_one LET c
 show subS ⟨#[c]⟩ LET=_
 unfold subS
 rw [this]
 rfl
theorem name_Gd (x:Str) (h:Gd x):callR 1 m_is_name [.str x]= .ok (.bl true):=by
 have hl:=h.1
 rw [name_eq x (by omega)]
 have e1:inB (.str x) KWD=false:=h.2.2
 have e2:(signL x).all letB=true:=by
  unfold signL
  rw [List.all_map,List.all_eq_true]
  intro c hc
  show letB (.str ⟨#[c]⟩)=true
  rw [letC,decide_eq_true (h.2.1 c hc)]
 unfold nameB
 rw [e1,e2,decide_eq_true (by omega)]
 rfl
theorem noexO_nx (δ:DSt):noexO (.nx δ)= .nx δ:=rfl
theorem noexO_rt (d:D):noexO (.rt d)= .rt d:=rfl
def finX:Out→Res D
 | .rt d=> .ok d
 | .nx _=> .ok .non
 | .ex c fs=> .ex c fs
 |_=> .stuck
theorem runX_eq (n:Nat) (g:DSt→Out) (ds:List D):runX n g ds=finX (g (startD n ds)):=by unfold runX finX;cases g (startD n ds)<;>rfl
theorem finX_rt (d:D):finX (.rt d)= .ok d:=rfl
theorem finX_nx (δ:DSt):finX (.nx δ)= .ok .non:=rfl
theorem finX_ex (c:Str) (fs:List D):finX (.ex c fs)= .ex c fs:=rfl
theorem seqO_ex (c:Str) (fs:List D) (g:DSt→Out):seqO (.ex c fs) g= .ex c fs:=rfl
local macro_rules| `(tactic| walk_at "evx*")=> `(tactic| simp only [noxS,noxB,noxA,noexO_nx,noexO_rt,runX_eq,finX_rt,finX_nx,finX_ex,seqO_ex,sRaise,ofR_ok,runD_eq,startD,List.map_cons,List.map_nil,List.length_cons,List.length_nil,List.cons_append,List.nil_append,Nat.reduceAdd,Nat.reduceSub,List.replicate,
 kD,b1,b2,b3,bCh,tR,tAnd2,tOr2,tNot1,vAnd,vOr,vIf,aNil,aCons,oNone,asD,vComp,sSeq,sSet,sOwn,sIf,sFor,sWhile,b2F,sApp,sRet,sRetN,sExpr,sAsg,sSetI,sOwnR,sOwnQ,sPutI,b1Q,b2Q,
 slotD_0,slotD_s,slotP_0,slotP_0o,slotP_s,Res.bind_ok,Res.bind_ex,Res.bind_stuck,ofR_ok,ofR_ex,ofR_stuck,seqO_nx,seqO_rt,seqO_stuck,ifO_ok,andB_ok,orB_ok,andD_bl,orD_bl,boolR_bl,notD_bl,
 eqR_ii,neR_ii,eqR_bb,ltR_ii,leR_ii,gtR_ii,geR_ii,addD_ii,addD_small,subD_ii,negD_i,modD_ii,fdivD_ii,mulE_ii,maxR_ii,minR_ii,absR_i,lenR_t,lenR_l,seqR_t,seqR_l,tupofR_t,tupofR_l,partR_i,consR_ok,noex_ok,slD_l,slW_l,finO_rt,finO_nx,chain_le,chain_lelt,
 List.set_cons_zero,List.set_cons_succ,lstR,tupR,if_true,if_false,reduceIte,Bool.not_true,Bool.not_false,Bool.false_eq_true,Nat.zero_le,Nat.reduceLeDiff,Nat.zero_add,Int.reduceLT,true_and,and_true,and_self, *])
local macro_rules| `(tactic| walk_at "evm*")=> `(tactic| simp only [bM,runD_eq,startD,List.map_cons,List.map_nil,List.length_cons,List.length_nil,List.cons_append,List.nil_append,Nat.reduceAdd,Nat.reduceSub,List.replicate,
 kD,b1,b2,b3,bCh,tR,tAnd2,tOr2,tNot1,vAnd,vOr,vIf,aNil,aCons,oNone,asD,vComp,sSeq,sSet,sOwn,sIf,sFor,sWhile,b2F,sApp,sRet,sRetN,sExpr,sAsg,sSetI,sOwnR,sOwnQ,sPutI,b1Q,b2Q,
 slotD_0,slotD_s,slotP_0,slotP_0o,slotP_s,Res.bind_ok,Res.bind_ex,Res.bind_stuck,ofR_ok,ofR_ex,ofR_stuck,seqO_nx,seqO_rt,seqO_stuck,ifO_ok,andB_ok,orB_ok,andD_bl,orD_bl,boolR_bl,notD_bl,
 eqR_ii,neR_ii,eqR_bb,ltR_ii,leR_ii,gtR_ii,geR_ii,addD_ii,addD_small,subD_ii,negD_i,modD_ii,fdivD_ii,mulE_ii,maxR_ii,minR_ii,absR_i,lenR_t,lenR_l,seqR_t,seqR_l,tupofR_t,tupofR_l,partR_i,consR_ok,noex_ok,slD_l,slW_l,finO_rt,finO_nx,chain_le,chain_lelt,
 List.set_cons_zero,List.set_cons_succ,lstR,tupR,if_true,if_false,reduceIte,Bool.not_true,Bool.not_false,Bool.false_eq_true,Nat.zero_le,Nat.reduceLeDiff,Nat.zero_add,Int.reduceLT,true_and,and_true,and_self, *])
theorem eqS (a b:Str):eqR (.str a) (.str b)= .ok (.bl (decide (a=b))):=by
 unfold eqR
 rw [if_pos (by simp [shal])]
 simp only [eqD]
 congr 2
theorem neS (a b:Str):neR (.str a) (.str b)= .ok (.bl (!decide (a=b))):=by
 unfold neR
 rw [if_pos (by simp [shal])]
 simp only [eqD]
 congr 3
theorem written_eq (x:Str) (h:x.length≤1000):callR 2 m_is_written [.str x, .int 3]= .ok (.bl (wrB x)):=by
 have ln:=lenR_s x h
 have hf:=has_fig x h
 by_cases hl:1≤x.length∧x.length≤3
 ·have dt:decide (1≤(x.length:Int)∧(x.length:Int)≤3)=true:=decide_eq_true (by omega)
  cases hb:(signL x).all figB with
  |false=>
   rw [hb] at hf
   have hw:wrB x=false:=by unfold wrB;rw [hb];simp
   rw [hw]
   refine callR_eq _ _ _ _ ?_ rfl
   clear hb hw hl
   generalize (x.length:Int)=n at*
   unfold m_is_written b_is_written
   walk_at "ev*"
  |true=>
   rw [hb] at hf
   obtain ⟨c,cs,hc⟩:∃ c cs,x.cps.toList=c::cs:=by
    cases hx:x.cps.toList with
    |nil=>
     have:x.length=0:=by show x.cps.size=0;rw [←Array.length_toList,hx];rfl
     omega
    |cons c cs=>exact ⟨c,cs,rfl⟩
   have ix:ixR (.str x) (.int 0)= .ok (.str ⟨#[c]⟩):=by
    show (@ite (Res D) _ (Classical.propDecidable _) (match atI x.cps.toList 0 with|some c=>Res.ok (D.str ⟨#[c]⟩)|none=> .stuck) .stuck)=_
    rw [if_pos (Nat.le_trans h k1000),hc,show atI (c::cs) 0=some c from atI_pos (by omega) rfl]
   have e1:=eqS x "0"
   have e2:=neS ⟨#[c]⟩ "0"
   have ec:decide ((⟨#[c]⟩:Str)="0")=(c==48):=by
    have:(⟨#[c]⟩:Str)="0"↔c=48:=by
     constructor
     ·intro z
      have z':=congrArg (fun s:Str=>s.cps.toList) z
      have z2: [c]= [48]:=z'
      simpa using z2
     ·intro z;subst z;rfl
    rw [Bool.eq_iff_iff]
    simp [this]
   rw [ec] at e2
   have hw:wrB x=(decide (x="0")|| !(c==48)):=by
    unfold wrB
    rw [hb,decide_eq_true hl,hc]
    simp [Bool.beq_eq_decide_eq]
   rw [hw]
   refine callR_eq _ _ _ _ ?_ rfl
   clear hb hw hl hc ec
   generalize (x.length:Int)=n at*
   generalize decide (x="0")=b at*
   unfold m_is_written b_is_written
   cases b<;>(walk_at "ev*";rfl)
 ·have dt:decide (1≤(x.length:Int)∧(x.length:Int)≤3)=false:=decide_eq_false (by omega)
  have hw:wrB x=false:=by unfold wrB;rw [decide_eq_false hl];rfl
  rw [hw]
  refine callR_eq _ _ _ _ ?_ rfl
  clear hw hl
  generalize (x.length:Int)=n at*
  unfold m_is_written b_is_written
  walk_at "ev*"
def figL:List Nat:= [48,49,50,51,52,53,54,55,56,57]
theorem figC (c:Nat):figB (.str ⟨#[c]⟩)=decide (c∈figL):=by
 have:=StrLaws.found_one FIG c
 show subS ⟨#[c]⟩ FIG=_
 unfold subS
 rw [this]
 rfl
theorem sig_all (x:Str):(signL x).all figB=x.cps.toList.all fun c=>decide (c∈figL):=by
 unfold signL
 rw [List.all_map]
 refine congrArg (fun f=>x.cps.toList.all f) (funext fun c=> ?_)
 exact figC c
def vI (x:Str):Int:=(PySem.intText? x).getD 0
def okI (x:Str):Bool:=match PySem.intText? x with
 |some v=>decide (0≤v)
 |none=>false
theorem fig3:(figL.all fun a=>okI ⟨#[a]⟩&&figL.all fun b=>okI ⟨#[a,b]⟩&&figL.all fun c=>okI ⟨#[a,b,c]⟩)=true:=by decide +kernel
theorem okI_v {x:Str} (h:okI x=true):PySem.intText? x=some (vI x)∧0≤vI x:=by
 unfold okI at h
 unfold vI
 cases e:PySem.intText? x with
 |none=>rw [e] at h;cases h
 |some v=>rw [e] at h;exact ⟨rfl,of_decide_eq_true h⟩
theorem wr_int {x:Str} (h:wrB x=true):PySem.intText? x=some (vI x)∧0≤vI x∧x.length≤3:=by
 have h0:=h
 unfold wrB at h
 rw [sig_all] at h
 simp only [Bool.and_eq_true,decide_eq_true_eq,List.all_eq_true] at h
 obtain ⟨⟨l1,l2⟩,hf,_⟩:=h
 have f3:=fig3
 simp only [List.all_eq_true,Bool.and_eq_true] at f3
 have hx:x=⟨x.cps.toList.toArray⟩:=by rw [Array.toArray_toList]
 have hl:x.cps.toList.length=x.length:=Array.length_toList
 have key:okI x=true:=by
  rw [hx]
  revert hf hl
  generalize x.cps.toList=l
  intro hf hl
  match l,hf,hl with
  | [],_,hl=>simp at hl;omega
  | [a],hf,_=>exact (f3 a (hf a (by simp))).1
  | [a,b],hf,_=>exact ((f3 a (hf a (by simp))).2 b (hf b (by simp))).1
  | [a,b,c],hf,_=>exact ((f3 a (hf a (by simp))).2 b (hf b (by simp))).2 c (hf c (by simp))
  |_::_::_::_::_,_,hl=>simp at hl;omega
 exact ⟨(okI_v key).1,(okI_v key).2,l2⟩
theorem intS_wr {x:Str} (h:wrB x=true):intS (.str x)= .ok (.int (vI x)):=by
 obtain ⟨a,_,b⟩:=wr_int h
 unfold intS
 dsimp only
 rw [a]
 dsimp only
 rw [if_pos (by omega)]
def numsD (xs:List Str):D:=if xs.all wrB=true then .tup ((xs.map vI).map D.int) else .non
theorem nums_eq (c:Nat) (w:Str) (hw:w.length≤900):callR 2 m_numbers_in [.str w, .str ⟨#[c]⟩]= .ok (numsD (PySem.Txt.split w ⟨#[c]⟩)):=by
 have is:isiR "str" (.str w)= .ok (.bl true):=isiR_str _ (by simp [ty_str])
 have sp:splitR w [.str ⟨#[c]⟩]= .ok ((PySem.Txt.split w ⟨#[c]⟩).map D.str):=splitR_eq w c hw
 have hs:∀ x∈PySem.Txt.split w ⟨#[c]⟩,x.length≤900:=fun x hx=>Nat.le_trans (part_short hx) hw
 have hn:(PySem.Txt.split w ⟨#[c]⟩).length≤902:=Nat.le_trans (split_le _ _) (by omega)
 generalize PySem.Txt.split w ⟨#[c]⟩=xs at*
 have sq:seqR (.lst (xs.map D.str))= .ok (xs.map D.str):=rfl
 have c1:compR 1 (setI 0) (fun _=> .ok true) e_numbers_in_1 [some (.d (.str w)),some (.d (.str ⟨#[c]⟩)),some (.d (.lst (xs.map D.str)))] (xs.map D.str)= .ok (xs.map fun x=>D.bl (wrB x)):=by
  refine compR_ok ?_ (by rw [List.length_map];omega)
  have:=comp_map (fe:=e_numbers_in_1) (fun d=>match d with| .str x=> .bl (wrB x)|_=> .non) [some (.d (.str w)),some (.d (.str ⟨#[c]⟩)),some (.d (.lst (xs.map D.str)))] (xs.map D.str) none (fun d hd=>by
   obtain ⟨x,hx',rfl⟩:=List.mem_map.mp hd
   have e:=written_eq x (by have:=hs x hx';omega)
   unfold e_numbers_in_1
   simp only [b1,aCons,aNil,kD,slotD_0,consR_ok,Res.bind_ok,e])
  rw [List.map_map] at this
  exact this
 have al:allR (.lst (xs.map fun x=>D.bl (wrB x)))= .ok (.bl (xs.all wrB)):=allR_map wrB xs
 refine callR_eq _ _ _ _ ?_ rfl
 unfold numsD
 cases hb:xs.all wrB with
 |false=>
  rw [hb] at al
  rw [if_neg Bool.false_ne_true]
  clear hs hb
  generalize xs.map (fun x=>D.bl (wrB x))=bs at*
  generalize xs.map D.str=ss at*
  unfold m_numbers_in b_numbers_in
  simp only [runD_eq,startD,List.map_cons,List.map_nil,List.length_cons,List.length_nil,List.cons_append,List.nil_append,Nat.reduceAdd,Nat.reduceSub,List.replicate,sSeq,sIf,sSet,sRet,tNot1,tR,b1,bM,asD,vComp,aCons,aNil,kD,slotP_0,slotD_0,slotD_s,consR_ok,Res.bind_ok,is,boolR_bl,ifO_ok,Bool.not_true,Bool.not_false,Bool.false_eq_true,if_false,if_true,reduceIte,seqO_nx,seqO_rt,sp,ofR_ok,List.set_cons_zero,List.set_cons_succ,sq,c1,al,finO_rt]
 |true=>
  rw [hb] at al
  rw [if_pos rfl]
  have c2:compR 1 (setI 0) (fun _=> .ok true) e_numbers_in_2 [some (.d (.str w)),some (.d (.str ⟨#[c]⟩)),some (.d (.lst (xs.map D.str)))] (xs.map D.str)= .ok ((xs.map vI).map D.int):=by
   refine compR_ok ?_ (by rw [List.length_map];omega)
   have:=comp_map (fe:=e_numbers_in_2) (fun d=>match d with| .str x=> .int (vI x)|_=> .non) [some (.d (.str w)),some (.d (.str ⟨#[c]⟩)),some (.d (.lst (xs.map D.str)))] (xs.map D.str) none (fun d hd=>by
    obtain ⟨x,hx',rfl⟩:=List.mem_map.mp hd
    have e:=intS_wr (List.all_eq_true.mp hb x hx')
    unfold e_numbers_in_2
    simp only [b1,slotP_0,Res.bind_ok,e])
   rw [List.map_map] at this ⊢
   exact this
  have tt:tupofR (.lst ((xs.map vI).map D.int))= .ok (.tup ((xs.map vI).map D.int)):=rfl
  clear hs hb
  generalize (xs.map vI).map D.int=ns at*
  generalize xs.map (fun x=>D.bl (wrB x))=bs at*
  generalize xs.map D.str=ss at*
  unfold m_numbers_in b_numbers_in
  simp only [runD_eq,startD,List.map_cons,List.map_nil,List.length_cons,List.length_nil,List.cons_append,List.nil_append,Nat.reduceAdd,Nat.reduceSub,List.replicate,sSeq,sIf,sSet,sRet,tNot1,tR,b1,bM,asD,vComp,aCons,aNil,kD,slotP_0,slotD_0,slotD_s,consR_ok,Res.bind_ok,is,boolR_bl,ifO_ok,Bool.not_true,Bool.false_eq_true,if_false,reduceIte,seqO_nx,sp,ofR_ok,List.set_cons_zero,List.set_cons_succ,sq,c1,al,c2,tt,finO_rt]
theorem jn_mem (c a:Nat):∀ {xs:List (List Nat)},a∈jn c xs→a=c∨∃ x∈xs,a∈x
 | [],h=>by cases h
 | [x],h=> .inr ⟨x,by simp,h⟩
 |x::y::r,h=>by
  rw [jn_cons c x (by simp),List.mem_append,List.mem_cons] at h
  rcases h with h|h|h
  ·exact .inr ⟨x,by simp,h⟩
  ·exact .inl h
  ·rcases jn_mem c a h with e|⟨z,hz,e⟩
   ·exact .inl e
   ·exact .inr ⟨z,List.mem_cons_of_mem _ hz,e⟩
def bnd (p d h s:Int):Bool:=decide (1≤p∧p≤24)&&decide (2≤d∧d≤20)&&decide (1≤h∧h≤d)&&decide (1≤s∧s≤d-1)
theorem whole_i (n:Int):callR 1 m_is_whole [.int n]= .ok (.bl true):=by
 have e1:isiR "int" (.int n)= .ok (.bl true):=by simp [isiR,tyD,isiB]
 have e2:isiR "bool" (.int n)= .ok (.bl false):=by simp [isiR,tyD,isiB]
 refine callR_eq _ _ _ _ ?_ rfl
 unfold m_is_whole b_is_whole
 walk_at "ev*"
def rB:List Int→Bool
 | [a,b,c,d]=>bnd a b c d
 |_=>false
theorem bounded_eq (p d h s:Int):callR 1 m_are_bounded [.tup [.int p, .int d, .int h, .int s]]= .ok (.bl (bnd p d h s)):=by
 have e0:callR 1 m_places_of [.tup [.int p, .int d, .int h, .int s]]= .ok (.int p):=rfl
 have e1:callR 1 m_depths_of [.tup [.int p, .int d, .int h, .int s]]= .ok (.int d):=rfl
 have e2:callR 1 m_heights_of [.tup [.int p, .int d, .int h, .int s]]= .ok (.int h):=rfl
 have e3:callR 1 m_step_of [.tup [.int p, .int d, .int h, .int s]]= .ok (.int s):=rfl
 generalize D.tup [.int p, .int d, .int h, .int s]=T at*
 refine callR_eq _ _ _ _ ?_ rfl
 unfold bnd
 cases h1:decide (1≤p∧p≤24)<;>cases h2:decide (2≤d∧d≤20)<;>cases h3:decide (1≤h∧h≤d)<;>cases h4:decide (1≤s∧s≤d-1)<;>
  (unfold m_are_bounded b_are_bounded;walk_at "ev*";try rfl)
theorem is_rules_nums (xs:List Str) (hl:xs.length≤1000):callR 1 m_is_rules [numsD xs]= .ok (.bl (xs.all wrB&&rB (xs.map vI))):=by
 refine callR_eq _ _ _ _ ?_ rfl
 unfold numsD
 cases hb:xs.all wrB with
 |false=>
  have e:isiR "tuple" .non= .ok (.bl false):=by simp [isiR,tyD,isiB]
  rw [if_neg Bool.false_ne_true,Bool.false_and]
  unfold m_is_rules b_is_rules
  walk_at "ev*"
 |true=>
  rw [if_pos rfl,Bool.true_and]
  have e:isiR "tuple" (.tup ((xs.map vI).map D.int))= .ok (.bl true):=by simp [isiR,tyD,isiB]
  have hn:(xs.map vI).length≤1000:=by rw [List.length_map];exact hl
  generalize xs.map vI=ns at*
  clear hb hl
  by_cases h4:ns.length=4
  ·match ns,h4 with
   | [a,b,c,d],_=>
    have ln:lenR (.tup ([a,b,c,d].map D.int))= .ok (.int 4):=rfl
    have bo:=bounded_eq a b c d
    have ne4:neR (.int 4) (.int 4)= .ok (.bl false):=by rw [neR_ii];rfl
    have c1:compR 1 (setI 0) (fun _=> .ok true) e_is_rules_1 [some (.d (.tup ([a,b,c,d].map D.int)))] ([a,b,c,d].map D.int)= .ok [.bl true, .bl true, .bl true, .bl true]:=by
     refine compR_ok ?_ (by simp)
     have:=comp_map (fe:=e_is_rules_1) (fun _=> .bl true) [some (.d (.tup ([a,b,c,d].map D.int)))] ([a,b,c,d].map D.int) none (fun x hx=>by
      obtain ⟨n,_,rfl⟩:=List.mem_map.mp hx
      have w:=whole_i n
      unfold e_is_rules_1
      simp only [b1,aCons,aNil,slotD_0,consR_ok,Res.bind_ok,w])
     exact this
    have sq:seqR (.tup ([a,b,c,d].map D.int))= .ok ([a,b,c,d].map D.int):=rfl
    have al:allR (.lst [.bl true, .bl true, .bl true, .bl true])= .ok (.bl true):=rfl
    have bo':callR 1 m_are_bounded [.tup ([a,b,c,d].map D.int)]= .ok (.bl (bnd a b c d)):=bo
    have eb:rB [a,b,c,d]=bnd a b c d:=rfl
    rw [eb]
    clear bo eb
    generalize bnd a b c d=B at*
    generalize [a,b,c,d].map D.int=L at*
    generalize D.tup L=T at*
    unfold m_is_rules b_is_rules
    simp only [runD_eq,startD,List.map_cons,List.map_nil,List.length_cons,List.length_nil,List.cons_append,List.nil_append,Nat.reduceAdd,Nat.reduceSub,List.replicate,List.append_nil,sSeq,sIf,sRet,tOr2,tNot1,tR,b1,b2,kD,asD,vComp,vAnd,aCons,aNil,slotP_0,slotD_0,consR_ok,Res.bind_ok,e,ln,sq,c1,al,bo',ne4,boolR_bl,orB_ok,Bool.not_true,Bool.false_eq_true,if_false,if_true,reduceIte,ifO_ok,seqO_nx,ofR_ok,andD_bl,finO_rt]
  ·have ln:lenR (.tup (ns.map D.int))= .ok (.int ns.length):=by rw [lenR_t,List.length_map]
   have ne:neR (.int (ns.length:Int)) (.int 4)= .ok (.bl true):=by rw [neR_ii];congr 2;simp;omega
   have rb:rB ns=false:=by
    match ns,h4 with
    | [],_=>rfl
    | [_],_=>rfl
    | [_,_],_=>rfl
    | [_,_,_],_=>rfl
    | [_,_,_,_],h=>exact absurd rfl h
    |_::_::_::_::_::_,_=>rfl
   rw [rb]
   clear rb h4 hn
   generalize ns.map D.int=L at*
   generalize (ns.length:Int)=n at*
   unfold m_is_rules b_is_rules
   simp only [runD_eq,startD,List.map_cons,List.map_nil,List.length_cons,List.length_nil,List.cons_append,List.nil_append,Nat.reduceAdd,Nat.reduceSub,List.replicate,List.append_nil,sSeq,sIf,sRet,tOr2,tNot1,tR,b1,b2,kD,slotP_0,slotD_0,Res.bind_ok,e,ln,ne,boolR_bl,orB_ok,Bool.not_true,Bool.false_eq_true,if_false,if_true,reduceIte,ifO_ok,seqO_rt,ofR_ok,finO_rt]
theorem read_y (t N:D) (hn:callR 2 m_numbers_in [t, .str " "]= .ok N) (hc:callR 1 m_is_rules [N]= .ok (.bl true)):m_read_rules [t]= .ok N:=by
 unfold m_read_rules b_read_rules
 walk_at "evx*"
theorem nums_sp (w:Str) (hw:w.length≤900):callR 2 m_numbers_in [.str w, .str " "]= .ok (numsD (PySem.Txt.split w ⟨#[32]⟩)):=nums_eq 32 w hw
def prD (p:Str×List Str):D:= .tup [.str p.1, .lst (p.2.map D.str)]
def PrOk (p:Str×List Str):Prop:=p.1.length≤20∧p.2≠ []∧p.2.length≤6∧∀ w∈p.2,w.length≤20
theorem cut_str (ws:List Str) (lo hi:Option Int):cutD (ws.map D.str) lo hi=((ws.drop (HT.sIx ws.length 0 lo)).take (HT.sIx ws.length ws.length hi-HT.sIx ws.length 0 lo)).map D.str:=by
 unfold L3.cutD
 rw [List.length_map,List.map_take,List.map_drop]
theorem slL_l (ds:List D) (lo hi:Option Int):slL (.lst ds) lo hi= .ok (cutD ds lo hi):=rfl
theorem catR_l (xs ys:List D) (h:xs.length+ys.length≤1000):catR (.lst xs) (.lst ys)= .ok (xs++ys):=if_pos (z1000 h)
theorem sIx_nat (n d:Nat) (k:Int) (h0:0≤k):HT.sIx n d (some k)=min k.toNat n:=by
 obtain ⟨m,rfl⟩:∃ m:Nat,k=m:=⟨k.toNat,by omega⟩
 rw [HT.sIx_nat,Int.toNat_natCast]
theorem comp_pr {fe:DSt→Res D} (f:Str×List Str→D) (δ:DSt):∀ (ps:List (Str×List Str)) (x y:Option S),(∀ p∈ps,fe (some (.d (.str p.1))::some (.d (.lst (p.2.map D.str)))::δ)= .ok (f p))→
  compD (unTup 2 (unCons (setI 0) (unCons (setI 1) unNil))) (fun _=> .ok true) fe (ps.map prD) (x::y::δ)= .ok (ps.map f)
 | [],_,_,_=>rfl
 |p::ps,x,y,h=>by
  rw [List.map_cons,compD_cons (δ':=some (.d (.str p.1))::some (.d (.lst (p.2.map D.str)))::δ) _ _ _ _ rfl]
  simp only [noex_ok,Res.bind_ok,if_true,h p List.mem_cons_self,comp_pr f δ ps _ _ (fun q hq=>h q (List.mem_cons_of_mem _ hq)),List.map_cons]
theorem copied_eq (ps:List (Str×List Str)) (hl:ps.length≤1000):callR 1 m_copied [.lst (ps.map prD)]= .ok (.lst (ps.map prD)):=by
 have c:=compR_ok (n:=2) (c:=fun _=> .ok true) (fe:=e_copied_1) (δ:= [some (.d (.lst (ps.map prD)))]) (comp_pr (fe:=e_copied_1) prD [some (.d (.lst (ps.map prD)))] ps none none (fun p _=>by
  unfold e_copied_1 prD
  simp only [b1,asD,tupR,aCons,aNil,consR_ok,slotD_0,slotD_s,slotP_0,slotP_s,Res.bind_ok,seqR_l,List.length_cons,List.length_nil,Nat.reduceAdd,Nat.reduceLeDiff,if_true,reduceIte])) (by rw [List.length_map];omega)
 refine callR_eq _ _ _ _ ?_ rfl
 generalize ps.map prD=P at*
 unfold m_copied b_copied
 simp only [runD_eq,startD,List.map_cons,List.map_nil,List.length_cons,List.length_nil,List.cons_append,List.nil_append,Nat.reduceAdd,Nat.reduceSub,List.replicate,b1,asD,vComp,sRet,slotD_0,Res.bind_ok,ofR_ok,seqR_l,c,finO_rt]
abbrev HsD (R A B C:D):D:= .obj "House" ["rules","doors","wings","grants"] [R,A,B,C]
theorem make_eq (R:D) (ds:List D) (ps qs:List (Str×List Str)) (hp:ps.length≤1000) (hq:qs.length≤1000):callR 4 (makeR 4 "House" fs_House) [R, .lst ds, .lst (ps.map prD), .lst (qs.map prD)]= .ok (HsD R (.lst ds) (.lst (ps.map prD)) (.lst (qs.map prD))):=by
 have e1:=copied_eq ps hp
 have e2:=copied_eq qs hq
 refine callR_eq _ _ _ _ ?_ rfl
 generalize ps.map prD=P at*
 generalize qs.map prD=Q at*
 unfold makeR fs_House
 simp only [fldsR,startD,List.map_cons,List.map_nil,List.length_cons,List.length_nil,List.cons_append,List.nil_append,Nat.reduceAdd,Nat.reduceSub,List.replicate,b1,asD,aCons,aNil,consR_ok,slotD_0,slotD_s,slotP_0,slotP_s,Res.bind_ok,seqR_l,e1,e2]
theorem fld1 (R A B C:D):fldR "House" "rules" (HsD R A B C)= .ok R:=rfl
theorem fld2 (R A B C:D):fldR "House" "doors" (HsD R A B C)= .ok A:=rfl
theorem fld3 (R A B C:D):fldR "House" "wings" (HsD R A B C)= .ok B:=rfl
theorem fld4 (R A B C:D):fldR "House" "grants" (HsD R A B C)= .ok C:=rfl
theorem joinR_big (c:Nat) (xs:List Str) (h:(xs.map (·.length)).sum+xs.length≤100000):joinR ⟨#[c]⟩ [.lst (xs.map D.str)]= .ok (.str (PySem.Txt.join ⟨#[c]⟩ xs)):=by
 unfold joinR
 dsimp only
 rw [strsOf_map]
 dsimp only
 refine if_pos ?_
 unfold JoinOk Builtin.Str.tooLong
 rw [StrLaws.joinTotal]
 have:sizeLine=16777216:=sizeLine_eq
 have e:(⟨#[c]⟩:Str).length=1:=rfl
 rw [e]
 simp
 omega
theorem sum_le {α:Type} (f:α→Nat) (k:Nat):∀ l:List α,(∀ a∈l,f a≤k)→(l.map f).sum≤k*l.length
 | [],_=>by simp
 |a::l,h=>by
  rw [List.map_cons,List.sum_cons,List.length_cons,Nat.mul_succ]
  have:=h a List.mem_cons_self
  have:=sum_le f k l fun b hb=>h b (List.mem_cons_of_mem _ hb)
  omega
def rowP (k l:Str) (p:Str×List Str):Str:=PySem.Txt.join ⟨#[32]⟩ (k::p.1::l::p.2)
theorem row_cps (k l k' l':Str) (p:Str×List Str) (h:p.2≠ []) (hk:k'.cps.toList=k.cps.toList++ [32]) (hl:l'.cps.toList=32::(l.cps.toList++ [32])):rowP k l p=k'++p.1++l'++PySem.Txt.join ⟨#[32]⟩ p.2:=by
 refine str_ext ?_
 unfold rowP
 rw [show PySem.Txt.join ⟨#[32]⟩ (k::p.1::l::p.2)=Str.join ⟨#[32]⟩ (k::p.1::l::p.2) from StrLaws.glued_eq_join _ _,show PySem.Txt.join ⟨#[32]⟩ p.2=Str.join ⟨#[32]⟩ p.2 from StrLaws.glued_eq_join _ _]
 have hn:(p.2.map fun x:Str=>x.cps.toList)≠ []:=fun z=>h (List.map_eq_nil_iff.mp z)
 rw [join_cps,List.map_cons,List.map_cons,List.map_cons,jn_cons _ _ (by simp),jn_cons _ _ (by simp),jn_cons _ _ hn,←join_cps]
 rw [Str.cps_append,Str.cps_append,Str.cps_append,Array.toList_append,Array.toList_append,Array.toList_append,hk,hl]
 simp
theorem pr_sum (k l:Str) (p:Str×List Str) (h:PrOk p) (hk:k.length≤10) (hl:l.length≤10):((k::p.1::l::p.2).map (·.length)).sum+(k::p.1::l::p.2).length≤200:=by
 obtain ⟨h1,h2,h3,h4⟩:=h
 have:=sum_le (fun x:Str=>x.length) 20 p.2 h4
 simp only [List.map_cons,List.sum_cons,List.length_cons]
 omega
theorem row_len (k l:Str) (p:Str×List Str) (h:PrOk p) (hk:k.length≤10) (hl:l.length≤10):(rowP k l p).length≤200:=Nat.le_trans (join_len _ _) (pr_sum k l p h hk hl)
theorem thing_eq (k l:Str) (p:Str×List Str) (h:PrOk p) (hk:k.length≤10) (hl:l.length≤10) (ht:tabG D.str [("wing","="),("key","opens")] (.str k)= .ok (.str l)):callR 2 m_shown_thing [.str k,prD p]= .ok (.str (rowP k l p)):=by
 have e1:ixR (prD p) (.int 0)= .ok (.str p.1):=rfl
 have e2:ixR (prD p) (.int 1)= .ok (.lst (p.2.map D.str)):=rfl
 have e3:=catR_l [.str k, .str p.1, .str l] (p.2.map D.str) (by have:=h.2.2.1;rw [List.length_map];simp only [List.length_cons,List.length_nil];omega)
 have e4:joinR " " [.lst ([.str k, .str p.1, .str l]++p.2.map D.str)]= .ok (.str (rowP k l p)):=joinR_big 32 (k::p.1::l::p.2) (Nat.le_trans (pr_sum k l p h hk hl) (by decide))
 refine callR_eq _ _ _ _ ?_ rfl
 generalize ([.str k, .str p.1, .str l]++p.2.map D.str:List D)=J at*
 generalize p.2.map D.str=M at*
 generalize prD p=P at*
 clear h hk hl
 unfold m_shown_thing b_shown_thing
 simp only [runD_eq,startD,List.map_cons,List.map_nil,List.length_cons,List.length_nil,List.cons_append,List.nil_append,Nat.reduceAdd,Nat.reduceSub,List.replicate,kD,b1,b2,b2F,bM,asD,lstR,aCons,aNil,consR_ok,sRet,slotD_0,slotD_s,slotP_0,slotP_s,Res.bind_ok,ofR_ok,e1,e2,ht,e3,e4,finO_rt,Nat.reduceLeDiff,if_true,reduceIte]
def rulS (a b c d:Int):Str:=PySem.Txt.join ⟨#[32]⟩ [toString a,toString b,toString c,toString d]
theorem num_len (c:Int) (h:0≤c∧c<100):(toString c:Str).length≤2∧strR (.int c)= .ok (.str (toString c)):=by
 obtain ⟨n,rfl⟩:∃ n:Nat,c=n:=⟨c.toNat,by omega⟩
 have hn:n<100:=by omega
 have g:∀ n:Nat,n<100→(toString (n:Int):Str).length≤2∧(n:Int).natAbs.log2<1920:=by decide +kernel
 exact ⟨(g n hn).1,if_pos (g n hn).2⟩
theorem comp_str {fe:DSt→Res D} (δ:DSt) (a b c d:Int) (hfe:fe=b1 strR (slotP 0)) (h:∀ x∈ [a,b,c,d],0≤x∧x<100):compR 1 (setI 0) (fun _=> .ok true) fe δ [.int a, .int b, .int c, .int d]= .ok (([toString a,toString b,toString c,toString d]:List Str).map D.str):=by
 subst hfe
 refine compR_ok ?_ (by show 4≤100000;decide)
 have:=comp_map (fe:=b1 strR (slotP 0)) (fun x=>match x with| .int i=> .str (toString i)|_=> .non) δ [.int a, .int b, .int c, .int d] none (fun x hx=>by
  obtain ⟨i,hi,rfl⟩:∃ i,i∈ [a,b,c,d]∧x= .int i:=by
   simp only [List.mem_cons,List.not_mem_nil,or_false] at hx ⊢
   rcases hx with rfl|rfl|rfl|rfl
   ·exact ⟨a, .inl rfl,rfl⟩
   ·exact ⟨b, .inr (.inl rfl),rfl⟩
   ·exact ⟨c, .inr (.inr (.inl rfl)),rfl⟩
   ·exact ⟨d, .inr (.inr (.inr rfl)),rfl⟩
  simp only [b1,slotP_0,Res.bind_ok,(num_len i (h i hi)).2])
 exact this
theorem rul_join (a b c d:Int) (h:∀ x∈ [a,b,c,d],0≤x∧x<100):joinR " " [.lst (([toString a,toString b,toString c,toString d]:List Str).map D.str)]= .ok (.str (rulS a b c d))∧(rulS a b c d).length≤20:=by
 have s:(([toString a,toString b,toString c,toString d]:List Str).map (·.length)).sum+([toString a,toString b,toString c,toString d]:List Str).length≤20:=by
  have h1:=(num_len a (h a (by simp))).1
  have h2:=(num_len b (h b (by simp))).1
  have h3:=(num_len c (h c (by simp))).1
  have h4:=(num_len d (h d (by simp))).1
  simp only [List.map_cons,List.map_nil,List.sum_cons,List.sum_nil,List.length_cons,List.length_nil]
  omega
 exact ⟨joinR_big 32 _ (Nat.le_trans s (by decide)),Nat.le_trans (join_len _ _) s⟩
theorem shrules_eq (a b c d:Int) (h:∀ x∈ [a,b,c,d],0≤x∧x<100):callR 1 m_shown_rules [.tup [.int a, .int b, .int c, .int d]]= .ok (.str (rulS a b c d)):=by
 have c1:=comp_str (fe:=e_shown_rules_1) [some (.d (.tup [.int a, .int b, .int c, .int d]))] a b c d rfl h
 have j1:=(rul_join a b c d h).1
 refine callR_eq _ _ _ _ ?_ rfl
 generalize (([toString a,toString b,toString c,toString d]:List Str).map D.str)=J at*
 unfold m_shown_rules b_shown_rules
 simp only [runD_eq,startD,List.map_cons,List.map_nil,List.length_cons,List.length_nil,List.cons_append,List.nil_append,Nat.reduceAdd,Nat.reduceSub,List.replicate,kD,b1,bM,asD,vComp,aCons,aNil,consR_ok,sRet,slotD_0,Res.bind_ok,ofR_ok,seqR_t,c1,j1,finO_rt]
theorem comp_door {fe:DSt→Res D} (δ:DSt) (ds:List Str) (hfe:fe=b2 addD (kD (.str "door ")) (slotP 0)) (hl:ds.length≤1000) (h:∀ x∈ds,x.length≤30):compR 1 (setI 0) (fun _=> .ok true) fe δ (ds.map D.str)= .ok ((ds.map fun x=>(("door ":Str)++x)).map D.str):=by
 subst hfe
 refine compR_ok ?_ (by rw [List.length_map];omega)
 have:=comp_map (fe:=b2 addD (kD (.str "door ")) (slotP 0)) (fun x=>match x with| .str i=> .str ("door "++i)|_=> .non) δ (ds.map D.str) none (fun x hx=>by
  obtain ⟨i,hi,rfl⟩:=List.mem_map.mp hx
  have e:=addD_s "door " i (by have:=h i hi;show 5+i.length≤100000;omega)
  simp only [b2,kD,slotP_0,Res.bind_ok,e])
 rw [List.map_map] at this
 rw [List.map_map]
 exact this
theorem comp_thing {fe:DSt→Res D} (δ:DSt) (k l:Str) (ps:List (Str×List Str)) (hfe:fe=b1 (callR 2 m_shown_thing) (aCons (kD (.str k)) (aCons (slotD 0) aNil))) (hl:ps.length≤1000) (h:∀ p∈ps,PrOk p) (hk:k.length≤10) (hl2:l.length≤10)
  (ht:tabG D.str [("wing","="),("key","opens")] (.str k)= .ok (.str l)):compR 1 (setI 0) (fun _=> .ok true) fe δ (ps.map prD)= .ok ((ps.map (rowP k l)).map D.str):=by
 subst hfe
 refine compR_ok ?_ (by rw [List.length_map];omega)
 have:=comp_map (fe:=b1 (callR 2 m_shown_thing) (aCons (kD (.str k)) (aCons (slotD 0) aNil))) (fun x=>match x with| .tup [.str w, .lst ms]=> .str (rowP k l (w,(strsOf ms).getD []))|_=> .non) δ (ps.map prD) none (fun x hx=>by
  obtain ⟨p,hp,rfl⟩:=List.mem_map.mp hx
  have e:=thing_eq k l p (h p hp) hk hl2 ht
  simp only [b1,kD,aCons,aNil,consR_ok,slotD_0,Res.bind_ok,e]
  unfold prD
  simp only [strsOf_map,Option.getD_some])
 rw [List.map_map] at this
 rw [List.map_map]
 refine this.trans (congrArg Res.ok (List.map_congr_left fun p hp=> ?_))
 show (match prD p with| .tup [.str w, .lst ms]=>D.str (rowP k l (w,(strsOf ms).getD []))|_=> .non)=D.str (rowP k l p)
 unfold prD
 simp only [strsOf_map,Option.getD_some]
theorem extO_eq (i:Nat) (δ:DSt) (ds es:List D) (h:δ[i]? =some (some (.o ds))) (hl:ds.length+es.length≤100000):extO i δ (.ok es)= .nx (δ.set i (some (.o (ds++es)))):=by
 unfold extO
 rw [h]
 exact if_pos hl
theorem frzL_eq (i:Nat) (δ:DSt) (ds:List D) (h:δ[i]? =some (some (.o ds))):frzL i δ=δ.set i (some (.d (.lst ds))):=by
 unfold frzL
 rw [h]
def rowsH (a b c d:Int) (ds:List Str) (ps qs:List (Str×List Str)):List Str:=(("rules ":Str)++rulS a b c d)::(ds.map (fun x=>(("door ":Str)++x))++ps.map (rowP "wing" "=")++qs.map (rowP "key" "opens"))
theorem rowsH_len (a b c d:Int) (ds:List Str) (ps qs:List (Str×List Str)) (h:∀ x∈ [a,b,c,d],0≤x∧x<100) (hd:ds.length≤50) (hp:ps.length≤50) (hq:qs.length≤50) (g1:∀ x∈ds,x.length≤30) (g2:∀ p∈ps,PrOk p) (g3:∀ p∈qs,PrOk p):
  ((rowsH a b c d ds ps qs).map (·.length)).sum+(rowsH a b c d ds ps qs).length≤100000:=by
 have hr:=(rul_join a b c d h).2
 have hl:(rowsH a b c d ds ps qs).length≤151:=by
  unfold rowsH
  simp only [List.length_cons,List.length_append,List.length_map]
  omega
 have hs:=sum_le (fun x:Str=>x.length) 200 (rowsH a b c d ds ps qs) (fun x hx=>by
  unfold rowsH at hx
  rcases List.mem_cons.mp hx with rfl|hx
  ·show (("rules ":Str)++rulS a b c d).length≤200
   rw [app_len,show ("rules ":Str).length=6 from rfl];omega
  ·rcases List.mem_append.mp hx with hx|hx
   ·rcases List.mem_append.mp hx with hx|hx
    ·obtain ⟨y,hy,rfl⟩:=List.mem_map.mp hx
     show (("door ":Str)++y).length≤200
     rw [app_len,show ("door ":Str).length=5 from rfl]
     have:=g1 y hy
     omega
    ·obtain ⟨y,hy,rfl⟩:=List.mem_map.mp hx
     exact row_len _ _ y (g2 y hy) (by decide) (by decide)
   ·obtain ⟨y,hy,rfl⟩:=List.mem_map.mp hx
    exact row_len _ _ y (g3 y hy) (by decide) (by decide))
 omega
theorem house_eq (a b c d:Int) (ds:List Str) (ps qs:List (Str×List Str)) (h:∀ x∈ [a,b,c,d],0≤x∧x<100) (hd:ds.length≤50) (hp:ps.length≤50) (hq:qs.length≤50) (g1:∀ x∈ds,x.length≤30) (g2:∀ p∈ps,PrOk p) (g3:∀ p∈qs,PrOk p):
  callR 1 m_shown_house [HsD (.tup [.int a, .int b, .int c, .int d]) (.lst (ds.map D.str)) (.lst (ps.map prD)) (.lst (qs.map prD))]= .ok (.str (PySem.Txt.join ⟨#[10]⟩ (rowsH a b c d ds ps qs))):=by
 have f1:=fld1 (.tup [.int a, .int b, .int c, .int d]) (.lst (ds.map D.str)) (.lst (ps.map prD)) (.lst (qs.map prD))
 have f2:=fld2 (.tup [.int a, .int b, .int c, .int d]) (.lst (ds.map D.str)) (.lst (ps.map prD)) (.lst (qs.map prD))
 have f3:=fld3 (.tup [.int a, .int b, .int c, .int d]) (.lst (ds.map D.str)) (.lst (ps.map prD)) (.lst (qs.map prD))
 have f4:=fld4 (.tup [.int a, .int b, .int c, .int d]) (.lst (ds.map D.str)) (.lst (ps.map prD)) (.lst (qs.map prD))
 generalize HsD (.tup [.int a, .int b, .int c, .int d]) (.lst (ds.map D.str)) (.lst (ps.map prD)) (.lst (qs.map prD))=HH at*
 have r1:=shrules_eq a b c d h
 have r2:=addD_s "rules " (rulS a b c d) (by rw [show ("rules ":Str).length=6 from rfl];have:=(rul_join a b c d h).2;omega)
 have jn1:joinR "\n" [.lst ((rowsH a b c d ds ps qs).map D.str)]= .ok (.str (PySem.Txt.join ⟨#[10]⟩ (rowsH a b c d ds ps qs))):=joinR_big 10 _ (rowsH_len a b c d ds ps qs h hd hp hq g1 g2 g3)
 have el:(rowsH a b c d ds ps qs).map D.str=([.str ("rules "++rulS a b c d)]++(ds.map (fun x=>(("door ":Str)++x))).map D.str++(ps.map (rowP "wing" "=")).map D.str++(qs.map (rowP "key" "opens")).map D.str:List D):=by
  unfold rowsH
  simp only [List.map_cons,List.map_append,List.singleton_append,List.cons_append,List.append_assoc,List.nil_append]
 rw [el] at jn1
 generalize ("rules ":Str)++rulS a b c d=R0 at*
 have c1:∀ δ,compR 1 (setI 0) (fun _=> .ok true) e_shown_house_1 δ (ds.map D.str)= .ok ((ds.map fun x=>(("door ":Str)++x)).map D.str):=fun δ=>comp_door (fe:=e_shown_house_1) δ ds rfl (by omega) g1
 have c2:∀ δ,compR 1 (setI 0) (fun _=> .ok true) e_shown_house_2 δ (ps.map prD)= .ok ((ps.map (rowP "wing" "=")).map D.str):=fun δ=>comp_thing (fe:=e_shown_house_2) δ "wing" "=" ps rfl (by omega) g2 (by decide) (by decide) rfl
 have c3:∀ δ,compR 1 (setI 0) (fun _=> .ok true) e_shown_house_3 δ (qs.map prD)= .ok ((qs.map (rowP "key" "opens")).map D.str):=fun δ=>comp_thing (fe:=e_shown_house_3) δ "key" "opens" qs rfl (by omega) g3 (by decide) (by decide) rfl
 have l1:((ds.map fun x=>(("door ":Str)++x)).map D.str).length≤50:=by simpa using hd
 have l2:((ps.map (rowP "wing" "=")).map D.str).length≤50:=by simpa using hp
 have l3:((qs.map (rowP "key" "opens")).map D.str).length≤50:=by simpa using hq
 clear el
 generalize (ds.map fun x=>(("door ":Str)++x)).map D.str=X1 at*
 generalize (ps.map (rowP "wing" "=")).map D.str=X2 at*
 generalize (qs.map (rowP "key" "opens")).map D.str=X3 at*
 have x1:=extO_eq 1 [some (.d HH),some (.o [.str R0])] [.str R0] X1 rfl (by simp only [List.length_cons,List.length_nil];omega)
 have x2:=extO_eq 1 [some (.d HH),some (.o ([.str R0]++X1))] ([.str R0]++X1) X2 rfl (by simp only [List.length_append,List.length_cons,List.length_nil];omega)
 have x3:=extO_eq 1 [some (.d HH),some (.o ([.str R0]++X1++X2))] ([.str R0]++X1++X2) X3 rfl (by simp only [List.length_append,List.length_cons,List.length_nil];omega)
 have z1:=frzL_eq 1 [some (.d HH),some (.o ([.str R0]++X1++X2++X3))] ([.str R0]++X1++X2++X3) rfl
 have y1:∀ Y:List D,([some (.d HH),some (.o Y)]:DSt).set 1 (some (.o ([.str R0]++X1)))= [some (.d HH),some (.o ([.str R0]++X1))]:=fun _=>rfl
 have y2:∀ Y:List D,([some (.d HH),some (.o Y)]:DSt).set 1 (some (.o ([.str R0]++X1++X2)))= [some (.d HH),some (.o ([.str R0]++X1++X2))]:=fun _=>rfl
 have y3:∀ Y:List D,([some (.d HH),some (.o Y)]:DSt).set 1 (some (.o ([.str R0]++X1++X2++X3)))= [some (.d HH),some (.o ([.str R0]++X1++X2++X3))]:=fun _=>rfl
 have y4:∀ Y Z:List D,([some (.d HH),some (.o Y)]:DSt).set 1 (some (.d (.lst Z)))= [some (.d HH),some (.d (.lst Z))]:=fun _ _=>rfl
 rw [y1] at x1;rw [y2] at x2;rw [y3] at x3;rw [y4] at z1
 generalize PySem.Txt.join ⟨#[10]⟩ (rowsH a b c d ds ps qs)=OUT at*
 generalize ([.str R0]++X1++X2++X3:List D)=Z3 at*
 generalize ([.str R0]++X1++X2:List D)=Z2 at*
 generalize ([.str R0]++X1:List D)=Z1 at*
 generalize ds.map D.str=DD at*
 generalize ps.map prD=PP at*
 generalize qs.map prD=QQ at*
 clear h hd hp hq g1 g2 g3 l1 l2 l3 y1 y2 y3 y4
 refine callR_eq _ _ _ _ ?_ rfl
 unfold m_shown_house b_shown_house
 simp only [runD_eq,startD,List.map_cons,List.map_nil,List.length_cons,List.length_nil,List.cons_append,List.nil_append,Nat.reduceAdd,Nat.reduceSub,List.replicate,kD,b1,b2,bM,asD,lstR,vComp,aCons,aNil,consR_ok,sSeq,sOwn,sExt,sFrzL,sRet,slotD_0,slotD_s,slotP_0,slotP_s,Res.bind_ok,ofR_ok,seqO_nx,seqR_l,f1,f2,f3,f4,r1,r2,c1,c2,c3,x1,x2,x3,z1,jn1,finO_rt,List.set_cons_zero,List.set_cons_succ,Nat.reduceLeDiff,if_true,reduceIte]
theorem text_t1 (A B C E:D) (rows:List D) (p:Str×List Str) (x5 x6 x7:Option S) (hp:PrOk p) (hl:rows.length≤1000):
  l__law_text_1 [some (.d A),some (.d B),some (.d C),some (.d E),some (.o rows),some (.d (.str p.1)),some (.d (.lst (p.2.map D.str))),x7]= .nx [some (.d A),some (.d B),some (.d C),some (.d E),some (.o (rows++ [.str (rowP "wing" "=" p)])),some (.d (.str p.1)),some (.d (.lst (p.2.map D.str))),x7]:=by
 have er:=row_cps "wing" "=" "wing " " = " p hp.2.1 rfl rfl
 have sm:=sum_le (fun x:Str=>x.length) 20 p.2 hp.2.2.2
 have h3:=hp.2.2.1
 have h1:=hp.1
 have e1:=addD_s "wing " p.1 (by rw [show ("wing ":Str).length=5 from rfl];omega)
 have e2:=addD_s ("wing "++p.1) " = " (by rw [app_len,show ("wing ":Str).length=5 from rfl,show (" = ":Str).length=3 from rfl];omega)
 have e3:joinR " " [.lst (p.2.map D.str)]= .ok (.str (PySem.Txt.join ⟨#[32]⟩ p.2)):=joinR_big 32 p.2 (by omega)
 have jl:=join_len 32 p.2
 have e4:=addD_s ("wing "++p.1++" = ") (PySem.Txt.join ⟨#[32]⟩ p.2) (by rw [app_len,app_len,show ("wing ":Str).length=5 from rfl,show (" = ":Str).length=3 from rfl];omega)
 rw [←er] at e4
 have e5:=appO_eq 4 [some (.d A),some (.d B),some (.d C),some (.d E),some (.o rows),some (.d (.str p.1)),some (.d (.lst (p.2.map D.str))),x7] rows (.str (rowP "wing" "=" p)) rfl (by omega)
 clear er sm h3 h1 jl hp hl
 generalize ("wing ":Str)++p.1++" = "=t2 at*
 generalize ("wing ":Str)++p.1=t1 at*
 generalize p.2.map D.str=M at*
 unfold l__law_text_1
 simp only [kD,b2,bM,aCons,aNil,consR_ok,sApp,slotD_0,slotD_s,slotP_0,slotP_s,Res.bind_ok,e1,e2,e3,e4,e5,List.set_cons_zero,List.set_cons_succ]
theorem text_t2 (A B C E:D) (rows:List D) (p:Str×List Str) (x6:Option S) (hp:PrOk p) (hl:rows.length≤1000):
  l__law_text_2 [some (.d A),some (.d B),some (.d C),some (.d E),some (.o rows),some (.d (.str p.1)),x6,some (.d (.lst (p.2.map D.str)))]= .nx [some (.d A),some (.d B),some (.d C),some (.d E),some (.o (rows++ [.str (rowP "key" "opens" p)])),some (.d (.str p.1)),x6,some (.d (.lst (p.2.map D.str)))]:=by
 have er:=row_cps "key" "opens" "key " " opens " p hp.2.1 rfl rfl
 have sm:=sum_le (fun x:Str=>x.length) 20 p.2 hp.2.2.2
 have h3:=hp.2.2.1
 have h1:=hp.1
 have e1:=addD_s "key " p.1 (by rw [show ("key ":Str).length=4 from rfl];omega)
 have e2:=addD_s ("key "++p.1) " opens " (by rw [app_len,show ("key ":Str).length=4 from rfl,show (" opens ":Str).length=7 from rfl];omega)
 have e3:joinR " " [.lst (p.2.map D.str)]= .ok (.str (PySem.Txt.join ⟨#[32]⟩ p.2)):=joinR_big 32 p.2 (by omega)
 have jl:=join_len 32 p.2
 have e4:=addD_s ("key "++p.1++" opens ") (PySem.Txt.join ⟨#[32]⟩ p.2) (by rw [app_len,app_len,show ("key ":Str).length=4 from rfl,show (" opens ":Str).length=7 from rfl];omega)
 rw [←er] at e4
 have e5:=appO_eq 4 [some (.d A),some (.d B),some (.d C),some (.d E),some (.o rows),some (.d (.str p.1)),x6,some (.d (.lst (p.2.map D.str)))] rows (.str (rowP "key" "opens" p)) rfl (by omega)
 clear er sm h3 h1 jl hp hl
 generalize ("key ":Str)++p.1++" opens "=t2 at*
 generalize ("key ":Str)++p.1=t1 at*
 generalize p.2.map D.str=M at*
 unfold l__law_text_2
 simp only [kD,b2,bM,aCons,aNil,consR_ok,sApp,slotD_0,slotD_s,slotP_0,slotP_s,Res.bind_ok,e1,e2,e3,e4,e5,List.set_cons_zero,List.set_cons_succ]
theorem text_l1 (A B C E:D) (x7:Option S):∀ (ps:List (Str×List Str)) (rows:List D) (x5 x6:Option S),(∀ p∈ps,PrOk p)→rows.length+ps.length≤1000→
  ∃ y5 y6,forD (unTup 2 (unCons (setI 5) (unCons (setI 6) unNil))) l__law_text_1 (ps.map prD) [some (.d A),some (.d B),some (.d C),some (.d E),some (.o rows),x5,x6,x7]= .nx [some (.d A),some (.d B),some (.d C),some (.d E),some (.o (rows++(ps.map (rowP "wing" "=")).map D.str)),y5,y6,x7]
 | [],rows,x5,x6,_,_=>⟨x5,x6,by rw [List.map_nil,List.map_nil,List.map_nil,List.append_nil];rfl⟩
 |p::ps,rows,x5,x6,h,hl=>by
  rw [List.length_cons] at hl
  obtain ⟨y5,y6,e⟩:=text_l1 A B C E x7 ps (rows++ [.str (rowP "wing" "=" p)]) (some (.d (.str p.1))) (some (.d (.lst (p.2.map D.str)))) (fun q hq=>h q (List.mem_cons_of_mem _ hq)) (by rw [List.length_append,List.length_singleton];omega)
  refine ⟨y5,y6,?_⟩
  rw [List.map_cons,forD_cons _ _ _ [some (.d A),some (.d B),some (.d C),some (.d E),some (.o rows),some (.d (.str p.1)),some (.d (.lst (p.2.map D.str))),x7] rfl]
  rw [text_t1 A B C E rows p x5 x6 x7 (h p List.mem_cons_self) (by omega)]
  rw [List.map_cons,List.map_cons,←List.singleton_append (l:=(ps.map (rowP "wing" "=")).map D.str),←List.append_assoc]
  exact e
theorem text_l2 (A B C E:D) (x6:Option S):∀ (ps:List (Str×List Str)) (rows:List D) (x5 x7:Option S),(∀ p∈ps,PrOk p)→rows.length+ps.length≤1000→
  ∃ y5 y7,forD (unTup 2 (unCons (setI 5) (unCons (setI 7) unNil))) l__law_text_2 (ps.map prD) [some (.d A),some (.d B),some (.d C),some (.d E),some (.o rows),x5,x6,x7]= .nx [some (.d A),some (.d B),some (.d C),some (.d E),some (.o (rows++(ps.map (rowP "key" "opens")).map D.str)),y5,x6,y7]
 | [],rows,x5,x7,_,_=>⟨x5,x7,by rw [List.map_nil,List.map_nil,List.map_nil,List.append_nil];rfl⟩
 |p::ps,rows,x5,x7,h,hl=>by
  rw [List.length_cons] at hl
  obtain ⟨y5,y7,e⟩:=text_l2 A B C E x6 ps (rows++ [.str (rowP "key" "opens" p)]) (some (.d (.str p.1))) (some (.d (.lst (p.2.map D.str)))) (fun q hq=>h q (List.mem_cons_of_mem _ hq)) (by rw [List.length_append,List.length_singleton];omega)
  refine ⟨y5,y7,?_⟩
  rw [List.map_cons,forD_cons _ _ _ [some (.d A),some (.d B),some (.d C),some (.d E),some (.o rows),some (.d (.str p.1)),x6,some (.d (.lst (p.2.map D.str)))] rfl]
  rw [text_t2 A B C E rows p x6 (h p List.mem_cons_self) (by omega)]
  rw [List.map_cons,List.map_cons,←List.singleton_append (l:=(ps.map (rowP "key" "opens")).map D.str),←List.append_assoc]
  exact e
theorem text_eq (a b c d:Int) (ds:List Str) (ps qs:List (Str×List Str)) (h:∀ x∈ [a,b,c,d],0≤x∧x<100) (hd:ds.length≤50) (hp:ps.length≤50) (hq:qs.length≤50) (g1:∀ x∈ds,x.length≤30) (g2:∀ p∈ps,PrOk p) (g3:∀ p∈qs,PrOk p):
  callR 4 m__law_text [.tup [.int a, .int b, .int c, .int d], .lst (ds.map D.str), .lst (ps.map prD), .lst (qs.map prD)]= .ok (.str (PySem.Txt.join ⟨#[10]⟩ (rowsH a b c d ds ps qs))):=by
 have r2:=addD_s "rules " (rulS a b c d) (by rw [show ("rules ":Str).length=6 from rfl];have:=(rul_join a b c d h).2;omega)
 have jn1:joinR "\n" [.lst ((rowsH a b c d ds ps qs).map D.str)]= .ok (.str (PySem.Txt.join ⟨#[10]⟩ (rowsH a b c d ds ps qs))):=joinR_big 10 _ (rowsH_len a b c d ds ps qs h hd hp hq g1 g2 g3)
 have el:(rowsH a b c d ds ps qs).map D.str=([.str ("rules "++rulS a b c d)]++(ds.map (fun x=>(("door ":Str)++x))).map D.str++(ps.map (rowP "wing" "=")).map D.str++(qs.map (rowP "key" "opens")).map D.str:List D):=by
  unfold rowsH
  simp only [List.map_cons,List.map_append,List.singleton_append,List.cons_append,List.append_assoc,List.nil_append]
 rw [el] at jn1
 have c0:∀ δ,compR 1 (setI 0) (fun _=> .ok true) e__law_text_1 δ [.int a, .int b, .int c, .int d]= .ok (([toString a,toString b,toString c,toString d]:List Str).map D.str):=fun δ=>comp_str (fe:=e__law_text_1) δ a b c d rfl h
 have j0:=(rul_join a b c d h).1
 have c1:∀ δ,compR 1 (setI 0) (fun _=> .ok true) e__law_text_2 δ (ds.map D.str)= .ok ((ds.map fun x=>(("door ":Str)++x)).map D.str):=fun δ=>comp_door (fe:=e__law_text_2) δ ds rfl (by omega) g1
 have l1:((ds.map fun x=>(("door ":Str)++x)).map D.str).length≤50:=by simpa using hd
 have ct:=catR_l [.str ("rules "++rulS a b c d)] ((ds.map fun x=>(("door ":Str)++x)).map D.str) (by simp only [List.length_cons,List.length_nil];omega)
 obtain ⟨y5,y6,w1⟩:=text_l1 (.tup [.int a, .int b, .int c, .int d]) (.lst (ds.map D.str)) (.lst (ps.map prD)) (.lst (qs.map prD)) none ps ([.str ("rules "++rulS a b c d)]++(ds.map fun x=>(("door ":Str)++x)).map D.str) none none g2 (by simp only [List.length_append,List.length_cons,List.length_nil];omega)
 have l2:((ps.map (rowP "wing" "=")).map D.str).length≤50:=by simpa using hp
 obtain ⟨z5,z7,w2⟩:=text_l2 (.tup [.int a, .int b, .int c, .int d]) (.lst (ds.map D.str)) (.lst (ps.map prD)) (.lst (qs.map prD)) y6 qs ([.str ("rules "++rulS a b c d)]++(ds.map fun x=>(("door ":Str)++x)).map D.str++(ps.map (rowP "wing" "=")).map D.str) y5 none g3 (by simp only [List.length_append,List.length_cons,List.length_nil];omega)
 have z1:=frzL_eq 4 [some (.d (.tup [.int a, .int b, .int c, .int d])),some (.d (.lst (ds.map D.str))),some (.d (.lst (ps.map prD))),some (.d (.lst (qs.map prD))),some (.o ([.str ("rules "++rulS a b c d)]++(ds.map fun x=>(("door ":Str)++x)).map D.str++(ps.map (rowP "wing" "=")).map D.str++(qs.map (rowP "key" "opens")).map D.str)),z5,y6,z7] _ rfl
 clear el l1 l2 h hd hp hq g1 g2 g3
 refine callR_eq _ _ _ _ ?_ rfl
 generalize (([toString a,toString b,toString c,toString d]:List Str).map D.str)=J at*
 generalize PySem.Txt.join ⟨#[10]⟩ (rowsH a b c d ds ps qs)=OUT at*
 generalize ("rules ":Str)++rulS a b c d=R0 at*
 generalize (ds.map fun x=>(("door ":Str)++x)).map D.str=X1 at*
 generalize (ps.map (rowP "wing" "=")).map D.str=X2 at*
 generalize (qs.map (rowP "key" "opens")).map D.str=X3 at*
 generalize ([.str R0]++X1++X2++X3:List D)=Z3 at*
 generalize ([.str R0]++X1++X2:List D)=Z2 at*
 generalize ([.str R0]++X1:List D)=Z1 at*
 generalize ds.map D.str=DD at*
 generalize ps.map prD=PP at*
 generalize qs.map prD=QQ at*
 simp only [List.set_cons_zero,List.set_cons_succ] at z1
 unfold m__law_text b__law_text
 simp only [runD_eq,startD,List.map_cons,List.map_nil,List.length_cons,List.length_nil,List.cons_append,List.nil_append,Nat.reduceAdd,Nat.reduceSub,List.replicate,kD,b1,b2,b2F,bM,asD,lstR,vComp,aCons,aNil,consR_ok,sSeq,sOwn,sFor,sFrzL,sRet,slotD_0,slotD_s,slotP_0,slotP_s,Res.bind_ok,ofR_ok,seqO_nx,seqR_l,seqR_t,c0,j0,r2,c1,ct,w1,w2,z1,jn1,finO_rt,List.set_cons_zero,List.set_cons_succ,Nat.reduceLeDiff,if_true,reduceIte]
theorem eqL_strs:∀ ws:List Str,eqL (ws.map D.str) (ws.map D.str)=true
 | []=>by simp [eqL]
 |c::cs=>by rw [List.map_cons,eqL,eqL_strs cs];simp [eqD]
theorem eqD_pr (p:Str×List Str):eqD (prD p) (prD p)=true:=by
 unfold prD
 simp [eqD,eqL,eqL_strs]
theorem eqL_prs:∀ ps:List (Str×List Str),eqL (ps.map prD) (ps.map prD)=true
 | []=>by simp [eqL]
 |c::cs=>by rw [List.map_cons,eqL,eqL_prs cs,eqD_pr];rfl
theorem shal_str (n:Nat) (ws:List Str):shal (n+1) (.lst (ws.map D.str))=true:=by
 rw [shal,List.all_eq_true]
 intro d hd
 obtain ⟨w,_,rfl⟩:=List.mem_map.mp hd
 cases n<;>rfl
theorem shal_pr (n:Nat) (p:Str×List Str):shal (n+2) (prD p)=true:=by
 unfold prD
 rw [shal,List.all_cons,List.all_cons,List.all_nil,shal_str n p.2]
 rfl
theorem shal_prs (ps:List (Str×List Str)):shal 40 (.lst (ps.map prD))=true:=by
 rw [shal,List.all_eq_true]
 intro d hd
 obtain ⟨w,_,rfl⟩:=List.mem_map.mp hd
 exact shal_pr 37 w
theorem eqR_same (x:D) (h:shal 40 x=true) (e:eqD x x=true):eqR x x= .ok (.bl true)∧neR x x= .ok (.bl false):=by
 unfold eqR neR
 rw [h,e]
 exact ⟨rfl,rfl⟩
theorem same_str (x:Str):eqR (.str x) (.str x)= .ok (.bl true)∧neR (.str x) (.str x)= .ok (.bl false):=eqR_same _ rfl (by simp [eqD])
theorem same_strs (ws:List Str):eqR (.lst (ws.map D.str)) (.lst (ws.map D.str))= .ok (.bl true)∧neR (.lst (ws.map D.str)) (.lst (ws.map D.str))= .ok (.bl false):=eqR_same _ (shal_str 39 ws) (by rw [eqD];exact eqL_strs ws)
theorem same_prs (ps:List (Str×List Str)):eqR (.lst (ps.map prD)) (.lst (ps.map prD))= .ok (.bl true)∧neR (.lst (ps.map prD)) (.lst (ps.map prD))= .ok (.bl false):=eqR_same _ (shal_prs ps) (by rw [eqD];exact eqL_prs ps)
theorem same_rul (a b c d:Int):eqR (.tup [.int a, .int b, .int c, .int d]) (.tup [.int a, .int b, .int c, .int d])= .ok (.bl true)∧neR (.tup [.int a, .int b, .int c, .int d]) (.tup [.int a, .int b, .int c, .int d])= .ok (.bl false):=eqR_same _ rfl (by simp [eqD,eqL])
theorem sIf_t {c:DSt→Res Bool} {a b:DSt→Out} {δ:DSt} (h:c δ= .ok true):sIf c a b δ=a δ:=by unfold sIf;rw [h];rfl
theorem sIf_f {c:DSt→Res Bool} {a b:DSt→Out} {δ:DSt} (h:c δ= .ok false):sIf c a b δ=b δ:=by unfold sIf;rw [h];rfl
theorem noex_ok' {α:Type} (a:α):noex (Res.ok a)= .ok a:=rfl
theorem starts_cat (a y:Str):PySem.Txt.startswith (a++y) a=true:=by
 have la:a.cps.toList.length=a.length:=Array.length_toList
 have e:(a++y).cps.toList=a.cps.toList++y.cps.toList:=by rw [Str.cps_append,Array.toList_append]
 unfold PySem.Txt.startswith
 rw [Bool.and_eq_true,decide_eq_true_eq]
 refine ⟨by rw [app_len];omega,?_⟩
 rw [StrLaws.subAt_eq,e,←la,List.drop_zero,List.take_left,beq_self_eq_true]
theorem slice_cat (a y:Str):PySem.Txt.slice (a++y) (some (a.length:Int)) none=y:=by
 have la:a.cps.toList.length=a.length:=Array.length_toList
 have ly:y.cps.toList.length=y.length:=Array.length_toList
 have e:(a++y).cps.toList=a.cps.toList++y.cps.toList:=by rw [Str.cps_append,Array.toList_append]
 have n:=app_len a y
 rw [slice_from_eq (b:=((a++y).length:Int)) (by omega) (by omega) rfl]
 refine str_ext ?_
 show ((a++y).cps.toList.drop _).take _=_
 rw [e,show ((a.length:Int)).toNat=a.cps.toList.length by omega,List.drop_left,List.take_of_length_le (by omega)]
theorem dig_all:∀ n:Nat,n<100→wrB (toString (n:Int):Str)=true∧vI (toString (n:Int):Str)=(n:Int)∧32∉(toString (n:Int):Str).cps.toList∧10∉(toString (n:Int):Str).cps.toList:=by
 unfold vI wrB
 decide +kernel
theorem dig_ok (c:Int) (h:0≤c∧c<100):wrB (toString c:Str)=true∧vI (toString c:Str)=c∧32∉(toString c:Str).cps.toList∧10∉(toString c:Str).cps.toList:=by
 obtain ⟨n,rfl⟩:∃ n:Nat,c=n:=⟨c.toNat,by omega⟩
 exact dig_all n (by omega)
structure RuOk (a b c d:Int):Prop where
 a1:1≤a∧a≤24
 b1:2≤b∧b≤20
 c1:1≤c∧c≤b
 d1:1≤d∧d≤b-1
theorem RuOk.sm {a b c d:Int} (o:RuOk a b c d):∀ x∈ [a,b,c,d],0≤x∧x<100:=fun x hx=>by
 have h1:=o.a1;have h2:=o.b1;have h3:=o.c1;have h4:=o.d1
 simp only [List.mem_cons,List.not_mem_nil,or_false] at hx
 rcases hx with rfl|rfl|rfl|rfl<;>omega
theorem rul_split {a b c d:Int} (o:RuOk a b c d):PySem.Txt.split (rulS a b c d) ⟨#[32]⟩=([toString a,toString b,toString c,toString d]:List Str):=by
 refine split_join 32 ([toString a,toString b,toString c,toString d]:List Str) (by simp) fun x hx=> ?_
 have sm:=o.sm
 simp only [List.mem_cons,List.not_mem_nil,or_false] at hx
 rcases hx with rfl|rfl|rfl|rfl
 ·exact (dig_ok a (sm a (by simp))).2.2.1
 ·exact (dig_ok b (sm b (by simp))).2.2.1
 ·exact (dig_ok c (sm c (by simp))).2.2.1
 ·exact (dig_ok d (sm d (by simp))).2.2.1
theorem read_rul {a b c d:Int} (o:RuOk a b c d):m_read_rules [.str (rulS a b c d)]= .ok (.tup [.int a, .int b, .int c, .int d]):=by
 have sm:=o.sm
 have l:=(rul_join a b c d sm).2
 have n:=nums_sp (rulS a b c d) (by omega)
 rw [rul_split o] at n
 have i:=is_rules_nums [toString a,toString b,toString c,toString d] (by simp)
 obtain ⟨wa,va,_⟩:=dig_ok a (sm a (by simp))
 obtain ⟨wb,vb,_⟩:=dig_ok b (sm b (by simp))
 obtain ⟨wc,vc,_⟩:=dig_ok c (sm c (by simp))
 obtain ⟨wd,vd,_⟩:=dig_ok d (sm d (by simp))
 have h1:=o.a1;have h2:=o.b1;have h3:=o.c1;have h4:=o.d1
 have al:([toString a,toString b,toString c,toString d]:List Str).all wrB=true:=by simp only [List.all_cons,List.all_nil,wa,wb,wc,wd];rfl
 have rb:rB (([toString a,toString b,toString c,toString d]:List Str).map vI)=true:=by
  simp only [List.map_cons,List.map_nil,va,vb,vc,vd]
  show bnd a b c d=true
  unfold bnd
  simp only [Bool.and_eq_true,decide_eq_true_eq]
  exact ⟨⟨⟨h1,h2⟩,h3⟩,h4⟩
 rw [al,rb] at i
 have e:numsD [toString a,toString b,toString c,toString d]= .tup [.int a, .int b, .int c, .int d]:=by
  unfold numsD
  rw [if_pos al]
  simp only [List.map_cons,List.map_nil,va,vb,vc,vd]
 rw [e] at n i
 exact read_y _ _ n i
theorem rules_in_eq {a b c d:Int} (o:RuOk a b c d):callR 1 m_rules_in [.str (("rules ":Str)++rulS a b c d)]= .ok (.tup [.int a, .int b, .int c, .int d]):=by
 have sm:=o.sm
 have l:=(rul_join a b c d sm).2
 have st:=starts_cat "rules " (rulS a b c d)
 have sl:slS (.str (("rules ":Str)++rulS a b c d)) (some 6) none= .ok (.str (rulS a b c d)):=by
  have:=slS_is (("rules ":Str)++rulS a b c d) (some 6) none (by rw [app_len];show 6+_≤1000;omega)
  rw [this]
  exact congrArg (fun z=>Res.ok (D.str z)) (slice_cat "rules " (rulS a b c d))
 have ln:lenR (.str "rules ")= .ok (.int 6):=lenR_s "rules " (by decide)
 have rr:=read_rul o
 have rx:callX 1 m_read_rules [.str (rulS a b c d)]= .ok (.tup [.int a, .int b, .int c, .int d]):=(if_pos rfl).trans rr
 generalize D.tup [.int a, .int b, .int c, .int d]=T at*
 generalize rulS a b c d=y at*
 have cd:tNot1 (tR (bM startsR (slotD 0) (aCons (kD (.str "rules ")) aNil))) [some (.d (.str (("rules ":Str)++y)))]= .ok false:=by
  have:startsR (("rules ":Str)++y) [.str "rules "]= .ok (.bl true):=by show Res.ok (D.bl (PySem.Txt.startswith ("rules "++y) "rules "))=_;rw [st]
  simp only [tNot1,tR,bM,kD,aCons,aNil,consR_ok,slotD_0,Res.bind_ok,this,boolR_bl,Bool.not_true]
 have tr:sTry [] (tryF (aCons (b3 slS (slotP 0) (b1 partR (b1 lenR (kD (.str "rules ")))) oNone) aNil) 1 m_read_rules []) (fun d _=> .rt d) Out.nx (gs0 h_rules_in_1) [some (.d (.str (("rules ":Str)++y)))]= .rt T:=by
  have:tryF (aCons (b3 slS (slotP 0) (b1 partR (b1 lenR (kD (.str "rules ")))) oNone) aNil) 1 m_read_rules [] [some (.d (.str (("rules ":Str)++y)))]= .ok T:=by
   simp only [tryF,aCons,aNil,b1,b3,kD,oNone,slotP_0,Res.bind_ok,ln,partR_i,sl,consR_ok,noex_ok',List.append_nil,rx]
  unfold sTry
  rw [this]
  rfl
 refine callR_eq _ _ _ _ ?_ rfl
 unfold m_rules_in b_rules_in
 rw [runD_eq]
 show finO (sSeq _ _ [some (.d (.str (("rules ":Str)++y)))])=_
 unfold sSeq
 rw [sIf_f cd,seqO_nx,tr]
 rfl
theorem for_nx {t:D→DSt→Res DSt} {body:DSt→Out} {d:D} {ds:List D} {δ δ' δ2:DSt} (h:t d δ= .ok δ') (h2:body δ'= .nx δ2):forD t body (d::ds) δ=forD t body ds δ2:=by rw [forD_cons d ds δ δ' h,h2]
theorem Gd_no {x:Str} (h:Gd x) {c:Nat} (hc:c∉letL):c∉x.cps.toList:=fun z=>hc (h.2.1 c z)
def PrG (p:Str×List Str):Prop:=Gd p.1∧p.2≠ []∧p.2.length≤6∧(∀ w∈p.2,Gd w)∧p.2.Nodup
theorem PrG.ok {p:Str×List Str} (h:PrG p):PrOk p:=⟨by have:=h.1.1;omega,h.2.1,h.2.2.1,fun w hw=>by have:=(h.2.2.2.1 w hw).1;omega⟩
theorem ixW (W:List Str) (i:Nat) (x:Str) (h:W[i]? =some x):ixR (.lst (W.map D.str)) (.int (i:Int))= .ok (.str x):=ixR_l _ _ _ (atI_pos (by omega) (by rw [show ((i:Int)).toNat=i by omega,List.getElem?_map,h];rfl))
theorem door_row (x:Str):(("door ":Str)++x)=PySem.Txt.join ⟨#[32]⟩ ["door",x]:=by
 refine str_ext ?_
 rw [show PySem.Txt.join ⟨#[32]⟩ ["door",x]=Str.join ⟨#[32]⟩ ["door",x] from StrLaws.glued_eq_join _ _,join_cps,Str.cps_append,Array.toList_append]
 rfl
theorem kw_no {k:Str} (h:k="door"∨k="wing"∨k="key"∨k="="∨k="opens"):32∉k.cps.toList∧10∉k.cps.toList∧k.length≤10:=by
 rcases h with rfl|rfl|rfl|rfl|rfl<;>decide +kernel
theorem door_split {x:Str} (h:Gd x):splitR (("door ":Str)++x) [.str " "]= .ok ((["door",x]:List Str).map D.str):=by
 have l:(("door ":Str)++x).length≤900:=by rw [app_len];have:=h.1;show 5+_≤900;omega
 have:=splitR_eq _ 32 l
 rw [door_row,split_join 32 (["door",x]:List Str) (by simp) (fun y hy=>by
  simp only [List.mem_cons,List.not_mem_nil,or_false] at hy
  rcases hy with rfl|rfl
  ·exact (kw_no (.inl rfl)).1
  ·exact Gd_no h (by decide))] at this
 rw [door_row]
 exact this
theorem thing_split {k l:Str} {p:Str×List Str} (h:PrG p) (hk:k="wing"∨k="key") (hl:l="="∨l="opens"):splitR (rowP k l p) [.str " "]= .ok ((k::p.1::l::p.2).map D.str):=by
 have k1:=kw_no (k:=k) (by rcases hk with rfl|rfl<;>simp)
 have l1:=kw_no (k:=l) (by rcases hl with rfl|rfl<;>simp)
 have ln:=row_len k l p h.ok k1.2.2 l1.2.2
 have:=splitR_eq (rowP k l p) 32 (by omega)
 unfold rowP at this ⊢
 rw [split_join 32 (k::p.1::l::p.2) (by simp) (fun y hy=>by
  rcases List.mem_cons.mp hy with rfl|hy
  ·exact k1.1
  ·rcases List.mem_cons.mp hy with rfl|hy
   ·exact Gd_no h.1 (by decide)
   ·rcases List.mem_cons.mp hy with rfl|hy
    ·exact l1.1
    ·exact Gd_no (h.2.2.2.1 y hy) (by decide))] at this
 exact this
theorem thing_door {x:Str} (h:Gd x):callR 1 m_thing_in [.lst ((["door",x]:List Str).map D.str)]= .ok (.str x):=by
 have e1:=ixW ["door",x] 0 "door" rfl
 have e2:=ixW ["door",x] 1 x rfl
 have e3:lenR (.lst ((["door",x]:List Str).map D.str))= .ok (.int 2):=by rw [lenR_l];rfl
 have e4:=name_Gd x h
 have e5:eqR (.str "door") (.str "door")= .ok (.bl true):=by rw [eqS];simp
 generalize D.lst ((["door",x]:List Str).map D.str)=W at*
 have e1':ixR W (.int 0)= .ok (.str "door"):=e1
 have e2':ixR W (.int 1)= .ok (.str x):=e2
 refine callR_eq _ _ _ _ ?_ rfl
 unfold m_thing_in b_thing_in
 rw [runD_eq]
 show finO (sSeq _ _ [some (.d W)])=_
 unfold sSeq
 rw [sIf_t (by simp only [tR,b2,kD,slotP_0,Res.bind_ok,e1',e5,boolR_bl])]
 have e6:eqR (.int 2) (.int 2)= .ok (.bl true):=by rw [eqR_ii];rfl
 simp only [sRet,vIf,tAnd2,tR,b1,b2,kD,aCons,aNil,consR_ok,slotP_0,Res.bind_ok,e3,e6,e2',e4,boolR_bl,andB_ok,if_true,ofR_ok,seqO_rt,finO_rt]
theorem bools_true {α:Type} (l:List α):asBools (l.map fun _=>D.bl true)=some (l.map fun _=>true):=by
 induction l with
 |nil=>rfl
 |cons a l ih=>show (asBools (l.map fun _=>D.bl true)).map _=_;rw [ih];rfl
theorem foldk_nd:∀ (ns σ:List Str),(σ++ns).Nodup→ns.foldl ddk σ=σ++ns
 | [],σ,_=>by simp
 |n::ns,σ,h=>by
  have hn:n∉σ:=fun z=>(List.nodup_append.mp h).2.2 n z n List.mem_cons_self rfl
  rw [List.foldl_cons,ddk,if_neg hn,foldk_nd ns (σ++ [n]) (by rw [List.append_assoc];exact h),List.append_assoc]
  rfl
theorem unlike_eq {ms:List Str} (g:∀ w∈ms,Gd w) (nd:ms.Nodup) (hl:ms.length≤6):callR 1 m_are_unlike_names [.lst (ms.map D.str)]= .ok (.bl true):=by
 have cm:compR 1 (setI 0) (fun _=> .ok true) e_are_unlike_names_1 [some (.d (.lst (ms.map D.str)))] (ms.map D.str)= .ok (ms.map fun _=>D.bl true):=by
  refine compR_ok ?_ (by rw [List.length_map];omega)
  have:=comp_map (fe:=e_are_unlike_names_1) (fun _=>D.bl true) [some (.d (.lst (ms.map D.str)))] (ms.map D.str) none (fun x hx=>by
   obtain ⟨w,hw,rfl⟩:=List.mem_map.mp hx
   have e:=name_Gd w (g w hw)
   unfold e_are_unlike_names_1
   simp only [b1,aCons,aNil,consR_ok,slotD_0,Res.bind_ok,e])
  rw [List.map_map] at this
  exact this
 have al:allR (.lst (ms.map fun _=>D.bl true))= .ok (.bl true):=by
  unfold allR
  dsimp only
  rw [bools_true]
  dsimp only
  congr 2
  rw [List.all_map,List.all_eq_true]
  exact fun _ _=>rfl
 have ls:lensT (.lst (ms.map D.str))= .ok (.int (ms.length:Int)):=by
  unfold lensT
  simp only [strsOf_map]
  rw [if_pos (by omega),show mtk ms=ms from foldk_nd ms [] nd]
 have ln:lenR (.lst (ms.map D.str))= .ok (.int (ms.length:Int)):=by rw [lenR_l,List.length_map]
 have ee:eqR (.int (ms.length:Int)) (.int (ms.length:Int))= .ok (.bl true):=by rw [eqR_ii];simp
 have sq:seqR (.lst (ms.map D.str))= .ok (ms.map D.str):=rfl
 refine callR_eq _ _ _ _ ?_ rfl
 generalize (ms.map fun _=>D.bl true)=BT at*
 generalize ms.map D.str=M at*
 unfold m_are_unlike_names b_are_unlike_names
 rw [runD_eq]
 show finO (sRet _ [some (.d (.lst M))])=_
 simp only [sRet,vAnd,asD,vComp,b1,b2,slotD_0,slotP_0,Res.bind_ok,sq,cm,al,ls,ln,ee,andD_bl,if_true,ofR_ok,finO_rt]
theorem thing_two {k l:Str} {p:Str×List Str} (h:PrG p) (hk:(k="wing"∧l="=")∨(k="key"∧l="opens")):callR 1 m_thing_in [.lst ((k::p.1::l::p.2).map D.str)]= .ok (prD p):=by
 have pl:0<p.2.length:=List.length_pos_iff.mpr h.2.1
 have e0:=ixW (k::p.1::l::p.2) 0 k rfl
 have e1:=ixW (k::p.1::l::p.2) 1 p.1 rfl
 have e2:=ixW (k::p.1::l::p.2) 2 l rfl
 have ln:lenR (.lst ((k::p.1::l::p.2).map D.str))= .ok (.int ((p.2.length:Int)+3)):=by rw [lenR_l,List.length_map];rfl
 have sl:slL (.lst ((k::p.1::l::p.2).map D.str)) (some 3) none= .ok (p.2.map D.str):=by
  rw [slL_l,cut_str]
  congr 2
  rw [sIx_nat _ _ 3 (by decide)]
  show List.take _ (List.drop (min 3 _) (k::p.1::l::p.2))=_
  rw [Nat.min_eq_left (by simp)]
  show List.take _ p.2=_
  refine List.take_of_length_le ?_
  show _≤HT.sIx _ (k::p.1::l::p.2).length none-_
  show p.2.length≤(k::p.1::l::p.2).length-3
  simp
 have nm:=name_Gd p.1 h.1
 have un:=unlike_eq h.2.2.2.1 h.2.2.2.2 h.2.2.1
 have ek:eqR (.str k) (.str "door")= .ok (.bl false):=by
  rw [eqS]
  rcases hk with ⟨rfl,_⟩|⟨rfl,_⟩<;>(congr 2)
 have nt:ninTR (α:=Str) [("wing","="),("key","opens")] (.str k)= .ok (.bl false):=by
  rcases hk with ⟨rfl,_⟩|⟨rfl,_⟩<;>rfl
 have tg:tabG D.str [("wing","="),("key","opens")] (.str k)= .ok (.str l):=by
  rcases hk with ⟨rfl,rfl⟩|⟨rfl,rfl⟩<;>rfl
 have nl:neR (.str l) (.str l)= .ok (.bl false):=by rw [neS];simp
 have lt:ltR (.int ((p.2.length:Int)+3)) (.int 4)= .ok (.bl false):=by rw [ltR_ii,decide_eq_false (by omega)]
 have pr:prD p= .tup [.str p.1, .lst (p.2.map D.str)]:=rfl
 rw [pr]
 generalize D.lst ((k::p.1::l::p.2).map D.str)=W at*
 generalize p.2.map D.str=M at*
 have e0':ixR W (.int 0)= .ok (.str k):=e0
 have e1':ixR W (.int 1)= .ok (.str p.1):=e1
 have e2':ixR W (.int 2)= .ok (.str l):=e2
 refine callR_eq _ _ _ _ ?_ rfl
 unfold m_thing_in b_thing_in
 rw [runD_eq]
 show finO (sSeq _ _ [some (.d W)])=_
 unfold sSeq
 rw [sIf_f (by simp only [tR,b2,kD,slotP_0,Res.bind_ok,e0',ek,boolR_bl]),seqO_nx,sIf_f (by
  simp only [tOr2,tR,b1,b2,kD,slotP_0,Res.bind_ok,e0',e2',nt,ln,lt,tg,nl,boolR_bl,orB_ok,Bool.false_eq_true,if_false]),seqO_nx,sIf_f (by
  simp only [tOr2,tNot1,tR,b1,b2,b3,kD,asD,oNone,aCons,aNil,consR_ok,slotP_0,Res.bind_ok,e1',nm,partR_i,sl,un,boolR_bl,orB_ok,Bool.not_true,Bool.false_eq_true,if_false]),seqO_nx]
 simp only [sRet,b1,b2,b3,kD,asD,oNone,tupR,aCons,aNil,consR_ok,slotP_0,Res.bind_ok,e1',partR_i,sl,List.length_cons,List.length_nil,Nat.reduceAdd,Nat.reduceLeDiff,if_true,ofR_ok,finO_rt]
abbrev KS:List Key:= [.inr "door", .inr "wing", .inr "key"]
def tbC (A B C:List D):List (Key×D):= [(.inr "door", .lst A),(.inr "wing", .lst B),(.inr "key", .lst C)]
theorem slotQ_d0 (ks:List Key) (ds:List D) (r:DSt):slotQ 0 (some (.d (.dct ks ds))::r)= .ok (ks.zip ds):=by simp [slotQ]
theorem slotQ_s (n:Nat) (a:Option S) (r:DSt):slotQ (n+1) (a::r)=slotQ n r:=by simp [slotQ]
abbrev dctC (A B C:List D):D:= .dct KS [.lst A, .lst B, .lst C]
theorem later_eq (A B C:List D) (k:Str) (L:List Str) (hk:(k="door"∧L=(["wing","key"]:List Str)∧B= []∧C= [])∨(k="wing"∧L=(["key"]:List Str)∧C= [])∨(k="key"∧L= [])):
  tabG dTup [("door",(["wing","key"]:List Str)),("wing",(["key"]:List Str)),("key",([]:List Str))] (.str k)= .ok (dTup L)∧∃ bs,compR 1 (setI 0) (fun _=> .ok true) e_can_stand_1 [some (.d (dctC A B C)),some (.d (.str k))] (L.map D.str)= .ok bs∧someR (.lst bs)= .ok (.bl false):=by
 have el:∀ (x:Str) (δ:DSt),dgetR (tbC A B C) (.str x)= .ok (.lst [])→e_can_stand_1 (some (.d (.str x))::some (.d (dctC A B C))::δ)= .ok (.bl false):=fun x δ e=>by
  have z:lenR (.lst [])= .ok (.int 0):=by rw [lenR_l];rfl
  have g:gtR (.int 0) (.int 0)= .ok (.bl false):=by rw [gtR_ii];rfl
  have e':dgetR (KS.zip [.lst A, .lst B, .lst C]) (.str x)= .ok (.lst []):=e
  unfold e_can_stand_1
  simp only [b1,b2,b2Q,kD,slotQ_s,slotQ_d0,slotP_0,Res.bind_ok,e',z,g]
 rcases hk with ⟨rfl,rfl,rfl,rfl⟩|⟨rfl,rfl,rfl⟩|⟨rfl,rfl⟩
 ·refine ⟨rfl,[.bl false, .bl false],?_,rfl⟩
  refine compR_ok ?_ (by show 2≤100000;decide)
  exact comp_map (fe:=e_can_stand_1) (fun _=>D.bl false) [some (.d (dctC A [] [])),some (.d (.str "door"))] [.str "wing", .str "key"] none (fun x hx=>by
   simp only [List.mem_cons,List.not_mem_nil,or_false] at hx
   rcases hx with rfl|rfl
   ·exact el _ _ rfl
   ·exact el _ _ rfl)
 ·refine ⟨rfl,[.bl false],?_,rfl⟩
  refine compR_ok ?_ (by show 1≤100000;decide)
  exact comp_map (fe:=e_can_stand_1) (fun _=>D.bl false) [some (.d (dctC A B [])),some (.d (.str "wing"))] [.str "key"] none (fun x hx=>by
   simp only [List.mem_cons,List.not_mem_nil,or_false] at hx
   rcases hx with rfl
   exact el _ _ rfl)
 ·exact ⟨rfl,[],compR_ok (by rfl) (by show 0≤100000;decide),rfl⟩
theorem stand_eq (A B C:List D) (k:Str) (hk:(k="door"∧B= []∧C= []∧A.length<60)∨(k="wing"∧C= []∧A≠ []∧B.length<60)∨(k="key"∧A≠ []∧C.length<60)):callR 2 m_can_stand [dctC A B C, .str k]= .ok (.bl true):=by
 obtain ⟨L,Z,hL,hZ,hz,hd⟩:∃ (L:List Str) (Z:List D),((k="door"∧L=(["wing","key"]:List Str)∧B= []∧C= [])∨(k="wing"∧L=(["key"]:List Str)∧C= [])∨(k="key"∧L= []))∧dgetR (KS.zip [.lst A, .lst B, .lst C]) (.str k)= .ok (.lst Z)∧Z.length<60∧(k="door"∨(k≠"door"∧A≠ [])):=by
  rcases hk with ⟨rfl,h1,h2,h3⟩|⟨rfl,h1,h2,h3⟩|⟨rfl,h1,h2⟩
  ·exact ⟨_,A, .inl ⟨rfl,rfl,h1,h2⟩,rfl,h3, .inl rfl⟩
  ·exact ⟨_,B, .inr (.inl ⟨rfl,rfl,h1⟩),rfl,h3, .inr ⟨by decide,h2⟩⟩
  ·exact ⟨_,C, .inr (.inr ⟨rfl,rfl⟩),rfl,h2, .inr ⟨by decide,h1⟩⟩
 obtain ⟨t1,bs,t2,t3⟩:=later_eq A B C k L hL
 have ln:lenR (.lst Z)= .ok (.int (Z.length:Int)):=lenR_l Z
 have ge:geR (.int (Z.length:Int)) (.int 60)= .ok (.bl false):=by rw [geR_ii,decide_eq_false (by omega)]
 have sq:seqR (dTup L)= .ok (L.map D.str):=rfl
 have g0:dgetR (KS.zip [.lst A, .lst B, .lst C]) (.str "door")= .ok (.lst A):=rfl
 have l0:lenR (.lst A)= .ok (.int (A.length:Int)):=lenR_l A
 have cd:tOr2 (tR (b2 geR (b1 lenR (b2Q dgetR (slotQ 0) (slotP 1))) (kD (.int 60)))) (tR (b1 someR (asD (vComp 1 (setI 0) (fun _=> .ok true) e_can_stand_1 (b1 seqR (b1 (tabG dTup [("door",(["wing","key"]:List Str)),("wing",(["key"]:List Str)),("key",([]:List Str))]) (slotP 1))))))) [some (.d (dctC A B C)),some (.d (.str k))]= .ok false:=by
  generalize dTup L=DL at*
  simp only [tOr2,tR,b1,b2,b2Q,kD,asD,vComp,slotQ_d0,slotP_s,slotP_0,Res.bind_ok,hZ,ln,ge,t1,sq,t2,t3,boolR_bl,orB_ok,Bool.false_eq_true,if_false]
 refine callR_eq _ _ _ _ ?_ rfl
 unfold m_can_stand b_can_stand
 rw [runD_eq]
 show finO (sSeq _ _ [some (.d (dctC A B C)),some (.d (.str k))])=_
 unfold sSeq
 rw [sIf_f cd,seqO_nx]
 have ek:=eqS k "door"
 rcases hd with rfl|⟨hn,ha⟩
 ·rw [decide_eq_true rfl] at ek
  simp only [sRet,vOr,b2,kD,slotP_s,slotP_0,Res.bind_ok,ek,orD_bl,if_true,ofR_ok,finO_rt]
 ·rw [decide_eq_false hn] at ek
  have gt:gtR (.int (A.length:Int)) (.int 0)= .ok (.bl true):=by rw [gtR_ii,decide_eq_true (by have:=List.length_pos_iff.mpr ha;omega)]
  simp only [sRet,vOr,b1,b2,b2Q,kD,slotQ_d0,slotP_s,slotP_0,Res.bind_ok,ek,g0,l0,gt,orD_bl,Bool.false_eq_true,if_false,ofR_ok,finO_rt]
theorem splitB_of {z y:Str} {W:List D} (h:splitR z [.str y]= .ok W):splitB z [.str y]= .ok W:=by
 unfold splitR at h
 dsimp only at h
 split at h
 ·rename_i c
  unfold splitB
  dsimp only
  rw [if_pos ⟨c.1,by have:=c.2.1;omega,c.2.2⟩]
  exact h
 ·cases h
theorem turn_g (Tx Rw Ru pl:D) (A B C:List D) (r k:Str) (W:List D) (d:D) (j:Nat) (L:List D) (x6 x7:Option S) (e1':splitR r [.str " "]= .ok W) (e2:ixR (.lst W) (.int 0)= .ok (.str k)) (e3:callR 1 m_thing_in [.lst W]= .ok d) (e4:isNR d= .ok (.bl false))
  (e5:callR 2 m_can_stand [dctC A B C, .str k]= .ok (.bl true)) (e6:kIx KS (.inr k)=some j) (e7: [Ch.l A, .l B, .l C][j]? =some (.l L)) (e8:L.length≤100000):
  l_read_house_1 [some (.d Tx),some (.d Rw),some (.d Ru),some (.k (.dct KS) [.l A, .l B, .l C]),some (.d pl),some (.d (.str r)),x6,x7]= .nx [some (.d Tx),some (.d Rw),some (.d Ru),some (.k (.dct KS) ([Ch.l A, .l B, .l C].set j (.l (L++ [d])))),some (.d pl),some (.d (.str r)),some (.d (.lst W)),some (.d d)]:=by
 have e1:=splitB_of e1'
 have w6:sSet 6 (asD (bM splitB (slotD 5) (aCons (kD (.str " ")) aNil))) [some (.d Tx),some (.d Rw),some (.d Ru),some (.k (.dct KS) [.l A, .l B, .l C]),some (.d pl),some (.d (.str r)),x6,x7]= .nx [some (.d Tx),some (.d Rw),some (.d Ru),some (.k (.dct KS) [.l A, .l B, .l C]),some (.d pl),some (.d (.str r)),some (.d (.lst W)),x7]:=by
  simp only [sSet,asD,bM,kD,aCons,aNil,consR_ok,slotD_0,slotD_s,Res.bind_ok,e1,ofR_ok,List.set_cons_zero,List.set_cons_succ]
 have w7:sSet 7 (b1 (callR 1 m_thing_in) (aCons (slotD 6) aNil)) [some (.d Tx),some (.d Rw),some (.d Ru),some (.k (.dct KS) [.l A, .l B, .l C]),some (.d pl),some (.d (.str r)),some (.d (.lst W)),x7]= .nx [some (.d Tx),some (.d Rw),some (.d Ru),some (.k (.dct KS) [.l A, .l B, .l C]),some (.d pl),some (.d (.str r)),some (.d (.lst W)),some (.d d)]:=by
  simp only [sSet,b1,aCons,aNil,consR_ok,slotD_0,slotD_s,Res.bind_ok,e3,ofR_ok,List.set_cons_zero,List.set_cons_succ]
 have vw:viewE 3 (b1 (callR 2 m_can_stand) (aCons (slotD 3) (aCons (b2 ixR (slotP 6) (kD (.int 0))) aNil))) [some (.d Tx),some (.d Rw),some (.d Ru),some (.k (.dct KS) [.l A, .l B, .l C]),some (.d pl),some (.d (.str r)),some (.d (.lst W)),some (.d d)]= .ok (.bl true):=by
  have:(b1 (callR 2 m_can_stand) (aCons (slotD 3) (aCons (b2 ixR (slotP 6) (kD (.int 0))) aNil))) [some (.d Tx),some (.d Rw),some (.d Ru),some (.d (dctC A B C)),some (.d pl),some (.d (.str r)),some (.d (.lst W)),some (.d d)]= .ok (.bl true):=by
   simp only [b1,b2,kD,aCons,aNil,consR_ok,slotD_0,slotD_s,slotP_0,slotP_s,Res.bind_ok,e2,e5]
  show (match (b1 (callR 2 m_can_stand) (aCons (slotD 3) (aCons (b2 ixR (slotP 6) (kD (.int 0))) aNil))) [some (.d Tx),some (.d Rw),some (.d Ru),some (.d (dctC A B C)),some (.d pl),some (.d (.str r)),some (.d (.lst W)),some (.d d)] with
   | .ok x=>if flatD x=true then Res.ok x else .stuck
   |_=> .stuck)=_
  rw [this];rfl
 have cd:tOr2 (tR (b1 isNR (slotP 7))) (tNot1 (tR (viewE 3 (b1 (callR 2 m_can_stand) (aCons (slotD 3) (aCons (b2 ixR (slotP 6) (kD (.int 0))) aNil)))))) [some (.d Tx),some (.d Rw),some (.d Ru),some (.k (.dct KS) [.l A, .l B, .l C]),some (.d pl),some (.d (.str r)),some (.d (.lst W)),some (.d d)]= .ok false:=by
  simp only [tOr2,tNot1,tR,b1,slotP_0,slotP_s,Res.bind_ok,e4,vw,boolR_bl,orB_ok,Bool.not_true,Bool.false_eq_true,if_false]
 have ap:sAppK 3 (b2 ixR (slotP 6) (kD (.int 0))) (slotD 7) [some (.d Tx),some (.d Rw),some (.d Ru),some (.k (.dct KS) [.l A, .l B, .l C]),some (.d pl),some (.d (.str r)),some (.d (.lst W)),some (.d d)]= .nx [some (.d Tx),some (.d Rw),some (.d Ru),some (.k (.dct KS) ([Ch.l A, .l B, .l C].set j (.l (L++ [d])))),some (.d pl),some (.d (.str r)),some (.d (.lst W)),some (.d d)]:=by
  have i0:(b2 ixR (slotP 6) (kD (.int 0))) [some (.d Tx),some (.d Rw),some (.d Ru),some (.k (.dct KS) [.l A, .l B, .l C]),some (.d pl),some (.d (.str r)),some (.d (.lst W)),some (.d d)]= .ok (.str k):=by
   simp only [b2,kD,slotP_0,slotP_s,Res.bind_ok,e2]
  show ofR ((b2 ixR (slotP 6) (kD (.int 0))) _) (apK 3 (slotD 7) _ KS [.l A, .l B, .l C])=_
  rw [i0]
  show apK 3 (slotD 7) _ KS [.l A, .l B, .l C] (.str k)=_
  unfold apK
  show (match kIx KS (.inr k) with|some j=>_|none=>Out.stuck)=_
  rw [e6]
  dsimp only
  rw [e7]
  dsimp only
  rw [if_pos e8]
  rfl
 unfold l_read_house_1 sSeq
 rw [w6,seqO_nx,w7,seqO_nx,sIf_f cd,seqO_nx,ap]
abbrev stR (Tx Rw Ru:D) (A B C:List D) (x4 x5 x6 x7:Option S):DSt:= [some (.d Tx),some (.d Rw),some (.d Ru),some (.k (.dct KS) [.l A, .l B, .l C]),x4,x5,x6,x7]
abbrev tgR:D→DSt→Res DSt:=unTup 2 (unCons (setI 4) (unCons (setI 5) unNil))
theorem isN_str (x:Str):isNR (.str x)= .ok (.bl false):=rfl
theorem isN_pr (p:Str×List Str):isNR (prD p)= .ok (.bl false):=rfl
theorem loop_door (Tx Rw Ru:D):∀ (ds:List Str) (k:Nat) (A rest:List D) (x4 x5 x6 x7:Option S),(∀ x∈ds,Gd x)→A.length+ds.length<60→
  ∃ y4 y5 y6 y7,forD tgR l_read_house_1 (enumD k ((ds.map fun x=>D.str (("door ":Str)++x))++rest)) (stR Tx Rw Ru A [] [] x4 x5 x6 x7)=forD tgR l_read_house_1 (enumD (k+ds.length) rest) (stR Tx Rw Ru (A++ds.map D.str) [] [] y4 y5 y6 y7)
 | [],k,A,rest,x4,x5,x6,x7,_,_=>⟨x4,x5,x6,x7,by rw [List.map_nil,List.map_nil,List.append_nil];rfl⟩
 |x::ds,k,A,rest,x4,x5,x6,x7,g,h=>by
  have gx:=g x List.mem_cons_self
  have st:=stand_eq A [] [] "door" (.inl ⟨rfl,rfl,rfl,by rw [List.length_cons] at h;omega⟩)
  have tn:=turn_g Tx Rw Ru (.int (k:Int)) A [] [] (("door ":Str)++x) "door" _ (.str x) 0 A x6 x7 (door_split gx) (ixW ["door",x] 0 "door" rfl) (thing_door gx) (isN_str x) st rfl rfl (by rw [List.length_cons] at h;omega)
  obtain ⟨y4,y5,y6,y7,e⟩:=loop_door Tx Rw Ru ds (k+1) (A++ [.str x]) rest (some (.d (.int (k:Int)))) (some (.d (.str (("door ":Str)++x)))) (some (.d (.lst ((["door",x]:List Str).map D.str)))) (some (.d (.str x))) (fun y hy=>g y (List.mem_cons_of_mem _ hy)) (by rw [List.length_append];rw [List.length_cons] at h;show A.length+1+_<60;omega)
  refine ⟨y4,y5,y6,y7,?_⟩
  rw [List.append_assoc,show k+1+ds.length=k+(x::ds).length by rw [List.length_cons];omega] at e
  rw [List.map_cons (f:=D.str)]
  refine Eq.trans ?_ e
  exact for_nx rfl tn
theorem loop_wing (Tx Rw Ru:D) (A:List D) (hA:A≠ []):∀ (ps:List (Str×List Str)) (k:Nat) (B rest:List D) (x4 x5 x6 x7:Option S),(∀ p∈ps,PrG p)→B.length+ps.length<60→
  ∃ y4 y5 y6 y7,forD tgR l_read_house_1 (enumD k ((ps.map fun p=>D.str (rowP "wing" "=" p))++rest)) (stR Tx Rw Ru A B [] x4 x5 x6 x7)=forD tgR l_read_house_1 (enumD (k+ps.length) rest) (stR Tx Rw Ru A (B++ps.map prD) [] y4 y5 y6 y7)
 | [],k,B,rest,x4,x5,x6,x7,_,_=>⟨x4,x5,x6,x7,by rw [List.map_nil,List.map_nil,List.append_nil];rfl⟩
 |p::ps,k,B,rest,x4,x5,x6,x7,g,h=>by
  have gx:=g p List.mem_cons_self
  have st:=stand_eq A B [] "wing" (.inr (.inl ⟨rfl,rfl,hA,by rw [List.length_cons] at h;omega⟩))
  have tn:=turn_g Tx Rw Ru (.int (k:Int)) A B [] (rowP "wing" "=" p) "wing" _ (prD p) 1 B x6 x7 (thing_split gx (.inl rfl) (.inl rfl)) (ixW ("wing"::p.1::"="::p.2) 0 "wing" rfl) (thing_two gx (.inl ⟨rfl,rfl⟩)) (isN_pr p) st rfl rfl (by rw [List.length_cons] at h;omega)
  obtain ⟨y4,y5,y6,y7,e⟩:=loop_wing Tx Rw Ru A hA ps (k+1) (B++ [prD p]) rest (some (.d (.int (k:Int)))) (some (.d (.str (rowP "wing" "=" p)))) (some (.d (.lst ((("wing":Str)::p.1::("=":Str)::p.2).map D.str)))) (some (.d (prD p))) (fun y hy=>g y (List.mem_cons_of_mem _ hy)) (by rw [List.length_append];rw [List.length_cons] at h;show B.length+1+_<60;omega)
  refine ⟨y4,y5,y6,y7,?_⟩
  rw [List.append_assoc,show k+1+ps.length=k+(p::ps).length by rw [List.length_cons];omega] at e
  rw [List.map_cons (f:=prD)]
  refine Eq.trans ?_ e
  exact for_nx rfl tn
theorem loop_key (Tx Rw Ru:D) (A B:List D) (hA:A≠ []):∀ (ps:List (Str×List Str)) (k:Nat) (C:List D) (x4 x5 x6 x7:Option S),(∀ p∈ps,PrG p)→C.length+ps.length<60→
  ∃ y4 y5 y6 y7,forD tgR l_read_house_1 (enumD k (ps.map fun p=>D.str (rowP "key" "opens" p))) (stR Tx Rw Ru A B C x4 x5 x6 x7)= .nx (stR Tx Rw Ru A B (C++ps.map prD) y4 y5 y6 y7)
 | [],k,C,x4,x5,x6,x7,_,_=>⟨x4,x5,x6,x7,by rw [List.map_nil,List.map_nil,List.append_nil];rfl⟩
 |p::ps,k,C,x4,x5,x6,x7,g,h=>by
  have gx:=g p List.mem_cons_self
  have st:=stand_eq A B C "key" (.inr (.inr ⟨rfl,hA,by rw [List.length_cons] at h;omega⟩))
  have tn:=turn_g Tx Rw Ru (.int (k:Int)) A B C (rowP "key" "opens" p) "key" _ (prD p) 2 C x6 x7 (thing_split gx (.inr rfl) (.inr rfl)) (ixW ("key"::p.1::"opens"::p.2) 0 "key" rfl) (thing_two gx (.inr ⟨rfl,rfl⟩)) (isN_pr p) st rfl rfl (by rw [List.length_cons] at h;omega)
  obtain ⟨y4,y5,y6,y7,e⟩:=loop_key Tx Rw Ru A B hA ps (k+1) (C++ [prD p]) (some (.d (.int (k:Int)))) (some (.d (.str (rowP "key" "opens" p)))) (some (.d (.lst ((("key":Str)::p.1::("opens":Str)::p.2).map D.str)))) (some (.d (prD p))) (fun y hy=>g y (List.mem_cons_of_mem _ hy)) (by rw [List.length_append];rw [List.length_cons] at h;show C.length+1+_<60;omega)
  refine ⟨y4,y5,y6,y7,?_⟩
  rw [List.append_assoc] at e
  rw [List.map_cons (f:=prD)]
  refine Eq.trans ?_ e
  exact for_nx rfl tn
theorem join_no {c:Nat} (hc:c≠32) {xs:List Str} (h:∀ x∈xs,c∉x.cps.toList):c∉(PySem.Txt.join ⟨#[32]⟩ xs).cps.toList:=by
 rw [show PySem.Txt.join ⟨#[32]⟩ xs=Str.join ⟨#[32]⟩ xs from StrLaws.glued_eq_join _ _,join_cps]
 intro z
 rcases jn_mem 32 c z with z|⟨y,hy,z⟩
 ·exact hc z
 ·obtain ⟨x,hx,rfl⟩:=List.mem_map.mp hy
  exact h x hx z
theorem splitB_rows {rows:List Str} (h2:2≤rows.length) (hn:rows.length≤1000) (hl:(rows.map (·.length)).sum+rows.length≤100000) (hf:∀ x∈rows,10∉x.cps.toList):splitB (PySem.Txt.join ⟨#[10]⟩ rows) [.str ⟨#[10]⟩]= .ok (rows.map D.str):=by
 have sj:=split_join 10 rows (fun z=>by rw [z] at h2;simp at h2) hf
 have zl:=Nat.le_trans (join_len 10 rows) hl
 generalize PySem.Txt.join ⟨#[10]⟩ rows=z at*
 have ps:(PySem.Builtin.Str.partsBetween z (PySem.Builtin.Str.occurrences z ⟨#[10]⟩ 0 z.length (z.length+1)) (⟨#[10]⟩:Str).length).length≤1000:=by
  have sj':=sj
  unfold PySem.Txt.split at sj'
  split at sj'
  ·rw [←sj'] at h2;simp at h2
  ·split at sj'
   ·rw [←sj'] at h2;simp at h2
   ·rw [sj'];exact hn
 unfold splitB
 dsimp only
 rw [if_pos ⟨rfl,zl,ps⟩,sj]
theorem rows_no {a b c d:Int} (o:RuOk a b c d) {ds:List Str} {ps qs:List (Str×List Str)} (g1:∀ x∈ds,Gd x) (g2:∀ p∈ps,PrG p) (g3:∀ p∈qs,PrG p):∀ x∈rowsH a b c d ds ps qs,10∉x.cps.toList:=fun x hx=>by
 have sm:=o.sm
 have cat:∀ u v:Str,10∉u.cps.toList→10∉v.cps.toList→10∉(u++v).cps.toList:=fun u v hu hv z=>by
  rw [Str.cps_append,Array.toList_append] at z
  rcases List.mem_append.mp z with z|z
  ·exact hu z
  ·exact hv z
 have row:∀ (k l:Str) (p:Str×List Str),(k="wing"∨k="key")→(l="="∨l="opens")→PrG p→10∉(rowP k l p).cps.toList:=fun k l p hk hl hp=>by
  refine join_no (by decide) fun y hy=> ?_
  rcases List.mem_cons.mp hy with rfl|hy
  ·exact (kw_no (by rcases hk with rfl|rfl<;>simp)).2.1
  ·rcases List.mem_cons.mp hy with rfl|hy
   ·exact Gd_no hp.1 (by decide)
   ·rcases List.mem_cons.mp hy with rfl|hy
    ·exact (kw_no (by rcases hl with rfl|rfl<;>simp)).2.1
    ·exact Gd_no (hp.2.2.2.1 y hy) (by decide)
 unfold rowsH at hx
 rcases List.mem_cons.mp hx with rfl|hx
 ·refine cat _ _ (by decide +kernel) (join_no (by decide) fun y hy=> ?_)
  simp only [List.mem_cons,List.not_mem_nil,or_false] at hy
  rcases hy with rfl|rfl|rfl|rfl
  ·exact (dig_ok a (sm a (by simp))).2.2.2
  ·exact (dig_ok b (sm b (by simp))).2.2.2
  ·exact (dig_ok c (sm c (by simp))).2.2.2
  ·exact (dig_ok d (sm d (by simp))).2.2.2
 ·rcases List.mem_append.mp hx with hx|hx
  ·rcases List.mem_append.mp hx with hx|hx
   ·obtain ⟨y,hy,rfl⟩:=List.mem_map.mp hx
    exact cat _ _ (by decide +kernel) (Gd_no (g1 y hy) (by decide))
   ·obtain ⟨p,hp,rfl⟩:=List.mem_map.mp hx
    exact row _ _ p (.inl rfl) (.inl rfl) (g2 p hp)
  ·obtain ⟨p,hp,rfl⟩:=List.mem_map.mp hx
   exact row _ _ p (.inr rfl) (.inr rfl) (g3 p hp)
theorem slL_from1 (r:Str) (rest:List Str):slL (.lst ((r::rest).map D.str)) (some 1) none= .ok (rest.map D.str):=by
 rw [slL_l,cut_str]
 congr 2
 rw [sIx_nat _ _ 1 (by decide)]
 show List.take _ (List.drop (min 1 _) (r::rest))=_
 rw [Nat.min_eq_left (by simp)]
 show List.take _ rest=_
 refine List.take_of_length_le ?_
 show rest.length≤(r::rest).length-1
 simp
theorem read_eq {a b c d:Int} (o:RuOk a b c d) {ds:List Str} {ps qs:List (Str×List Str)} (hd:1≤ds.length∧ds.length≤20) (hp:ps.length≤20) (hq:qs.length≤20) (g1:∀ x∈ds,Gd x) (g2:∀ p∈ps,PrG p) (g3:∀ p∈qs,PrG p):
  callR 1 m_read_house [.str (PySem.Txt.join ⟨#[10]⟩ (rowsH a b c d ds ps qs))]= .ok (HsD (.tup [.int a, .int b, .int c, .int d]) (.lst (ds.map D.str)) (.lst (ps.map prD)) (.lst (qs.map prD))):=by
 have len:=rowsH_len a b c d ds ps qs o.sm (by omega) (by omega) (by omega) (fun x hx=>by have:=(g1 x hx).1;omega) (fun p h=>(g2 p h).ok) (fun p h=>(g3 p h).ok)
 have rl:(rowsH a b c d ds ps qs).length=1+(ds.length+ps.length+qs.length):=by
  unfold rowsH
  rw [List.length_cons,List.length_append,List.length_append,List.length_map,List.length_map,List.length_map];omega
 have sp:=splitB_rows (rows:=rowsH a b c d ds ps qs) (by omega) (by omega) len (rows_no o g1 g2 g3)
 have ri:=rules_in_eq o
 have i0:ixR (.lst ((rowsH a b c d ds ps qs).map D.str)) (.int 0)= .ok (.str (("rules ":Str)++rulS a b c d)):=ixW (rowsH a b c d ds ps qs) 0 _ rfl
 have s1:slL (.lst ((rowsH a b c d ds ps qs).map D.str)) (some 1) none= .ok ((ds.map fun x=>D.str (("door ":Str)++x))++((ps.map fun p=>D.str (rowP "wing" "=" p))++(qs.map fun p=>D.str (rowP "key" "opens" p)))):=by
  unfold rowsH
  rw [slL_from1]
  simp only [List.map_append,List.map_map,List.append_assoc]
  rfl
 have hA:ds.map D.str≠ []:=fun z=>by
  have:=congrArg List.length z
  rw [List.length_map] at this
  simp at this
  rw [this] at hd
  simp at hd
 have mk:=make_eq (.tup [.int a, .int b, .int c, .int d]) (ds.map D.str) ps qs (by omega) (by omega)
 have isS':isiR "str" (.str (PySem.Txt.join ⟨#[10]⟩ (rowsH a b c d ds ps qs)))= .ok (.bl true):=by rw [isiR_str _ (by simp [tyD])];rfl
 generalize PySem.Txt.join ⟨#[10]⟩ (rowsH a b c d ds ps qs)=z at*
 obtain ⟨u4,u5,u6,u7,f1⟩:=loop_door (.str z) (.lst ((rowsH a b c d ds ps qs).map D.str)) (.tup [.int a, .int b, .int c, .int d]) ds 1 [] ((ps.map fun p=>D.str (rowP "wing" "=" p))++(qs.map fun p=>D.str (rowP "key" "opens" p))) none none none none g1 (by show 0+_<60;omega)
 obtain ⟨v4,v5,v6,v7,f2⟩:=loop_wing (.str z) (.lst ((rowsH a b c d ds ps qs).map D.str)) (.tup [.int a, .int b, .int c, .int d]) ([]++ds.map D.str) hA ps (1+ds.length) [] (qs.map fun p=>D.str (rowP "key" "opens" p)) u4 u5 u6 u7 g2 (by show 0+_<60;omega)
 obtain ⟨w4,w5,w6,w7,f3⟩:=loop_key (.str z) (.lst ((rowsH a b c d ds ps qs).map D.str)) (.tup [.int a, .int b, .int c, .int d]) ([]++ds.map D.str) ([]++ps.map prD) hA qs (1+ds.length+ps.length) [] v4 v5 v6 v7 g3 (by show 0+_<60;omega)
 rw [List.nil_append] at f1 f2 f3
 rw [List.nil_append] at f2 f3
 rw [List.nil_append] at f3
 have fo:=(f1.trans f2).trans f3
 have dl:(ds.map D.str).length=ds.length:=List.length_map _
 clear f1 f2 f3 len rl g1 g2 g3
 generalize (rowsH a b c d ds ps qs).map D.str=RW at*
 generalize (ds.map fun x=>D.str (("door ":Str)++x))++((ps.map fun p=>D.str (rowP "wing" "=" p))++(qs.map fun p=>D.str (rowP "key" "opens" p)))=RS at*
 generalize ds.map D.str=A at*
 generalize ps.map prD=B at*
 generalize qs.map prD=C at*
 generalize D.tup [.int a, .int b, .int c, .int d]=R at*
 generalize ("rules ":Str)++rulS a b c d=r0 at*
 have sp':splitB z [.str "\n"]= .ok RW:=sp
 have en:enumSR [.lst RS]= .ok (enumD 1 RS):=rfl
 have q0:tNot1 (tR (b1 (isiR "str") (slotP 0))) [some (.d (.str z)),none,none,none,none,none,none,none]= .ok false:=by
  simp only [tNot1,tR,b1,slotP_0,Res.bind_ok,isS',boolR_bl,Bool.not_true]
 have q1:sSet 1 (asD (bM splitB (slotD 0) (aCons (kD (.str "\n")) aNil))) [some (.d (.str z)),none,none,none,none,none,none,none]= .nx [some (.d (.str z)),some (.d (.lst RW)),none,none,none,none,none,none]:=by
  simp only [sSet,asD,bM,kD,aCons,aNil,consR_ok,slotD_0,Res.bind_ok,sp',ofR_ok,List.set_cons_zero,List.set_cons_succ]
 have q2:sSet 2 (b1 (callR 1 m_rules_in) (aCons (b2 ixR (slotP 1) (kD (.int 0))) aNil)) [some (.d (.str z)),some (.d (.lst RW)),none,none,none,none,none,none]= .nx [some (.d (.str z)),some (.d (.lst RW)),some (.d R),none,none,none,none,none]:=by
  simp only [sSet,b1,b2,kD,aCons,aNil,consR_ok,slotP_0,slotP_s,Res.bind_ok,i0,ri,ofR_ok,List.set_cons_zero,List.set_cons_succ]
 have q3:sDL3 3 "door" "wing" "key" [some (.d (.str z)),some (.d (.lst RW)),some (.d R),none,none,none,none,none]= .nx (stR (.str z) (.lst RW) R [] [] [] none none none none):=rfl
 have q4:sFor tgR l_read_house_1 (b1 enumSR (aCons (asD (b3 slL (slotP 1) (b1 partR (kD (.int 1))) oNone)) aNil)) (stR (.str z) (.lst RW) R [] [] [] none none none none)= .nx (stR (.str z) (.lst RW) R A B C w4 w5 w6 w7):=by
  rw [←fo]
  simp only [stR,sFor,asD,b1,b3,kD,oNone,aCons,aNil,consR_ok,slotP_0,slotP_s,Res.bind_ok,partR_i,s1,en,ofR_ok]
 have g0:dgetR (KS.zip [.lst A, .lst B, .lst C]) (.str "door")= .ok (.lst A):=rfl
 have g1:dgetR (KS.zip [.lst A, .lst B, .lst C]) (.str "wing")= .ok (.lst B):=rfl
 have g2:dgetR (KS.zip [.lst A, .lst B, .lst C]) (.str "key")= .ok (.lst C):=rfl
 have la:lenR (.lst A)= .ok (.int (A.length:Int)):=lenR_l A
 have ea:eqR (.int (A.length:Int)) (.int 0)= .ok (.bl false):=by rw [eqR_ii,beq_eq_false_iff_ne.mpr (by omega)]
 have q5:sIf (tR (b2 eqR (b1 lenR (b2Q dgetR (slotQ 3) (kD (.str "door")))) (kD (.int 0)))) (fun _=> .stuck) Out.nx [some (.d (.str z)),some (.d (.lst RW)),some (.d R),some (.d (dctC A B C)),w4,w5,w6,w7]= .nx [some (.d (.str z)),some (.d (.lst RW)),some (.d R),some (.d (dctC A B C)),w4,w5,w6,w7]:=by
  refine sIf_f ?_
  simp only [tR,b1,b2,b2Q,kD,slotQ_s,slotQ_d0,Res.bind_ok,g0,la,ea,boolR_bl]
 refine callR_eq _ _ _ _ ?_ rfl
 unfold m_read_house b_read_house
 rw [runD_eq]
 show finO (sSeq _ _ [some (.d (.str z)),none,none,none,none,none,none,none])=_
 unfold sSeq
 rw [sIf_f q0,seqO_nx,q1,seqO_nx,q2,seqO_nx,q3,seqO_nx,q4,seqO_nx]
 show finO (seqO (sIf (tR (b2 eqR (b1 lenR (b2Q dgetR (slotQ 3) (kD (.str "door")))) (kD (.int 0)))) (fun _=> .stuck) Out.nx [some (.d (.str z)),some (.d (.lst RW)),some (.d R),some (.d (dctC A B C)),w4,w5,w6,w7]) _)=_
 rw [q5,seqO_nx]
 simp only [sRet,b1,b2Q,kD,aCons,aNil,consR_ok,slotD_0,slotD_s,slotQ_s,slotQ_d0,Res.bind_ok,g0,g1,g2,mk,ofR_ok,finO_rt]
theorem cut_fromD (xs:List D) (a:Nat):L3.cutD xs (some (a:Int)) none=xs.drop a:=by
 unfold L3.cutD
 rw [HT.sIx_nat]
 show (xs.drop (min a xs.length)).take (xs.length-min a xs.length)=_
 rw [List.take_of_length_le (by rw [List.length_drop];omega)]
 by_cases h:a≤xs.length
 ·rw [Nat.min_eq_left h]
 ·rw [Nat.min_eq_right (by omega),List.drop_of_length_le (by omega),List.drop_of_length_le (by omega)]
theorem rules_ok (c:Int):∃ p d h s:Int,callR 1 m__law_rules [.int c]= .ok (.tup [.int p, .int d, .int h, .int s])∧RuOk p d h s:=by
 obtain ⟨v1,e1⟩:=mixed_ex c 1 (by decide) (by decide)
 obtain ⟨v2,e2⟩:=mixed_ex c 2 (by decide) (by decide)
 obtain ⟨v3,e3⟩:=mixed_ex c 3 (by decide) (by decide)
 have a1:=Int.emod_nonneg v1 (show (19:Int)≠0 by decide)
 have a2:=Int.emod_lt_of_pos v1 (show (0:Int)<19 by decide)
 have m1:=modI v1 19 (by decide)
 generalize v1%19=q at*
 have m2:=modI v2 (2+q-1) (by omega)
 have m3:=modI v3 (2+q) (by omega)
 have m4:=modI c 24 (by decide)
 have a3:=Int.emod_nonneg v2 (show 2+q-1≠0 by omega)
 have a4:=Int.emod_lt_of_pos v2 (show 0<2+q-1 by omega)
 have a5:=Int.emod_nonneg v3 (show 2+q≠0 by omega)
 have a6:=Int.emod_lt_of_pos v3 (show 0<2+q by omega)
 have a7:=Int.emod_nonneg c (show (24:Int)≠0 by decide)
 have a8:=Int.emod_lt_of_pos c (show (0:Int)<24 by decide)
 generalize v2%(2+q-1)=r at*
 generalize v3%(2+q)=t at*
 generalize c%24=u at*
 refine ⟨1+u,2+q,1+t,1+r,callR_eq _ _ _ _ ?_ rfl,⟨by omega,by omega,by omega,by omega⟩⟩
 clear a1 a2 a3 a4 a5 a6 a7 a8
 unfold m__law_rules b__law_rules
 walk_at "ev*"
theorem lists_turn (ns:List Int) (as bs:List Str) (acc:List (Str×List Str)) (i:Nat) (x y z:Option S) (hi:i<as.length) (hi2:i≤100) (hb:bs≠ []) (hbl:bs.length≤100) (ha:∀ w∈as,Gd w) (hb2:∀ w∈bs,Gd w) (nd:bs.Nodup) (hacc:acc.length≤100):
  ∃ (x' y' z':Option S) (p:Str×List Str),l__law_lists_1 [some (.d (.lst (as.map D.str))),some (.d (.lst (bs.map D.str))),some (.d (.lst (ns.map D.int))),some (.o (acc.map prD)),some (.d (.int (i:Int))),x,y,z]= .nx [some (.d (.lst (as.map D.str))),some (.d (.lst (bs.map D.str))),some (.d (.lst (ns.map D.int))),some (.o ((acc++ [p]).map prD)),some (.d (.int (i:Int))),x',y',z']∧PrG p:=by
 have m40:=modI (i:Int) 40 (by decide)
 have m40a:=Int.emod_nonneg (i:Int) (show (40:Int)≠0 by decide)
 obtain ⟨c0,ec0⟩:=cell_ex ns (4+(i:Int)%40) (by omega)
 obtain ⟨c,ec⟩:=mixed_ex c0 (10+(i:Int)) (by omega) (by omega)
 obtain ⟨a,haa⟩:∃ a,as[i]? =some a:=⟨_,List.getElem?_eq_getElem hi⟩
 have ea:=ixW as i a haa
 have ga:=ha a (List.mem_of_getElem? haa)
 have hn:0<bs.length:=List.length_pos_iff.mpr hb
 have lb:lenR (.lst (bs.map D.str))= .ok (.int (bs.length:Int)):=by rw [lenR_l,List.length_map]
 have d1:=divI c 6 (by decide) (by decide)
 have m1:=modI (c / 6) (bs.length:Int) (by omega)
 have g0:=Int.emod_nonneg (c / 6) (show (bs.length:Int)≠0 by omega)
 have g1:=Int.emod_lt_of_pos (c / 6) (show (0:Int)<(bs.length:Int) by omega)
 obtain ⟨q,hq⟩:∃ q:Nat,c / 6%(bs.length:Int)=(q:Int):=⟨(c / 6%(bs.length:Int)).toNat,by omega⟩
 rw [hq] at m1 g1
 have s1:slL (.lst (bs.map D.str)) (some (q:Int)) none= .ok ((bs.drop q).map D.str):=by rw [slL_l,cut_fromD,List.map_drop]
 have s2:slL (.lst (bs.map D.str)) none (some (q:Int))= .ok ((bs.take q).map D.str):=by rw [slL_l,L3.cutD_to,List.map_take]
 have e1:=catR_l ((bs.drop q).map D.str) ((bs.take q).map D.str) (by rw [List.length_map,List.length_map,List.length_drop,List.length_take];omega)
 rw [←List.map_append] at e1
 have m2:=modI c 6 (by decide)
 have k0:=Int.emod_nonneg c (show (6:Int)≠0 by decide)
 have k1:=Int.emod_lt_of_pos c (show (0:Int)<6 by decide)
 obtain ⟨r,hr⟩:∃ r:Nat,c%6=(r:Int):=⟨(c%6).toNat,by omega⟩
 rw [hr] at m2 k1
 have tl:(bs.drop q++bs.take q).length=bs.length:=by rw [List.length_append,List.length_drop,List.length_take];omega
 have tn:(bs.drop q++bs.take q).Nodup:=by
  refine (List.perm_append_comm.nodup_iff).mp ?_
  rw [List.take_append_drop];exact nd
 have tg:∀ w∈bs.drop q++bs.take q,Gd w:=fun w hw=>by
  rcases List.mem_append.mp hw with hw|hw
  ·exact hb2 w (List.mem_of_mem_drop hw)
  ·exact hb2 w (List.mem_of_mem_take hw)
 generalize bs.drop q++bs.take q=ts at*
 have s3:slL (.lst (ts.map D.str)) none (some (1+(r:Int)))= .ok ((ts.take (1+r)).map D.str):=by rw [slL_l,show 1+(r:Int)=((1+r:Nat):Int) by omega,L3.cutD_to,List.map_take]
 have e7:=appO_eq 3 [some (.d (.lst (as.map D.str))),some (.d (.lst (bs.map D.str))),some (.d (.lst (ns.map D.int))),some (.o (acc.map prD)),some (.d (.int (i:Int))),some (.d (.int c)),some (.d (.int (q:Int))),some (.d (.lst (ts.map D.str)))] (acc.map prD) (prD (a,ts.take (1+r))) rfl (by rw [List.length_map];omega)
 refine ⟨some (.d (.int c)),some (.d (.int (q:Int))),some (.d (.lst (ts.map D.str))),(a,ts.take (1+r)),?_,ga,fun z=> ?_,?_,fun w hw=>tg w (List.mem_of_mem_take hw),tn.sublist (List.take_sublist _ _)⟩
 ·rw [List.map_append,List.map_singleton]
  rw [show prD (a,ts.take (1+r))= .tup [.str a, .lst ((ts.take (1+r)).map D.str)] from rfl] at e7 ⊢
  clear hi hb hbl ha hb2 hacc hn g0 g1 k0 k1 tl tn tg nd haa ga
  generalize ns.map D.int=C at*
  generalize acc.map prD=P at*
  generalize (ts.take (1+r)).map D.str=M at*
  generalize ts.map D.str=T at*
  generalize (bs.drop q).map D.str=B1 at*
  generalize (bs.take q).map D.str=B2 at*
  generalize bs.map D.str=B at*
  generalize as.map D.str=A at*
  unfold l__law_lists_1
  simp only [kD,b1,b2,b3,b2F,asD,tupR,aCons,aNil,oNone,consR_ok,sSeq,sSet,sApp,slotD_0,slotD_s,slotP_0,slotP_0o,slotP_s,Res.bind_ok,ofR_ok,seqO_nx,addD_ii,partR_i,m40,ec0,ec,d1,lb,m1,s1,s2,e1,m2,ea,s3,e7,List.set_cons_zero,List.set_cons_succ,List.length_cons,List.length_nil,Nat.reduceAdd,Nat.reduceLeDiff,if_true]
 ·have:min (1+r) ts.length=0:=by rw [←List.length_take];exact congrArg List.length z
  omega
 ·show (ts.take (1+r)).length≤6
  rw [List.length_take];omega
theorem lists_ok (ns:List Int) (as bs:List Str) (hal:as.length≤50) (hb:bs≠ []) (hbl:bs.length≤100) (ha:∀ w∈as,Gd w) (hb2:∀ w∈bs,Gd w) (nd:bs.Nodup):
  ∃ ps:List (Str×List Str),callR 3 m__law_lists [.lst (as.map D.str), .lst (bs.map D.str), .lst (ns.map D.int)]= .ok (.lst (ps.map prD))∧ps.length=as.length∧∀ p∈ps,PrG p:=by
 have rg:rng1R [.int ((as.map D.str).length:Int)]= .ok (rngD 0 as.length):=by
  rw [List.length_map]
  have:=rng1_i (as.length:Int) (by omega) (by omega)
  rwa [show ((as.length:Int)).toNat=as.length by omega] at this
 obtain ⟨δ2,f,ps,x0,x1,x2,x3,rfl,hl,hp⟩:=forD_ix (t:=setI 4) (body:=l__law_lists_1) (fun i δ=>∃ (ps:List (Str×List Str)) (x0 x1 x2 x3:Option S),δ= [some (.d (.lst (as.map D.str))),some (.d (.lst (bs.map D.str))),some (.d (.lst (ns.map D.int))),some (.o (ps.map prD)),x0,x1,x2,x3]∧ps.length=i∧∀ p∈ps,PrG p)
  (rngD 0 as.length) [some (.d (.lst (as.map D.str))),some (.d (.lst (bs.map D.str))),some (.d (.lst (ns.map D.int))),some (.o []),none,none,none,none] (fun i d δ hd hI=>by
   obtain ⟨ps,x0,x1,x2,x3,rfl,hl,hp⟩:=hI
   obtain ⟨hi,rfl⟩:=rngD_get hd
   rw [show (0+(i:Int))=(i:Int) by omega]
   obtain ⟨y1,y2,y3,p,e,hpp⟩:=lists_turn ns as bs ps i x1 x2 x3 hi (by omega) hb hbl ha hb2 nd (by omega)
   refine ⟨_,rfl,_, .inl e,ps++ [p],_,_,_,_,rfl,by rw [List.length_append,hl];rfl,fun u hu=> ?_⟩
   rcases List.mem_append.mp hu with hu|hu
   ·exact hp u hu
   ·rw [List.mem_singleton.mp hu];exact hpp) ⟨[],none,none,none,none,rfl,rfl,fun u hu=>by simp at hu⟩
 rw [rngD_len] at hl
 refine ⟨ps,callR_eq _ _ _ _ ?_ rfl,hl,hp⟩
 clear hp hl hal hb hbl ha hb2 nd
 generalize as.map D.str=A at*
 generalize bs.map D.str=B at*
 generalize ns.map D.int=C at*
 generalize ps.map prD=P at*
 unfold m__law_lists b__law_lists
 simp only [runD_eq,startD,List.map_cons,List.map_nil,List.length_cons,List.length_nil,List.cons_append,List.nil_append,Nat.reduceAdd,Nat.reduceSub,List.replicate,kD,b1,lstR,aCons,aNil,consR_ok,sSeq,sOwn,sFor,sRet,slotD_0,slotD_s,slotP_0,slotP_0o,slotP_s,Res.bind_ok,ofR_ok,seqO_nx,lenR_l,rg,f,List.set_cons_zero,List.set_cons_succ,Nat.zero_le,if_true,finO_rt]
theorem lfit_eq (ps:List (Str×List Str)) (hl:ps.length≤1000):callR 2 m__law_lists_fit [.lst (ps.map prD), .lst (ps.map prD)]= .ok (.bl true):=by
 have is:isiR "list" (.lst (ps.map prD))= .ok (.bl true):=by rw [isiR_list _ (by simp [tyD])];rfl
 have ne:=(same_prs ps).2
 have sq:seqR (.lst (ps.map prD))= .ok (ps.map prD):=rfl
 obtain ⟨δ2,fo,y2,rfl⟩:=forD_ix (t:=setI 2) (body:=l__law_lists_fit_1) (fun _ δ=>∃ y2:Option S,δ= [some (.d (.lst (ps.map prD))),some (.d (.lst (ps.map prD))),y2]) (ps.map prD) [some (.d (.lst (ps.map prD))),some (.d (.lst (ps.map prD))),none] (fun i d δ hd hI=>by
  obtain ⟨y2,rfl⟩:=hI
  obtain ⟨p,_,rfl⟩:=List.mem_map.mp (List.mem_of_getElem? hd)
  have t1:isiR "tuple" (prD p)= .ok (.bl true):=by rw [isiR_tuple _ (by simp [tyD,prD])];rfl
  have i0:ixR (prD p) (.int 0)= .ok (.str p.1):=ixR_t _ _ _ rfl
  have i1:ixR (prD p) (.int 1)= .ok (.lst (p.2.map D.str)):=ixR_t _ _ _ rfl
  have t2:isiR "str" (.str p.1)= .ok (.bl true):=by rw [isiR_str _ (by simp [tyD])];rfl
  have t3:isiR "list" (.lst (p.2.map D.str))= .ok (.bl true):=by rw [isiR_list _ (by simp [tyD])];rfl
  refine ⟨_,rfl,[some (.d (.lst (ps.map prD))),some (.d (.lst (ps.map prD))),some (.d (prD p))], .inl ?_,_,rfl⟩
  generalize prD p=P at*
  generalize ps.map prD=PS at*
  unfold l__law_lists_fit_1
  refine sIf_f ?_
  simp only [List.set_cons_zero,List.set_cons_succ,tOr2,tNot1,tR,b1,b2,kD,slotP_0,slotP_s,Res.bind_ok,t1,i0,i1,t2,t3,boolR_bl,orB_ok,Bool.not_true,Bool.false_eq_true,if_false]) ⟨none,rfl⟩
 generalize ps.map prD=PS at*
 refine callR_eq _ _ _ _ ?_ rfl
 have q1:tOr2 (tNot1 (tR (b1 (isiR "list") (slotP 0)))) (tR (b2 neR (slotP 0) (slotP 1))) [some (.d (.lst PS)),some (.d (.lst PS)),none]= .ok false:=by
  simp only [tOr2,tNot1,tR,b1,b2,slotP_0,slotP_s,Res.bind_ok,is,ne,boolR_bl,orB_ok,Bool.not_true,Bool.false_eq_true,if_false]
 have q2:sFor (setI 2) l__law_lists_fit_1 (b1 seqR (slotD 0)) [some (.d (.lst PS)),some (.d (.lst PS)),none]= .nx [some (.d (.lst PS)),some (.d (.lst PS)),y2]:=by
  rw [←fo]
  simp only [sFor,b1,slotD_0,Res.bind_ok,sq,ofR_ok]
 unfold m__law_lists_fit b__law_lists_fit
 rw [runD_eq]
 show finO (sSeq _ _ [some (.d (.lst PS)),some (.d (.lst PS)),none])=_
 unfold sSeq
 rw [sIf_f q1,seqO_nx,q2,seqO_nx]
 rfl
theorem fits_eq (a b c d:Int) (ds:List Str) (ps qs:List (Str×List Str)) (hp:ps.length≤1000) (hq:qs.length≤1000):
  callR 5 m__law_fits [HsD (.tup [.int a, .int b, .int c, .int d]) (.lst (ds.map D.str)) (.lst (ps.map prD)) (.lst (qs.map prD)), .tup [.int a, .int b, .int c, .int d], .lst (ds.map D.str), .lst (ps.map prD), .lst (qs.map prD)]= .ok (.bl true):=by
 have f1:=fld1 (.tup [.int a, .int b, .int c, .int d]) (.lst (ds.map D.str)) (.lst (ps.map prD)) (.lst (qs.map prD))
 have f2:=fld2 (.tup [.int a, .int b, .int c, .int d]) (.lst (ds.map D.str)) (.lst (ps.map prD)) (.lst (qs.map prD))
 have f3:=fld3 (.tup [.int a, .int b, .int c, .int d]) (.lst (ds.map D.str)) (.lst (ps.map prD)) (.lst (qs.map prD))
 have f4:=fld4 (.tup [.int a, .int b, .int c, .int d]) (.lst (ds.map D.str)) (.lst (ps.map prD)) (.lst (qs.map prD))
 generalize HsD (.tup [.int a, .int b, .int c, .int d]) (.lst (ds.map D.str)) (.lst (ps.map prD)) (.lst (qs.map prD))=HH at*
 have t1:isiR "tuple" (.tup [.int a, .int b, .int c, .int d])= .ok (.bl true):=by rw [isiR_tuple _ (by simp [tyD])];rfl
 have t2:isiR "list" (.lst (ds.map D.str))= .ok (.bl true):=by rw [isiR_list _ (by simp [tyD])];rfl
 have n1:=(same_rul a b c d).2
 have n2:=(same_strs ds).2
 have l1:=lfit_eq ps hp
 have l2:=lfit_eq qs hq
 have sq:seqR (.tup [.int a, .int b, .int c, .int d])= .ok [.int a, .int b, .int c, .int d]:=rfl
 have tn:∀ (x:Int) (r:DSt) (h0 h1 h2 h3 h4:Option S),l__law_fits_1 [h0,h1,h2,h3,h4,some (.d (.int x))]= .nx [h0,h1,h2,h3,h4,some (.d (.int x))]:=fun x _ _ _ _ _ _=>by
  have i1:isiR "int" (.int x)= .ok (.bl true):=by rw [isiR_int _ (by simp [tyD])];rfl
  have i2:isiR "bool" (.int x)= .ok (.bl false):=by rw [isiR_bool _ (by simp [tyD])];rfl
  unfold l__law_fits_1
  refine sIf_f ?_
  simp only [tOr2,tNot1,tR,b1,slotP_0,slotP_s,Res.bind_ok,i1,i2,boolR_bl,orB_ok,Bool.not_true,Bool.false_eq_true,if_false]
 have fo:∀ (h0 h1 h2 h3 h4:Option S),forD (setI 5) l__law_fits_1 [.int a, .int b, .int c, .int d] [h0,h1,h2,h3,h4,none]= .nx [h0,h1,h2,h3,h4,some (.d (.int d))]:=fun h0 h1 h2 h3 h4=>by
  rw [for_nx rfl (tn a [] h0 h1 h2 h3 h4),for_nx rfl (tn b [] h0 h1 h2 h3 h4),for_nx rfl (tn c [] h0 h1 h2 h3 h4),for_nx rfl (tn d [] h0 h1 h2 h3 h4)]
  rfl
 generalize D.tup [.int a, .int b, .int c, .int d]=R at*
 generalize ds.map D.str=A at*
 generalize ps.map prD=B at*
 generalize qs.map prD=C at*
 refine callR_eq _ _ _ _ ?_ rfl
 unfold m__law_fits b__law_fits
 rw [runD_eq]
 show finO (sSeq _ _ [some (.d HH),some (.d R),some (.d (.lst A)),some (.d (.lst B)),some (.d (.lst C)),none])=_
 unfold sSeq
 rw [sIf_f (by simp only [tOr2,tNot1,tR,b1,b2,slotD_0,slotP_0,slotP_s,Res.bind_ok,f1,t1,n1,boolR_bl,orB_ok,Bool.not_true,Bool.false_eq_true,if_false]),seqO_nx]
 rw [show sFor (setI 5) l__law_fits_1 (b1 seqR (b1 (fldR "House" "rules") (slotD 0))) [some (.d HH),some (.d R),some (.d (.lst A)),some (.d (.lst B)),some (.d (.lst C)),none]= .nx [some (.d HH),some (.d R),some (.d (.lst A)),some (.d (.lst B)),some (.d (.lst C)),some (.d (.int d))] by
  rw [←fo]
  simp only [sFor,b1,slotD_0,Res.bind_ok,f1,sq,ofR_ok],seqO_nx]
 rw [sIf_f (by simp only [tOr2,tNot1,tR,b1,b2,slotD_0,slotP_0,slotP_s,Res.bind_ok,f2,t2,n2,boolR_bl,orB_ok,Bool.not_true,Bool.false_eq_true,if_false]),seqO_nx]
 simp only [sRet,vAnd,b1,aCons,aNil,consR_ok,slotD_0,slotD_s,Res.bind_ok,f3,f4,l1,l2,andD_bl,if_true,ofR_ok,finO_rt]
theorem slL_ft (ws:List Str) (a b:Nat) (h1:a≤b):slL (.lst (ws.map D.str)) (some (a:Int)) (some (b:Int))= .ok (((ws.drop a).take (b-a)).map D.str):=by
 rw [slL_l,cut_str,HT.sIx_nat,HT.sIx_nat]
 congr 2
 by_cases h:a≤ws.length
 ·rw [Nat.min_eq_left h]
  by_cases hb:b≤ws.length
  ·rw [Nat.min_eq_left hb]
  ·rw [Nat.min_eq_right (by omega),List.take_of_length_le (by rw [List.length_drop];omega),List.take_of_length_le (by rw [List.length_drop];omega)]
 ·rw [Nat.min_eq_right (by omega),Nat.min_eq_right (by omega),List.drop_of_length_le (by omega),List.drop_of_length_le (by omega)]
  simp
theorem slL_to (ws:List Str) (b:Nat):slL (.lst (ws.map D.str)) none (some (b:Int))= .ok ((ws.take b).map D.str):=by rw [slL_l,L3.cutD_to,List.map_take]
theorem slL_fr (ws:List Str) (a:Nat):slL (.lst (ws.map D.str)) (some (a:Int)) none= .ok ((ws.drop a).map D.str):=by rw [slL_l,cut_fromD,List.map_drop]
theorem mod_nat (d:Int) (n:Nat) (h:0<n):∃ a:Nat,a<n∧modD (.int d) (.int (n:Int))= .ok (.int (a:Int)):=by
 have m:=modI d (n:Int) (by omega)
 have a1:=Int.emod_nonneg d (show (n:Int)≠0 by omega)
 have a2:=Int.emod_lt_of_pos d (show (0:Int)<(n:Int) by omega)
 exact ⟨(d%(n:Int)).toNat,by omega,by rw [m,show (((d%(n:Int)).toNat:Nat):Int)=d%(n:Int) by omega]⟩
theorem other_eq:callR 1 m_read_house [.str "rules 1 2 1 1\ndoor a\nkey b opens a"]= .ok (HsD (.tup [.int 1, .int 2, .int 1, .int 1]) (.lst [.str "a"]) (.lst []) (.lst [prD ("b",["a"])])):=by
 have ga:Gd "a":=⟨by decide,by unfold okC;decide +kernel,by decide +kernel⟩
 have gb:Gd "b":=⟨by decide,by unfold okC;decide +kernel,by decide +kernel⟩
 have e:=read_eq (a:=1) (b:=2) (c:=1) (d:=1) ⟨by decide,by decide,by decide,by decide⟩ (ds:= ["a"]) (ps:= []) (qs:= [("b",["a"])]) (by decide) (by decide) (by decide) (fun x hx=>by rw [List.mem_singleton.mp hx];exact ga) (fun p hp=>by simp at hp) (fun p hp=>by
  rw [List.mem_singleton.mp hp]
  exact ⟨gb,by simp,by decide,fun w hw=>by rw [List.mem_singleton.mp hw];exact ga,by simp⟩)
 have t:PySem.Txt.join ⟨#[10]⟩ (rowsH 1 2 1 1 ["a"] [] [("b",["a"])])="rules 1 2 1 1\ndoor a\nkey b opens a":=by decide +kernel
 rw [t] at e
 exact e
theorem law_true (ns:List Int) (hns:ns.length≤63):m_law [.lst (ns.map D.int)]= .ok (.bl true):=by
 obtain ⟨c0,e0⟩:=cell_ex ns 0 (by decide)
 obtain ⟨c1,e1⟩:=cell_ex ns 1 (by decide)
 obtain ⟨c2,e2⟩:=cell_ex ns 2 (by decide)
 obtain ⟨c3,e3⟩:=cell_ex ns 3 (by decide)
 obtain ⟨mx,e4⟩:=mixed_ex c0 4 (by decide) (by decide)
 obtain ⟨f,inj,gd,e5⟩:=names_ex mx 56 (by decide)
 obtain ⟨ws,hws⟩:∃ ws:List Str,ws=(List.range 56).map f:=⟨_,rfl⟩
 have esL:sL (List.range 56) f= .lst (ws.map D.str):=by rw [hws,List.map_map];rfl
 rw [esL] at e5
 have e5':callR 2 m__law_names [.int mx, .int 56]= .ok (.lst (ws.map D.str)):=e5
 have wl:ws.length=56:=by rw [hws,List.length_map,List.length_range]
 have wg:∀ w∈ws,Gd w:=fun w hw=>by
  rw [hws] at hw
  obtain ⟨k,_,rfl⟩:=List.mem_map.mp hw
  exact gd k
 have wn:ws.Nodup:=by
  rw [hws]
  refine List.Pairwise.map _ (R:=fun a b=>a<81∧b<81∧a≠b) (fun a b h z=>h.2.2 (inj a b h.1 h.2.1 z)) ?_
  exact List.Pairwise.imp_of_mem (fun ha hb h=>⟨by have:=List.mem_range.mp ha;omega,by have:=List.mem_range.mp hb;omega,h⟩) List.nodup_range
 obtain ⟨q1,h1,m1⟩:=mod_nat c1 18 (by decide)
 obtain ⟨q2,h2,m2⟩:=mod_nat c2 19 (by decide)
 obtain ⟨q3,h3,m3⟩:=mod_nat c3 19 (by decide)
 have s1:=slL_to ws (1+q1)
 rw [show ((1+q1:Nat):Int)=1+(q1:Int) by omega] at s1
 have s2:=slL_ft ws 18 (18+q2) (by omega)
 rw [show ((18+q2:Nat):Int)=18+(q2:Int) by omega,show 18+q2-18=q2 by omega] at s2
 have s3:=slL_ft ws 36 (36+q3) (by omega)
 rw [show ((36+q3:Nat):Int)=36+(q3:Int) by omega,show 36+q3-36=q3 by omega] at s3
 have s4:=slL_fr ws 54
 obtain ⟨p,d,h,s,e6,ru⟩:=rules_ok c0
 have dl:(ws.take (1+q1)).length=1+q1:=by rw [List.length_take,wl];omega
 have ml:((ws.drop 18).take q2).length≤18:=by rw [List.length_take];omega
 have kl:((ws.drop 36).take q3).length≤18:=by rw [List.length_take];omega
 have xl:(ws.drop 54).length=2:=by rw [List.length_drop,wl]
 have dg:∀ w∈ws.take (1+q1),Gd w:=fun w hw=>wg w (List.mem_of_mem_take hw)
 have mg:∀ w∈(ws.drop 18).take q2,Gd w:=fun w hw=>wg w (List.mem_of_mem_drop (List.mem_of_mem_take hw))
 have kg:∀ w∈(ws.drop 36).take q3,Gd w:=fun w hw=>wg w (List.mem_of_mem_drop (List.mem_of_mem_take hw))
 have xg:∀ w∈ws.drop 54,Gd w:=fun w hw=>wg w (List.mem_of_mem_drop hw)
 have an:(ws.take (1+q1)++(ws.drop 18).take q2++ws.drop 54).Nodup:=by
  refine wn.sublist ?_
  have a1:(ws.take (1+q1)).Sublist (ws.take 18):=by
   have:ws.take (1+q1)=(ws.take 18).take (1+q1):=by rw [List.take_take,Nat.min_eq_left (by omega)]
   rw [this];exact List.take_sublist _ _
  have a2:((ws.drop 18).take q2).Sublist ((ws.drop 18).take 36):=by
   have:(ws.drop 18).take q2=((ws.drop 18).take 36).take q2:=by rw [List.take_take,Nat.min_eq_left (by omega)]
   rw [this];exact List.take_sublist _ _
  have a3:ws.take 18++(ws.drop 18).take 36++ws.drop 54=ws:=by
   have b1:ws.drop 54=(ws.drop 18).drop 36:=by rw [List.drop_drop]
   rw [b1,List.append_assoc,List.take_append_drop,List.take_append_drop]
  have:=(a1.append a2).append (List.Sublist.refl (ws.drop 54))
  rwa [a3] at this
 have ag:∀ w∈ws.take (1+q1)++(ws.drop 18).take q2++ws.drop 54,Gd w:=fun w hw=>by
  rcases List.mem_append.mp hw with hw|hw
  ·rcases List.mem_append.mp hw with hw|hw
   ·exact dg w hw
   ·exact mg w hw
  ·exact xg w hw
 generalize ws.take (1+q1)=ds at*
 generalize (ws.drop 18).take q2=ms at*
 generalize (ws.drop 36).take q3=ks at*
 generalize ws.drop 54=xs at*
 have k1:=catR_l (ds.map D.str) (ms.map D.str) (by rw [List.length_map,List.length_map];omega)
 rw [←List.map_append] at k1
 have k2:=catR_l ((ds++ms).map D.str) (xs.map D.str) (by rw [List.length_map,List.length_map,List.length_append];omega)
 rw [←List.map_append] at k2
 have an0:ds++ms++xs≠ []:=fun z=>by
  have:=congrArg List.length z
  rw [List.length_append,List.length_append,List.length_nil] at this
  omega
 have al:(ds++ms++xs).length≤100:=by rw [List.length_append,List.length_append];omega
 obtain ⟨ps,e8,pl,pg⟩:=lists_ok ns ms (ds++ms++xs) (by omega) an0 al mg ag an
 obtain ⟨qs,e9,ql,qg⟩:=lists_ok (ns.drop 1) ks (ds++ms++xs) (by omega) an0 al kg ag an
 have sn:slL (.lst (ns.map D.int)) (some 1) none= .ok ((ns.drop 1).map D.int):=by
  rw [slL_l,show (1:Int)=((1:Nat):Int) from rfl,cut_fromD,List.map_drop]
 have tx:=text_eq p d h s ds ps qs ru.sm (by omega) (by omega) (by omega) (fun x hx=>by have:=(dg x hx).1;omega) (fun q hq=>(pg q hq).ok) (fun q hq=>(qg q hq).ok)
 have sh:=house_eq p d h s ds ps qs ru.sm (by omega) (by omega) (by omega) (fun x hx=>by have:=(dg x hx).1;omega) (fun q hq=>(pg q hq).ok) (fun q hq=>(qg q hq).ok)
 have rd:=read_eq ru (ds:=ds) (ps:=ps) (qs:=qs) (by omega) (by omega) (by omega) dg pg qg
 have ft:=fits_eq p d h s ds ps qs (by omega) (by omega)
 have ot:=other_eq
 have fo:=fld2 (.tup [.int 1, .int 2, .int 1, .int 1]) (.lst [.str "a"]) (.lst []) (.lst [prD ("b",["a"])])
 have na:neR (.lst [.str "a"]) (.lst [.str "a"])= .ok (.bl false):=(same_strs ["a"]).2
 have nt:=(same_str (PySem.Txt.join ⟨#[10]⟩ (rowsH p d h s ds ps qs))).2
 have is:isiR "str" (.str (PySem.Txt.join ⟨#[10]⟩ (rowsH p d h s ds ps qs)))= .ok (.bl true):=by rw [isiR_str _ (by simp [tyD])];rfl
 clear an0 al an ag xg kg mg dg wg wn inj gd ql pl qg pg ru hws esL e5
 generalize PySem.Txt.join ⟨#[10]⟩ (rowsH p d h s ds ps qs)=tt at*
 generalize HsD (.tup [.int p, .int d, .int h, .int s]) (.lst (ds.map D.str)) (.lst (ps.map prD)) (.lst (qs.map prD))=HH at*
 generalize HsD (.tup [.int 1, .int 2, .int 1, .int 1]) (.lst [.str "a"]) (.lst []) (.lst [prD ("b",["a"])])=OH at*
 generalize D.tup [.int p, .int d, .int h, .int s]=R at*
 generalize (ds++ms++xs).map D.str=AL at*
 generalize (ds++ms).map D.str=DM at*
 generalize ds.map D.str=DS at*
 generalize ms.map D.str=MS at*
 generalize ks.map D.str=KL at*
 generalize xs.map D.str=XS at*
 generalize ws.map D.str=WS at*
 generalize ps.map prD=PS at*
 generalize qs.map prD=QS at*
 generalize (ns.drop 1).map D.int=NT at*
 generalize ns.map D.int=NS at*
 have m1':modD (.int c1) (.int 18)= .ok (.int (q1:Int)):=m1
 have m2':modD (.int c2) (.int 19)= .ok (.int (q2:Int)):=m2
 have m3':modD (.int c3) (.int 19)= .ok (.int (q3:Int)):=m3
 have s2':slL (.lst WS) (some 18) (some (18+(q2:Int)))= .ok MS:=s2
 have s3':slL (.lst WS) (some 36) (some (36+(q3:Int)))= .ok KL:=s3
 have s4':slL (.lst WS) (some 54) none= .ok XS:=s4
 unfold m_law b_law
 rw [runD_eq]
 show finO (sSeq _ _ [some (.d (.lst NS)),none,none,none,none,none,none,none,none,none,none,none,none])=_
 simp only [sSeq,sSet,sIf,sRet,asD,b1,b2,b2F,b3,kD,oNone,tR,tOr2,tNot1,vAnd,lstR,aCons,aNil,consR_ok,slotD_0,slotD_s,slotP_0,slotP_s,Res.bind_ok,addD_ii,partR_i,e0,e1,e2,e3,e4,e5',m1',m2',m3',s1,s2',s3',s4',e6,k1,k2,sn,e8,e9,tx,rd,ft,ot,sh,is,nt,fo,na,boolR_bl,orB_ok,andD_bl,ifO_ok,Bool.not_true,Bool.false_eq_true,if_true,if_false,ofR_ok,seqO_nx,List.length_cons,List.length_nil,Nat.reduceAdd,Nat.reduceLeDiff,List.set_cons_zero,List.set_cons_succ,finO_rt]
end G
local macro_rules| `(tactic| walk_at "memfree")=> `(tactic| first|exact List.forall_mem_nil _|exact List.forall_mem_cons.mpr ⟨(by intro h;first|exact absurd h (by decide)|exact Or.inl rfl|exact Or.inr rfl),by walk_at "memfree"⟩)
local macro_rules| `(tactic| walk_at "memdis")=> `(tactic| first|exact List.forall_mem_nil _|exact List.forall_mem_cons.mpr ⟨by decide +kernel,by walk_at "memdis"⟩)
local macro_rules| `(tactic| walk_at "compok")=> `(tactic| exact ⟨rfl,by decide +kernel,by walk_at "memfree",rfl,by walk_at "memdis"⟩)
namespace G
open PySem PySem.Spec PyProof.Rows L2 L3
def top (i:Nat):Stmt:=PySem.Challenge.pw_wardsmith_k32_house_read.main.body.getD i (.Pass ⟨0,0,0,0⟩)
abbrev s__law_cell_at:Stmt:=top 41
abbrev s__law_lists_fit:Stmt:=top 49
abbrev s__law_fits:Stmt:=top 50
abbrev s__law_mixed:Stmt:=top 42
abbrev s__law_lists:Stmt:=top 47
abbrev s__law_name:Stmt:=top 44
abbrev s__law_open:Stmt:=top 43
abbrev s__law_names:Stmt:=top 45
abbrev s__law_rules:Stmt:=top 46
abbrev s__law_text:Stmt:=top 48
abbrev s_copied:Stmt:=top 32
abbrev s_House:Stmt:=inClass (top 31) 0
abbrev s_can_stand:Stmt:=top 37
abbrev s_depths_of:Stmt:=top 20
abbrev s_heights_of:Stmt:=top 21
abbrev s_places_of:Stmt:=top 19
abbrev s_step_of:Stmt:=top 22
abbrev s_are_bounded:Stmt:=top 24
abbrev s_is_whole:Stmt:=top 10
abbrev s_is_rules:Stmt:=top 23
abbrev s_has_only:Stmt:=top 12
abbrev s_is_written:Stmt:=top 13
abbrev s_numbers_in:Stmt:=top 14
abbrev s_read_rules:Stmt:=top 25
abbrev s_rules_in:Stmt:=top 34
abbrev s_is_name:Stmt:=top 11
abbrev s_are_unlike_names:Stmt:=top 36
abbrev s_thing_in:Stmt:=top 35
abbrev s_read_house:Stmt:=top 33
abbrev s_shown_rules:Stmt:=top 26
abbrev s_shown_thing:Stmt:=top 39
abbrev s_shown_house:Stmt:=top 38
abbrev s_law:Stmt:=top 51
structure Txt (w:World) (K:PySem.W.Frag) (mg:Str→Option Value):Prop where
 n_all:mg "all"=none
 n_any:mg "any"=none
 n_bool:mg "bool"=none
 n_enumerate:mg "enumerate"=none
 n_int:mg "int"=none
 n_isinstance:mg "isinstance"=none
 n_len:mg "len"=none
 n_list:mg "list"=none
 n_range:mg "range"=none
 n_set:mg "set"=none
 n_str:mg "str"=none
 n_tuple:mg "tuple"=none
 c_FIGURES:∃ t,mg "FIGURES"=some (.str "0123456789" t)
 c_KEPT_WORDS:GlobT K mg "KEPT_WORDS" (["door","key","opens","rules","wing"]:List Str)
 c_LATER_KINDS:GlobG (RTup K) w K mg "LATER_KINDS" [("door",(["wing","key"]:List Str)),("wing",(["key"]:List Str)),("key",([]:List Str))]
 c_LEAST_DEPTHS:∃ t,mg "LEAST_DEPTHS"=some (.int 2 t)
 c_LETTERS:∃ t,mg "LETTERS"=some (.str "abcdefghijklmnopqrstuvwxyz" t)
 c_LINKS:GlobG RTxt w K mg "LINKS" [("wing","="),("key","opens")]
 c_MOST_DEPTHS:∃ t,mg "MOST_DEPTHS"=some (.int 20 t)
 c_MOST_FIGURES:∃ t,mg "MOST_FIGURES"=some (.int 3 t)
 c_MOST_LETTERS:∃ t,mg "MOST_LETTERS"=some (.int 12 t)
 c_MOST_OF_A_KIND:∃ t,mg "MOST_OF_A_KIND"=some (.int 60 t)
 c_MOST_PLACES:∃ t,mg "MOST_PLACES"=some (.int 24 t)
 o_House_doors:FldK K "House" "doors"
 o_House_grants:FldK K "House" "grants"
 o_House_rules:FldK K "House" "rules"
 o_House_wings:FldK K "House" "wings"
section
variable {P:Program} {w:World} {K:PySem.W.Frag} {mg:Str→Option Value} {base:Heap}
theorem sc__law_cell_at:FnScope ["_law_script","_law_k"] ["_law_script","_law_k"] (defScope s__law_cell_at):=⟨rfl,rfl,rfl,by decide +kernel,rfl,by decide +kernel,by decide +kernel⟩
theorem ok__law_cell_at {f:Addr} {fd:FuncData} (F:Fun K "_law_cell_at" "_law_cell_at" s__law_cell_at f fd) (hm:mg "_law_cell_at"=some (.ref f)) (T:Txt w K mg)  :Fn P w K mg base 1 "_law_cell_at" 2 m__law_cell_at:=
 fn_def (k:=0) F sc__law_cell_at hm (F.binds (ps:= ["_law_script","_law_k"]) fun _ _ _ _ _ _=>us2 fun _ _=>rfl) fun cdv A outer s H E hr=>
  (ss_cons (s_if (y_cmp c_lt (p_var 1) (p_of (x_len T.n_len (p_var 0)))) (ss_one (s_ret (x_ix (p_var 0) (p_var 1)))) ss_nil)
  (ss_one (s_ret x_int)))
theorem sc__law_lists_fit:FnScope ["_law_found","_law_due","_law_row"] ["_law_found","_law_due"] (defScope s__law_lists_fit):=⟨rfl,rfl,rfl,by decide +kernel,rfl,by decide +kernel,by decide +kernel⟩
theorem ok__law_lists_fit {f:Addr} {fd:FuncData} (F:Fun K "_law_lists_fit" "_law_lists_fit" s__law_lists_fit f fd) (hm:mg "_law_lists_fit"=some (.ref f)) (T:Txt w K mg)  :Fn P w K mg base 1 "_law_lists_fit" 2 m__law_lists_fit:=
 fn_def (k:=0) F sc__law_lists_fit hm (F.binds (ps:= ["_law_found","_law_due"]) fun _ _ _ _ _ _=>us2 fun _ _=>rfl) fun cdv A outer s H E hr=>
  (ss_cons (s_if (y_w (w_or (y_not (y_val (x_isi isi_list (by decide +kernel) T.n_isinstance T.n_list (p_var 0)))) (w_or1 (y_cmp (c_ne (hu40 hr)) (p_var 0) (p_var 1))))) (ss_one (s_ret x_bl)) ss_nil)
  (ss_cons (s_for PassesOwn.never rfl (i_seq (x_var 0)) (g_name 2 sc__law_lists_fit.nd) (ss_one (s_if (y_w (w_or (y_not (y_val (x_isi isi_tuple (by decide +kernel) T.n_isinstance T.n_tuple (p_var 2)))) (w_or (y_not (y_val (x_isi isi_str (by decide +kernel) T.n_isinstance T.n_str (p_of (x_ix (p_var 2) (p_of x_int)))))) (w_or1 (y_not (y_val (x_isi isi_list (by decide +kernel) T.n_isinstance T.n_list (p_of (x_ix (p_var 2) (p_of x_int)))))))))) (ss_one (s_ret x_bl)) ss_nil)))
  (ss_one (s_ret x_bl))))
theorem sc__law_fits:FnScope ["_law_house","_law_rules_here","_law_doors","_law_wings","_law_grants","_law_number"] ["_law_house","_law_rules_here","_law_doors","_law_wings","_law_grants"] (defScope s__law_fits):=⟨rfl,rfl,rfl,by decide +kernel,rfl,by decide +kernel,by decide +kernel⟩
theorem ok__law_fits {f:Addr} {fd:FuncData} (F:Fun K "_law_fits" "_law_fits" s__law_fits f fd) (hm:mg "_law_fits"=some (.ref f)) (T:Txt w K mg) (F__law_lists_fit:Fn P w K mg base 1 "_law_lists_fit" 2 m__law_lists_fit):Fn P w K mg base 2 "_law_fits" 5 m__law_fits:=
 fn_def (k:=1) F sc__law_fits hm (F.binds (ps:= ["_law_house","_law_rules_here","_law_doors","_law_wings","_law_grants"]) fun _ _ _ _ _ _=>us5 fun _ _ _ _ _=>rfl) fun cdv A outer s H E hr=>
  (ss_cons (s_if (y_w (w_or (y_not (y_val (x_isi isi_tuple (by decide +kernel) T.n_isinstance T.n_tuple (p_of (x_fld T.o_House_rules (x_var 0)))))) (w_or1 (y_cmp (c_ne (hu40 hr)) (p_of (x_fld T.o_House_rules (x_var 0))) (p_var 1))))) (ss_one (s_ret x_bl)) ss_nil)
  (ss_cons (s_for PassesOwn.never rfl (i_seq (x_fld T.o_House_rules (x_var 0))) (g_name 5 sc__law_fits.nd) (ss_one (s_if (y_w (w_or (y_not (y_val (x_isi isi_int (by decide +kernel) T.n_isinstance T.n_int (p_var 5)))) (w_or1 (y_val (x_isi isi_bool (by decide +kernel) T.n_isinstance T.n_bool (p_var 5)))))) (ss_one (s_ret x_bl)) ss_nil)))
  (ss_cons (s_if (y_w (w_or (y_not (y_val (x_isi isi_list (by decide +kernel) T.n_isinstance T.n_list (p_of (x_fld T.o_House_doors (x_var 0)))))) (w_or1 (y_cmp (c_ne (hu40 hr)) (p_of (x_fld T.o_House_doors (x_var 0))) (p_var 2))))) (ss_one (s_ret x_bl)) ss_nil)
  (ss_one (s_ret (x_and (x_call (F__law_lists_fit.mono (by decide)) hr (a_cons (x_fld T.o_House_wings (x_var 0)) (a_cons (x_var 3) a_nil))) (x_one (x_call (F__law_lists_fit.mono (by decide)) hr (a_cons (x_fld T.o_House_grants (x_var 0)) (a_cons (x_var 4) a_nil))))))))))
theorem sc__law_mixed:FnScope ["_law_cell","_law_k","_law_number"] ["_law_cell","_law_k"] (defScope s__law_mixed):=⟨rfl,rfl,rfl,by decide +kernel,rfl,by decide +kernel,by decide +kernel⟩
theorem ok__law_mixed {f:Addr} {fd:FuncData} (F:Fun K "_law_mixed" "_law_mixed" s__law_mixed f fd) (hm:mg "_law_mixed"=some (.ref f)) (T:Txt w K mg)  :Fn P w K mg base 1 "_law_mixed" 2 m__law_mixed:=
 fn_def (k:=0) F sc__law_mixed hm (F.binds (ps:= ["_law_cell","_law_k"]) fun _ _ _ _ _ _=>us2 fun _ _=>rfl) fun cdv A outer s H E hr=>
  (ss_cons (s_set 2 sc__law_mixed.nd (x_mod (p_of (x_mulE (p_of (x_add (p_of (x_mod (p_var 0) (p_of x_int))) (p_of x_int))) (p_of (x_add (p_of x_int) (p_of (x_mulE (p_of x_int) (p_var 1))))))) (p_of x_int)))
  (ss_one (s_ret (x_mod (p_of (x_mulE (p_var 2) (p_var 2))) (p_of x_int)))))
theorem sc__law_lists:FnScope ["_law_names_here","_law_some","_law_script","_law_found","_law_k","_law_cell","_law_at","_law_turned"] ["_law_names_here","_law_some","_law_script"] (defScope s__law_lists):=⟨rfl,rfl,rfl,by decide +kernel,rfl,by decide +kernel,by decide +kernel⟩
theorem ok__law_lists {f:Addr} {fd:FuncData} (F:Fun K "_law_lists" "_law_lists" s__law_lists f fd) (hm:mg "_law_lists"=some (.ref f)) (T:Txt w K mg) (F__law_cell_at:Fn P w K mg base 1 "_law_cell_at" 2 m__law_cell_at) (F__law_mixed:Fn P w K mg base 1 "_law_mixed" 2 m__law_mixed):Fn P w K mg base 2 "_law_lists" 3 m__law_lists:=
 fn_def (k:=1) F sc__law_lists hm (F.binds (ps:= ["_law_names_here","_law_some","_law_script"]) fun _ _ _ _ _ _=>us3 fun _ _ _=>rfl) fun cdv A outer s H E hr=>
  (ss_cons (s_own 3 sc__law_lists.nd (f_lst a_nil))
  (ss_cons (s_for PassesOwn.never rfl (i_range1 T.n_range (a_cons (x_len T.n_len (p_var 0)) a_nil)) (g_name 4 sc__law_lists.nd) (ss_cons (s_set 5 sc__law_lists.nd (x_call (F__law_mixed.mono (by decide)) hr (a_cons (x_call (F__law_cell_at.mono (by decide)) hr (a_cons (x_var 2) (a_cons (x_add (p_of x_int) (p_of (x_mod (p_var 4) (p_of x_int)))) a_nil))) (a_cons (x_add (p_of x_int) (p_var 4)) a_nil))))
  (ss_cons (s_set 6 sc__law_lists.nd (x_mod (p_of (x_fdiv (p_var 5) (p_of x_int))) (p_of (x_len T.n_len (p_var 1)))))
  (ss_cons (s_set 7 sc__law_lists.nd (x_new (f_cat (p_of (x_new (f_slL (p_var 1) (o_some (x_var 6)) o_none))) (p_of (x_new (f_slL (p_var 1) o_none (o_some (x_var 6))))))))
  (ss_one (s_append 3 (x_tup (a_cons (x_ix (p_var 0) (p_var 4)) (a_cons (x_new (f_slL (p_var 7) o_none (o_some (x_add (p_of x_int) (p_of (x_mod (p_var 5) (p_of x_int))))))) a_nil)))))))))
  (ss_one (s_retV 3))))
theorem sc__law_name:FnScope ["_law_cell","_law_number","_law_word","_law_k"] ["_law_cell"] (defScope s__law_name):=⟨rfl,rfl,rfl,by decide +kernel,rfl,by decide +kernel,by decide +kernel⟩
theorem ok__law_name {f:Addr} {fd:FuncData} (F:Fun K "_law_name" "_law_name" s__law_name f fd) (hm:mg "_law_name"=some (.ref f)) (T:Txt w K mg)  :Fn P w K mg base 1 "_law_name" 1 m__law_name:=
 fn_def (k:=0) F sc__law_name hm (F.binds (ps:= ["_law_cell"]) fun _ _ _ _ _ _=>us1 fun _=>rfl) fun cdv A outer s H E hr=>
  (ss_cons (s_set 1 sc__law_name.nd (x_mod (p_of (x_fdiv (p_var 0) (p_of x_int))) (p_of (x_pow (p_of x_int) (p_of x_int)))))
  (ss_cons (s_set 2 sc__law_name.nd x_str)
  (ss_cons (s_for PassesOwn.never rfl (i_range1 T.n_range (a_cons (x_add (p_of x_int) (p_of (x_mod (p_var 0) (p_of x_int)))) a_nil)) (g_name 3 sc__law_name.nd) (ss_cons (s_set 2 sc__law_name.nd (x_add (p_var 2) (p_of (x_ix (p_of x_str) (p_of (x_mod (p_var 1) (p_of x_int)))))))
  (ss_one (s_set 1 sc__law_name.nd (x_fdiv (p_var 1) (p_of x_int))))))
  (ss_one (s_ret (x_var 2))))))
theorem sc__law_open:FnScope ["_law_word"] ["_law_word"] (defScope s__law_open):=⟨rfl,rfl,rfl,by decide +kernel,rfl,by decide +kernel,by decide +kernel⟩
theorem ok__law_open {f:Addr} {fd:FuncData} (F:Fun K "_law_open" "_law_open" s__law_open f fd) (hm:mg "_law_open"=some (.ref f)) (T:Txt w K mg)  :Fn P w K mg base 1 "_law_open" 1 m__law_open:=
 fn_def (k:=0) F sc__law_open hm (F.binds (ps:= ["_law_word"]) fun _ _ _ _ _ _=>us1 fun _=>rfl) fun cdv A outer s H E hr=>
  (ss_cons (s_if (y_in (p_var 0) (p_of (x_new (f_lst (a_cons x_str (a_cons x_str (a_cons x_str (a_cons x_str (a_cons x_str a_nil))))))))) (ss_one (s_ret (x_add (p_var 0) (p_of x_str)))) ss_nil)
  (ss_one (s_ret (x_var 0))))
theorem sc__law_names:FnScope ["_law_cell","_law_many","_law_word","_law_place","_law_some","_law_names_here","_law_k","_law_inner"] ["_law_cell","_law_many"] (defScope s__law_names):=⟨rfl,rfl,rfl,by decide +kernel,rfl,by decide +kernel,by decide +kernel⟩
theorem ok__law_names {f:Addr} {fd:FuncData} (F:Fun K "_law_names" "_law_names" s__law_names f fd) (hm:mg "_law_names"=some (.ref f)) (T:Txt w K mg) (F__law_name:Fn P w K mg base 1 "_law_name" 1 m__law_name) (F__law_open:Fn P w K mg base 1 "_law_open" 1 m__law_open):Fn P w K mg base 2 "_law_names" 2 m__law_names:=
 fn_def (k:=1) F sc__law_names hm (F.binds (ps:= ["_law_cell","_law_many"]) fun _ _ _ _ _ _=>us2 fun _ _=>rfl) fun cdv A outer s H E hr=>
  (ss_cons (s_set 2 sc__law_names.nd (x_call (F__law_name.mono (by decide)) hr (a_cons (x_var 0) a_nil)))
  (ss_cons (s_set 3 sc__law_names.nd (x_mod (p_of (x_fdiv (p_var 0) (p_of x_int))) (p_of (x_add (p_of (x_len T.n_len (p_var 2))) (p_of x_int)))))
  (ss_cons (s_set 4 sc__law_names.nd (x_ix (p_of (x_new (f_lst (a_cons x_str (a_cons x_str (a_cons x_str a_nil)))))) (p_of (x_mod (p_of (x_fdiv (p_var 0) (p_of x_int))) (p_of x_int)))))
  (ss_cons (s_own 5 sc__law_names.nd (f_lst a_nil))
  (ss_cons (s_for PassesOwn.never rfl (i_range1 T.n_range (a_cons (x_var 1) a_nil)) (g_name 6 sc__law_names.nd) (ss_cons (s_set 7 sc__law_names.nd (x_add (p_of (x_ix (p_var 4) (p_of (x_mod (p_var 6) (p_of x_int))))) (p_of (x_ix (p_var 4) (p_of (x_mod (p_of (x_fdiv (p_var 6) (p_of x_int))) (p_of x_int)))))))
  (ss_one (s_append 5 (x_call (F__law_open.mono (by decide)) hr (a_cons (x_add (p_of (x_add (p_of (x_slS (p_var 2) o_none (o_some (x_var 3)))) (p_var 7))) (p_of (x_slS (p_var 2) (o_some (x_var 3)) o_none))) a_nil))))))
  (ss_one (s_retV 5)))))))
theorem sc__law_rules:FnScope ["_law_cell","_law_depths","_law_step"] ["_law_cell"] (defScope s__law_rules):=⟨rfl,rfl,rfl,by decide +kernel,rfl,by decide +kernel,by decide +kernel⟩
theorem ok__law_rules {f:Addr} {fd:FuncData} (F:Fun K "_law_rules" "_law_rules" s__law_rules f fd) (hm:mg "_law_rules"=some (.ref f)) (T:Txt w K mg) (F__law_mixed:Fn P w K mg base 1 "_law_mixed" 2 m__law_mixed):Fn P w K mg base 2 "_law_rules" 1 m__law_rules:=
 fn_def (k:=1) F sc__law_rules hm (F.binds (ps:= ["_law_cell"]) fun _ _ _ _ _ _=>us1 fun _=>rfl) fun cdv A outer s H E hr=>
  (ss_cons (s_set 1 sc__law_rules.nd (x_add (p_of x_int) (p_of (x_mod (p_of (x_call (F__law_mixed.mono (by decide)) hr (a_cons (x_var 0) (a_cons x_int a_nil)))) (p_of x_int)))))
  (ss_cons (s_set 2 sc__law_rules.nd (x_add (p_of x_int) (p_of (x_mod (p_of (x_call (F__law_mixed.mono (by decide)) hr (a_cons (x_var 0) (a_cons x_int a_nil)))) (p_of (x_sub (p_var 1) (p_of x_int)))))))
  (ss_one (s_ret (x_tup (a_cons (x_add (p_of x_int) (p_of (x_mod (p_var 0) (p_of x_int)))) (a_cons (x_var 1) (a_cons (x_add (p_of x_int) (p_of (x_mod (p_of (x_call (F__law_mixed.mono (by decide)) hr (a_cons (x_var 0) (a_cons x_int a_nil)))) (p_var 1)))) (a_cons (x_var 2) a_nil)))))))))
theorem sc__law_text:FnScope ["_law_rules_here","_law_doors","_law_wings","_law_grants","_law_rows","_law_name_here","_law_members","_law_things"] ["_law_rules_here","_law_doors","_law_wings","_law_grants"] (defScope s__law_text):=⟨rfl,rfl,rfl,by decide +kernel,rfl,by decide +kernel,by decide +kernel⟩
theorem ok__law_text {f:Addr} {fd:FuncData} (F:Fun K "_law_text" "_law_text" s__law_text f fd) (hm:mg "_law_text"=some (.ref f)) (T:Txt w K mg)  :Fn P w K mg base 1 "_law_text" 4 m__law_text:=
 fn_def (k:=0) F sc__law_text hm (F.binds (ps:= ["_law_rules_here","_law_doors","_law_wings","_law_grants"]) fun _ _ _ _ _ _=>us4 fun _ _ _ _=>rfl) fun cdv A outer s H E hr=>
  (ss_cons (s_own 4 sc__law_text.nd (f_cat (p_of (x_new (f_lst (a_cons (x_add (p_of x_str) (p_of (x_join x_str (a_cons (x_new (f_comp ["_law_number"] ["_law_rules_here","_law_doors","_law_wings","_law_grants","_law_rows","_law_name_here","_law_members","_law_things"] (by walk_at "compok") rfl (i_seq (x_var 0)) (fun C fp pins s H=>⟨(g_name 0 (show List.Nodup (["_law_number","_law_rules_here","_law_doors","_law_wings","_law_grants","_law_rows","_law_name_here","_law_members","_law_things"]:List Str) by decide +kernel)),t_nil,(x_strof hr T.n_str (p_var 0))⟩))) a_nil)))) a_nil)))) (p_of (x_new (f_comp ["_law_name_here"] ["_law_rules_here","_law_doors","_law_wings","_law_grants","_law_rows","?","_law_members","_law_things"] (by walk_at "compok") rfl (i_seq (x_var 1)) (fun C fp pins s H=>⟨(g_name 0 (show List.Nodup (["_law_name_here","_law_rules_here","_law_doors","_law_wings","_law_grants","_law_rows","?","_law_members","_law_things"]:List Str) by decide +kernel)),t_nil,(x_add (p_of x_str) (p_var 0))⟩))))))
  (ss_cons (s_for PassesOwn.never rfl (i_seq (x_var 2)) (g_tup rfl (g_cons (g_name 5 sc__law_text.nd) (g_cons (g_name 6 sc__law_text.nd) g_nil))) (ss_one (s_append 4 (x_add (p_of (x_add (p_of (x_add (p_of x_str) (p_var 5))) (p_of x_str))) (p_of (x_join x_str (a_cons (x_var 6) a_nil)))))))
  (ss_cons (s_for PassesOwn.never rfl (i_seq (x_var 3)) (g_tup rfl (g_cons (g_name 5 sc__law_text.nd) (g_cons (g_name 7 sc__law_text.nd) g_nil))) (ss_one (s_append 4 (x_add (p_of (x_add (p_of (x_add (p_of x_str) (p_var 5))) (p_of x_str))) (p_of (x_join x_str (a_cons (x_var 7) a_nil)))))))
  (ss_one (s_frzL 4 (s_ret (x_join x_str (a_cons (x_var 4) a_nil))))))))
theorem sc_copied:FnScope ["things"] ["things"] (defScope s_copied):=⟨rfl,rfl,rfl,by decide +kernel,rfl,by decide +kernel,by decide +kernel⟩
theorem ok_copied {f:Addr} {fd:FuncData} (F:Fun K "copied" "copied" s_copied f fd) (hm:mg "copied"=some (.ref f)) (T:Txt w K mg)  :Fn P w K mg base 1 "copied" 1 m_copied:=
 fn_def (k:=0) F sc_copied hm (F.binds (ps:= ["things"]) fun _ _ _ _ _ _=>us1 fun _=>rfl) fun cdv A outer s H E hr=>
  (ss_one (s_ret (x_new (f_comp ["name","names"] ["things"] (by walk_at "compok") rfl (i_seq (x_var 0)) (fun C fp pins s H=>⟨(g_tup rfl (g_cons (g_name 0 (show List.Nodup (["name","names","things"]:List Str) by decide +kernel)) (g_cons (g_name 1 (show List.Nodup (["name","names","things"]:List Str) by decide +kernel)) g_nil))),t_nil,(x_tup (a_cons (x_var 0) (a_cons (x_new (f_listof T.n_list (p_var 1))) a_nil)))⟩)))))
theorem sc_House:FnScope ["self","rules","doors","wings","grants"] ["self","rules","doors","wings","grants"] (defScope s_House):=⟨rfl,rfl,rfl,by decide +kernel,rfl,by decide +kernel,by decide +kernel⟩
theorem ok_House {f C:Addr} {fd:FuncData} (F:Fun K "__init__" "House.__init__" s_House f fd) (M:Mk K C f) (hm:mg "House"=some (.ref C)) (hc:PySem.W.nsIn K mainGlobals "House"=some (some (.ref C))) (cl:Cls K C) (na_rules:NoAttr K C "rules") (na_doors:NoAttr K C "doors") (na_wings:NoAttr K C "wings") (na_grants:NoAttr K C "grants") (T:Txt w K mg) (F_copied:Fn P w K mg base 1 "copied" 1 m_copied):FnI P w K mg base 3 "House" 4 4 fs_House:=
 fn_init (k:=1) F sc_House M hm hc (F.binds (ps:= ["self","rules","doors","wings","grants"]) fun _ _ _ _ _ _=>us5 fun _ _ _ _ _=>rfl) fun cdv A outer s H E hr=>
  (in_cons cl na_rules (x_var 1)
  (in_cons cl na_doors (x_new (f_listof T.n_list (p_var 2)))
  (in_cons cl na_wings (x_call (F_copied.mono (by decide)) hr (a_cons (x_var 3) a_nil))
  (in_cons cl na_grants (x_call (F_copied.mono (by decide)) hr (a_cons (x_var 4) a_nil))
  in_nil))))
theorem sc_can_stand:FnScope ["things","kind"] ["things","kind"] (defScope s_can_stand):=⟨rfl,rfl,rfl,by decide +kernel,rfl,by decide +kernel,by decide +kernel⟩
theorem ok_can_stand {f:Addr} {fd:FuncData} (F:Fun K "can_stand" "can_stand" s_can_stand f fd) (hm:mg "can_stand"=some (.ref f)) (T:Txt w K mg)  :Fn P w K mg base 1 "can_stand" 2 m_can_stand:=
 fn_def (k:=0) F sc_can_stand hm (F.binds (ps:= ["things","kind"]) fun _ _ _ _ _ _=>us2 fun _ _=>rfl) fun cdv A outer s H E hr=>
  (ss_cons (s_if (y_w (w_or (y_cmp c_ge (p_of (x_len T.n_len (p_of (x_dget (q_var 0) (p_var 1))))) (p_of (x_globI T.c_MOST_OF_A_KIND))) (w_or1 (y_val (x_any rfl T.n_any (p_of (x_new (f_comp ["later"] ["things","kind"] (by walk_at "compok") rfl (i_seq (x_ggetT T.c_LATER_KINDS (p_var 1))) (fun C fp pins s H=>⟨(g_name 0 (show List.Nodup (["later","things","kind"]:List Str) by decide +kernel)),t_nil,(x_cmp c_gt (p_of (x_len T.n_len (p_of (x_dget (q_var 1) (p_var 0))))) (p_of x_int))⟩))))))))) (ss_one (s_ret x_bl)) ss_nil)
  (ss_one (s_ret (x_or (x_cmp (c_eq (hu40 hr)) (p_var 1) (p_of x_str)) (x_one (x_cmp c_gt (p_of (x_len T.n_len (p_of (x_dget (q_var 0) (p_of x_str))))) (p_of x_int)))))))
theorem sc_depths_of:FnScope ["rules"] ["rules"] (defScope s_depths_of):=⟨rfl,rfl,rfl,by decide +kernel,rfl,by decide +kernel,by decide +kernel⟩
theorem ok_depths_of {f:Addr} {fd:FuncData} (F:Fun K "depths_of" "depths_of" s_depths_of f fd) (hm:mg "depths_of"=some (.ref f)) (T:Txt w K mg)  :Fn P w K mg base 1 "depths_of" 1 m_depths_of:=
 fn_def (k:=0) F sc_depths_of hm (F.binds (ps:= ["rules"]) fun _ _ _ _ _ _=>us1 fun _=>rfl) fun cdv A outer s H E hr=>
  (ss_one (s_ret (x_ix (p_var 0) (p_of x_int))))
theorem sc_heights_of:FnScope ["rules"] ["rules"] (defScope s_heights_of):=⟨rfl,rfl,rfl,by decide +kernel,rfl,by decide +kernel,by decide +kernel⟩
theorem ok_heights_of {f:Addr} {fd:FuncData} (F:Fun K "heights_of" "heights_of" s_heights_of f fd) (hm:mg "heights_of"=some (.ref f)) (T:Txt w K mg)  :Fn P w K mg base 1 "heights_of" 1 m_heights_of:=
 fn_def (k:=0) F sc_heights_of hm (F.binds (ps:= ["rules"]) fun _ _ _ _ _ _=>us1 fun _=>rfl) fun cdv A outer s H E hr=>
  (ss_one (s_ret (x_ix (p_var 0) (p_of x_int))))
theorem sc_places_of:FnScope ["rules"] ["rules"] (defScope s_places_of):=⟨rfl,rfl,rfl,by decide +kernel,rfl,by decide +kernel,by decide +kernel⟩
theorem ok_places_of {f:Addr} {fd:FuncData} (F:Fun K "places_of" "places_of" s_places_of f fd) (hm:mg "places_of"=some (.ref f)) (T:Txt w K mg)  :Fn P w K mg base 1 "places_of" 1 m_places_of:=
 fn_def (k:=0) F sc_places_of hm (F.binds (ps:= ["rules"]) fun _ _ _ _ _ _=>us1 fun _=>rfl) fun cdv A outer s H E hr=>
  (ss_one (s_ret (x_ix (p_var 0) (p_of x_int))))
theorem sc_step_of:FnScope ["rules"] ["rules"] (defScope s_step_of):=⟨rfl,rfl,rfl,by decide +kernel,rfl,by decide +kernel,by decide +kernel⟩
theorem ok_step_of {f:Addr} {fd:FuncData} (F:Fun K "step_of" "step_of" s_step_of f fd) (hm:mg "step_of"=some (.ref f)) (T:Txt w K mg)  :Fn P w K mg base 1 "step_of" 1 m_step_of:=
 fn_def (k:=0) F sc_step_of hm (F.binds (ps:= ["rules"]) fun _ _ _ _ _ _=>us1 fun _=>rfl) fun cdv A outer s H E hr=>
  (ss_one (s_ret (x_ix (p_var 0) (p_of x_int))))
theorem sc_are_bounded:FnScope ["rules","depths"] ["rules"] (defScope s_are_bounded):=⟨rfl,rfl,rfl,by decide +kernel,rfl,by decide +kernel,by decide +kernel⟩
theorem ok_are_bounded {f:Addr} {fd:FuncData} (F:Fun K "are_bounded" "are_bounded" s_are_bounded f fd) (hm:mg "are_bounded"=some (.ref f)) (T:Txt w K mg) (F_depths_of:Fn P w K mg base 1 "depths_of" 1 m_depths_of) (F_heights_of:Fn P w K mg base 1 "heights_of" 1 m_heights_of) (F_places_of:Fn P w K mg base 1 "places_of" 1 m_places_of) (F_step_of:Fn P w K mg base 1 "step_of" 1 m_step_of):Fn P w K mg base 2 "are_bounded" 1 m_are_bounded:=
 fn_def (k:=1) F sc_are_bounded hm (F.binds (ps:= ["rules"]) fun _ _ _ _ _ _=>us1 fun _=>rfl) fun cdv A outer s H E hr=>
  (ss_cons (s_set 1 sc_are_bounded.nd (x_call (F_depths_of.mono (by decide)) hr (a_cons (x_var 0) a_nil)))
  (ss_cons (s_if (y_w (w_or (y_not (y_chain c_le c_le (p_of x_int) (p_of (x_call (F_places_of.mono (by decide)) hr (a_cons (x_var 0) a_nil))) (p_of (x_globI T.c_MOST_PLACES)))) (w_or1 (y_not (y_chain c_le c_le (p_of (x_globI T.c_LEAST_DEPTHS)) (p_var 1) (p_of (x_globI T.c_MOST_DEPTHS))))))) (ss_one (s_ret x_bl)) ss_nil)
  (ss_one (s_ret (x_and (x_chain c_le c_le (p_of x_int) (p_of (x_call (F_heights_of.mono (by decide)) hr (a_cons (x_var 0) a_nil))) (p_var 1)) (x_one (x_chain c_le c_le (p_of x_int) (p_of (x_call (F_step_of.mono (by decide)) hr (a_cons (x_var 0) a_nil))) (p_of (x_sub (p_var 1) (p_of x_int))))))))))
theorem sc_is_whole:FnScope ["thing"] ["thing"] (defScope s_is_whole):=⟨rfl,rfl,rfl,by decide +kernel,rfl,by decide +kernel,by decide +kernel⟩
theorem ok_is_whole {f:Addr} {fd:FuncData} (F:Fun K "is_whole" "is_whole" s_is_whole f fd) (hm:mg "is_whole"=some (.ref f)) (T:Txt w K mg)  :Fn P w K mg base 1 "is_whole" 1 m_is_whole:=
 fn_def (k:=0) F sc_is_whole hm (F.binds (ps:= ["thing"]) fun _ _ _ _ _ _=>us1 fun _=>rfl) fun cdv A outer s H E hr=>
  (ss_one (s_ret (x_and (x_isi isi_int (by decide +kernel) T.n_isinstance T.n_int (p_var 0)) (x_one (x_not (x_isi isi_bool (by decide +kernel) T.n_isinstance T.n_bool (p_var 0)))))))
theorem sc_is_rules:FnScope ["thing"] ["thing"] (defScope s_is_rules):=⟨rfl,rfl,rfl,by decide +kernel,rfl,by decide +kernel,by decide +kernel⟩
theorem ok_is_rules {f:Addr} {fd:FuncData} (F:Fun K "is_rules" "is_rules" s_is_rules f fd) (hm:mg "is_rules"=some (.ref f)) (T:Txt w K mg) (F_are_bounded:Fn P w K mg base 2 "are_bounded" 1 m_are_bounded) (F_is_whole:Fn P w K mg base 1 "is_whole" 1 m_is_whole):Fn P w K mg base 3 "is_rules" 1 m_is_rules:=
 fn_def (k:=2) F sc_is_rules hm (F.binds (ps:= ["thing"]) fun _ _ _ _ _ _=>us1 fun _=>rfl) fun cdv A outer s H E hr=>
  (ss_cons (s_if (y_w (w_or (y_not (y_val (x_isi isi_tuple (by decide +kernel) T.n_isinstance T.n_tuple (p_var 0)))) (w_or1 (y_cmp (c_ne (hu40 hr)) (p_of (x_len T.n_len (p_var 0))) (p_of x_int))))) (ss_one (s_ret x_bl)) ss_nil)
  (ss_one (s_ret (x_and (x_all rfl T.n_all (p_of (x_new (f_comp ["number"] ["thing"] (by walk_at "compok") rfl (i_seq (x_var 0)) (fun C fp pins s H=>⟨(g_name 0 (show List.Nodup (["number","thing"]:List Str) by decide +kernel)),t_nil,(x_call (F_is_whole.mono (by decide)) hr (a_cons (x_var 0) a_nil))⟩))))) (x_one (x_call (F_are_bounded.mono (by decide)) hr (a_cons (x_var 0) a_nil)))))))
theorem sc_has_only:FnScope ["text","signs"] ["text","signs"] (defScope s_has_only):=⟨rfl,rfl,rfl,by decide +kernel,rfl,by decide +kernel,by decide +kernel⟩
theorem ok_has_only {f:Addr} {fd:FuncData} (F:Fun K "has_only" "has_only" s_has_only f fd) (hm:mg "has_only"=some (.ref f)) (T:Txt w K mg)  :Fn P w K mg base 1 "has_only" 2 m_has_only:=
 fn_def (k:=0) F sc_has_only hm (F.binds (ps:= ["text","signs"]) fun _ _ _ _ _ _=>us2 fun _ _=>rfl) fun cdv A outer s H E hr=>
  (ss_one (s_ret (x_all rfl T.n_all (p_of (x_new (f_comp ["sign"] ["text","signs"] (by walk_at "compok") rfl (i_str (x_var 0)) (fun C fp pins s H=>⟨(g_name 0 (show List.Nodup (["sign","text","signs"]:List Str) by decide +kernel)),t_nil,(x_in (p_var 0) (p_var 2))⟩)))))))
theorem sc_is_written:FnScope ["text","most"] ["text","most"] (defScope s_is_written):=⟨rfl,rfl,rfl,by decide +kernel,rfl,by decide +kernel,by decide +kernel⟩
theorem ok_is_written {f:Addr} {fd:FuncData} (F:Fun K "is_written" "is_written" s_is_written f fd) (hm:mg "is_written"=some (.ref f)) (T:Txt w K mg) (F_has_only:Fn P w K mg base 1 "has_only" 2 m_has_only):Fn P w K mg base 2 "is_written" 2 m_is_written:=
 fn_def (k:=1) F sc_is_written hm (F.binds (ps:= ["text","most"]) fun _ _ _ _ _ _=>us2 fun _ _=>rfl) fun cdv A outer s H E hr=>
  (ss_cons (s_if (y_w (w_or (y_not (y_chain c_le c_le (p_of x_int) (p_of (x_len T.n_len (p_var 0))) (p_var 1))) (w_or1 (y_not (y_val (x_call (F_has_only.mono (by decide)) hr (a_cons (x_var 0) (a_cons (x_globS T.c_FIGURES) a_nil)))))))) (ss_one (s_ret x_bl)) ss_nil)
  (ss_one (s_ret (x_or (x_cmp (c_eq (hu40 hr)) (p_var 0) (p_of x_str)) (x_one (x_cmp (c_ne (hu40 hr)) (p_of (x_ix (p_var 0) (p_of x_int))) (p_of x_str)))))))
theorem sc_numbers_in:FnScope ["thing","mark","parts"] ["thing","mark"] (defScope s_numbers_in):=⟨rfl,rfl,rfl,by decide +kernel,rfl,by decide +kernel,by decide +kernel⟩
theorem ok_numbers_in {f:Addr} {fd:FuncData} (F:Fun K "numbers_in" "numbers_in" s_numbers_in f fd) (hm:mg "numbers_in"=some (.ref f)) (T:Txt w K mg) (F_is_written:Fn P w K mg base 2 "is_written" 2 m_is_written):Fn P w K mg base 3 "numbers_in" 2 m_numbers_in:=
 fn_def (k:=2) F sc_numbers_in hm (F.binds (ps:= ["thing","mark"]) fun _ _ _ _ _ _=>us2 fun _ _=>rfl) fun cdv A outer s H E hr=>
  (ss_cons (s_if (y_not (y_val (x_isi isi_str (by decide +kernel) T.n_isinstance T.n_str (p_var 0)))) (ss_one (s_ret x_non)) ss_nil)
  (ss_cons (s_set 2 sc_numbers_in.nd (x_new (f_split (x_var 0) (a_cons (x_var 1) a_nil))))
  (ss_cons (s_if (y_not (y_val (x_all rfl T.n_all (p_of (x_new (f_comp ["part"] ["thing","mark","parts"] (by walk_at "compok") rfl (i_seq (x_var 2)) (fun C fp pins s H=>⟨(g_name 0 (show List.Nodup (["part","thing","mark","parts"]:List Str) by decide +kernel)),t_nil,(x_call (F_is_written.mono (by decide)) hr (a_cons (x_var 0) (a_cons (x_globI T.c_MOST_FIGURES) a_nil)))⟩))))))) (ss_one (s_ret x_non)) ss_nil)
  (ss_one (s_ret (x_tuple T.n_tuple (p_of (x_new (f_comp ["part"] ["thing","mark","parts"] (by walk_at "compok") rfl (i_seq (x_var 2)) (fun C fp pins s H=>⟨(g_name 0 (show List.Nodup (["part","thing","mark","parts"]:List Str) by decide +kernel)),t_nil,(x_intS T.n_int (p_var 0))⟩))))))))))
theorem sc_read_rules:FnScope ["text","rules"] ["text"] (defScope s_read_rules):=⟨rfl,rfl,rfl,by decide +kernel,rfl,by decide +kernel,by decide +kernel⟩
theorem ok_read_rules {f:Addr} {fd:FuncData} (F:Fun K "read_rules" "read_rules" s_read_rules f fd) (hm:mg "read_rules"=some (.ref f)) (T:Txt w K mg) (F_is_rules:Fn P w K mg base 3 "is_rules" 1 m_is_rules) (F_numbers_in:Fn P w K mg base 3 "numbers_in" 2 m_numbers_in):Fn P w K mg base 4 "read_rules" 1 m_read_rules:=
 fn_def (k:=3) F sc_read_rules hm (F.binds (ps:= ["text"]) fun _ _ _ _ _ _=>us1 fun _=>rfl) fun cdv A outer s H E hr=>
  (ss_cons (s_set 1 sc_read_rules.nd (x_call (F_numbers_in.mono (by decide)) hr (a_cons (x_var 0) (a_cons x_str a_nil))))
  (ss_cons (s_if (y_not (y_val (x_call (F_is_rules.mono (by decide)) hr (a_cons (x_var 1) a_nil)))) (ss_one s_no) ss_nil)
  (ss_one (s_ret (x_var 1)))))
theorem sc_rules_in:FnScope ["row"] ["row"] (defScope s_rules_in):=⟨rfl,rfl,rfl,by decide +kernel,rfl,by decide +kernel,by decide +kernel⟩
theorem ok_rules_in {f:Addr} {fd:FuncData} (F:Fun K "rules_in" "rules_in" s_rules_in f fd) (hm:mg "rules_in"=some (.ref f)) (T:Txt w K mg) (F_read_rules:Fn P w K mg base 4 "read_rules" 1 m_read_rules):Fn P w K mg base 5 "rules_in" 1 m_rules_in:=
 fn_def (k:=4) F sc_rules_in hm (F.binds (ps:= ["row"]) fun _ _ _ _ _ _=>us1 fun _=>rfl) fun cdv A outer s H E hr=>
  (ss_cons (s_if (y_not (y_val (x_starts (x_var 0) (a_cons x_str a_nil)))) (ss_one s_no) ss_nil)
  (ss_one (s_try0 [] (F_read_rules.toX.mono (by decide)) (List.forall_mem_nil _) hr (a_cons (x_slS (p_var 0) (o_some (x_len T.n_len (p_of x_str))) o_none) a_nil) kd_ret ss_nil (fun _=>(ss_one s_no)))))
theorem sc_is_name:FnScope ["thing"] ["thing"] (defScope s_is_name):=⟨rfl,rfl,rfl,by decide +kernel,rfl,by decide +kernel,by decide +kernel⟩
theorem ok_is_name {f:Addr} {fd:FuncData} (F:Fun K "is_name" "is_name" s_is_name f fd) (hm:mg "is_name"=some (.ref f)) (T:Txt w K mg) (F_has_only:Fn P w K mg base 1 "has_only" 2 m_has_only):Fn P w K mg base 2 "is_name" 1 m_is_name:=
 fn_def (k:=1) F sc_is_name hm (F.binds (ps:= ["thing"]) fun _ _ _ _ _ _=>us1 fun _=>rfl) fun cdv A outer s H E hr=>
  (ss_cons (s_if (y_w (w_or (y_not (y_val (x_isi isi_str (by decide +kernel) T.n_isinstance T.n_str (p_var 0)))) (w_or1 (y_in (p_var 0) (p_of (x_globT T.c_KEPT_WORDS)))))) (ss_one (s_ret x_bl)) ss_nil)
  (ss_one (s_ret (x_and (x_chain c_le c_le (p_of x_int) (p_of (x_len T.n_len (p_var 0))) (p_of (x_globI T.c_MOST_LETTERS))) (x_one (x_call (F_has_only.mono (by decide)) hr (a_cons (x_var 0) (a_cons (x_globS T.c_LETTERS) a_nil))))))))
theorem sc_are_unlike_names:FnScope ["words"] ["words"] (defScope s_are_unlike_names):=⟨rfl,rfl,rfl,by decide +kernel,rfl,by decide +kernel,by decide +kernel⟩
theorem ok_are_unlike_names {f:Addr} {fd:FuncData} (F:Fun K "are_unlike_names" "are_unlike_names" s_are_unlike_names f fd) (hm:mg "are_unlike_names"=some (.ref f)) (T:Txt w K mg) (F_is_name:Fn P w K mg base 2 "is_name" 1 m_is_name):Fn P w K mg base 3 "are_unlike_names" 1 m_are_unlike_names:=
 fn_def (k:=2) F sc_are_unlike_names hm (F.binds (ps:= ["words"]) fun _ _ _ _ _ _=>us1 fun _=>rfl) fun cdv A outer s H E hr=>
  (ss_one (s_ret (x_and (x_all rfl T.n_all (p_of (x_new (f_comp ["word"] ["words"] (by walk_at "compok") rfl (i_seq (x_var 0)) (fun C fp pins s H=>⟨(g_name 0 (show List.Nodup (["word","words"]:List Str) by decide +kernel)),t_nil,(x_call (F_is_name.mono (by decide)) hr (a_cons (x_var 0) a_nil))⟩))))) (x_one (x_cmp (c_eq (hu40 hr)) (p_of (x_lensetT rfl T.n_len T.n_set (p_var 0))) (p_of (x_len T.n_len (p_var 0))))))))
theorem sc_thing_in:FnScope ["words"] ["words"] (defScope s_thing_in):=⟨rfl,rfl,rfl,by decide +kernel,rfl,by decide +kernel,by decide +kernel⟩
theorem ok_thing_in {f:Addr} {fd:FuncData} (F:Fun K "thing_in" "thing_in" s_thing_in f fd) (hm:mg "thing_in"=some (.ref f)) (T:Txt w K mg) (F_are_unlike_names:Fn P w K mg base 3 "are_unlike_names" 1 m_are_unlike_names) (F_is_name:Fn P w K mg base 2 "is_name" 1 m_is_name):Fn P w K mg base 4 "thing_in" 1 m_thing_in:=
 fn_def (k:=3) F sc_thing_in hm (F.binds (ps:= ["words"]) fun _ _ _ _ _ _=>us1 fun _=>rfl) fun cdv A outer s H E hr=>
  (ss_cons (s_if (y_cmp (c_eq (hu40 hr)) (p_of (x_ix (p_var 0) (p_of x_int))) (p_of x_str)) (ss_one (s_ret (x_if (y_w (w_and (y_cmp (c_eq (hu40 hr)) (p_of (x_len T.n_len (p_var 0))) (p_of x_int)) (w_and1 (y_val (x_call (F_is_name.mono (by decide)) hr (a_cons (x_ix (p_var 0) (p_of x_int)) a_nil)))))) (x_ix (p_var 0) (p_of x_int)) x_non))) ss_nil)
  (ss_cons (s_if (y_w (w_or (y_ninG T.c_LINKS (p_of (x_ix (p_var 0) (p_of x_int)))) (w_or (y_cmp c_lt (p_of (x_len T.n_len (p_var 0))) (p_of x_int)) (w_or1 (y_cmp (c_ne (hu40 hr)) (p_of (x_ix (p_var 0) (p_of x_int))) (p_of (x_ggetS T.c_LINKS (p_of (x_ix (p_var 0) (p_of x_int)))))))))) (ss_one (s_ret x_non)) ss_nil)
  (ss_cons (s_if (y_w (w_or (y_not (y_val (x_call (F_is_name.mono (by decide)) hr (a_cons (x_ix (p_var 0) (p_of x_int)) a_nil)))) (w_or1 (y_not (y_val (x_call (F_are_unlike_names.mono (by decide)) hr (a_cons (x_new (f_slL (p_var 0) (o_some x_int) o_none)) a_nil))))))) (ss_one (s_ret x_non)) ss_nil)
  (ss_one (s_ret (x_tup (a_cons (x_ix (p_var 0) (p_of x_int)) (a_cons (x_new (f_slL (p_var 0) (o_some x_int) o_none)) a_nil))))))))
theorem sc_read_house:FnScope ["text","rows","rules","things","place","row","words","thing"] ["text"] (defScope s_read_house):=⟨rfl,rfl,rfl,by decide +kernel,rfl,by decide +kernel,by decide +kernel⟩
theorem ok_read_house {f:Addr} {fd:FuncData} (F:Fun K "read_house" "read_house" s_read_house f fd) (hm:mg "read_house"=some (.ref f)) (T:Txt w K mg) (F_House:FnI P w K mg base 3 "House" 4 4 fs_House) (F_can_stand:Fn P w K mg base 1 "can_stand" 2 m_can_stand) (F_rules_in:Fn P w K mg base 5 "rules_in" 1 m_rules_in) (F_thing_in:Fn P w K mg base 4 "thing_in" 1 m_thing_in):Fn P w K mg base 6 "read_house" 1 m_read_house:=
 fn_def (k:=5) F sc_read_house hm (F.binds (ps:= ["text"]) fun _ _ _ _ _ _=>us1 fun _=>rfl) fun cdv A outer s H E hr=>
  (ss_cons (s_if (y_not (y_val (x_isi isi_str (by decide +kernel) T.n_isinstance T.n_str (p_var 0)))) (ss_one s_no) ss_nil)
  (ss_cons (s_set 1 sc_read_house.nd (x_new (f_splitB (x_var 0) (a_cons x_str a_nil))))
  (ss_cons (s_set 2 sc_read_house.nd (x_call (F_rules_in.mono (by decide)) hr (a_cons (x_ix (p_var 1) (p_of x_int)) a_nil)))
  (ss_cons (s_dl3 3 x_str x_str x_str sc_read_house.nd)
  (ss_cons (s_for PassesOwn.never rfl (i_enumS T.n_enumerate (a_cons (x_new (f_slL (p_var 1) (o_some x_int) o_none)) a_nil)) (g_tup rfl (g_cons (g_name 4 sc_read_house.nd) (g_cons (g_name 5 sc_read_house.nd) g_nil))) (ss_cons (s_set 6 sc_read_house.nd (x_new (f_splitB (x_var 5) (a_cons x_str a_nil))))
  (ss_cons (s_set 7 sc_read_house.nd (x_call (F_thing_in.mono (by decide)) hr (a_cons (x_var 6) a_nil)))
  (ss_cons (s_if (y_w (w_or (y_isN (p_var 7)) (w_or1 (y_not (y_val (x_view 3 (x_call (F_can_stand.mono (by decide)) hr (a_cons (x_var 3) (a_cons (x_ix (p_var 6) (p_of x_int)) a_nil))))))))) (ss_one s_no) ss_nil)
  (ss_one (s_appK 3 (x_ix (p_var 6) (p_of x_int)) (x_var 7)))))))
  (ss_cons (s_frzK 3 (s_if (y_cmp (c_eq (hu40 hr)) (p_of (x_len T.n_len (p_of (x_dget (q_var 3) (p_of x_str))))) (p_of x_int)) (ss_one s_no) ss_nil))
  (ss_one (s_ret (x_make (F_House.mono (by decide)) hr (a_cons (x_var 2) (a_cons (x_dget (q_var 3) (p_of x_str)) (a_cons (x_dget (q_var 3) (p_of x_str)) (a_cons (x_dget (q_var 3) (p_of x_str)) a_nil)))))))))))))
theorem sc_shown_rules:FnScope ["rules"] ["rules"] (defScope s_shown_rules):=⟨rfl,rfl,rfl,by decide +kernel,rfl,by decide +kernel,by decide +kernel⟩
theorem ok_shown_rules {f:Addr} {fd:FuncData} (F:Fun K "shown_rules" "shown_rules" s_shown_rules f fd) (hm:mg "shown_rules"=some (.ref f)) (T:Txt w K mg)  :Fn P w K mg base 1 "shown_rules" 1 m_shown_rules:=
 fn_def (k:=0) F sc_shown_rules hm (F.binds (ps:= ["rules"]) fun _ _ _ _ _ _=>us1 fun _=>rfl) fun cdv A outer s H E hr=>
  (ss_one (s_ret (x_join x_str (a_cons (x_new (f_comp ["number"] ["rules"] (by walk_at "compok") rfl (i_seq (x_var 0)) (fun C fp pins s H=>⟨(g_name 0 (show List.Nodup (["number","rules"]:List Str) by decide +kernel)),t_nil,(x_strof hr T.n_str (p_var 0))⟩))) a_nil))))
theorem sc_shown_thing:FnScope ["kind","thing"] ["kind","thing"] (defScope s_shown_thing):=⟨rfl,rfl,rfl,by decide +kernel,rfl,by decide +kernel,by decide +kernel⟩
theorem ok_shown_thing {f:Addr} {fd:FuncData} (F:Fun K "shown_thing" "shown_thing" s_shown_thing f fd) (hm:mg "shown_thing"=some (.ref f)) (T:Txt w K mg)  :Fn P w K mg base 1 "shown_thing" 2 m_shown_thing:=
 fn_def (k:=0) F sc_shown_thing hm (F.binds (ps:= ["kind","thing"]) fun _ _ _ _ _ _=>us2 fun _ _=>rfl) fun cdv A outer s H E hr=>
  (ss_one (s_ret (x_join x_str (a_cons (x_new (f_cat (p_of (x_new (f_lst (a_cons (x_var 0) (a_cons (x_ix (p_var 1) (p_of x_int)) (a_cons (x_ggetS T.c_LINKS (p_var 0)) a_nil)))))) (p_of (x_ix (p_var 1) (p_of x_int))))) a_nil))))
theorem sc_shown_house:FnScope ["house","rows"] ["house"] (defScope s_shown_house):=⟨rfl,rfl,rfl,by decide +kernel,rfl,by decide +kernel,by decide +kernel⟩
theorem ok_shown_house {f:Addr} {fd:FuncData} (F:Fun K "shown_house" "shown_house" s_shown_house f fd) (hm:mg "shown_house"=some (.ref f)) (T:Txt w K mg) (F_shown_rules:Fn P w K mg base 1 "shown_rules" 1 m_shown_rules) (F_shown_thing:Fn P w K mg base 1 "shown_thing" 2 m_shown_thing):Fn P w K mg base 2 "shown_house" 1 m_shown_house:=
 fn_def (k:=1) F sc_shown_house hm (F.binds (ps:= ["house"]) fun _ _ _ _ _ _=>us1 fun _=>rfl) fun cdv A outer s H E hr=>
  (ss_cons (s_own 1 sc_shown_house.nd (f_lst (a_cons (x_add (p_of x_str) (p_of (x_call (F_shown_rules.mono (by decide)) hr (a_cons (x_fld T.o_House_rules (x_var 0)) a_nil)))) a_nil)))
  (ss_cons (s_ext 1 (f_comp ["door"] ["house","rows"] (by walk_at "compok") rfl (i_seq (x_fld T.o_House_doors (x_var 0))) (fun C fp pins s H=>⟨(g_name 0 (show List.Nodup (["door","house","rows"]:List Str) by decide +kernel)),t_nil,(x_add (p_of x_str) (p_var 0))⟩)))
  (ss_cons (s_ext 1 (f_comp ["wing"] ["house","rows"] (by walk_at "compok") rfl (i_seq (x_fld T.o_House_wings (x_var 0))) (fun C fp pins s H=>⟨(g_name 0 (show List.Nodup (["wing","house","rows"]:List Str) by decide +kernel)),t_nil,(x_call (F_shown_thing.mono (by decide)) hr (a_cons x_str (a_cons (x_var 0) a_nil)))⟩)))
  (ss_cons (s_ext 1 (f_comp ["grant"] ["house","rows"] (by walk_at "compok") rfl (i_seq (x_fld T.o_House_grants (x_var 0))) (fun C fp pins s H=>⟨(g_name 0 (show List.Nodup (["grant","house","rows"]:List Str) by decide +kernel)),t_nil,(x_call (F_shown_thing.mono (by decide)) hr (a_cons x_str (a_cons (x_var 0) a_nil)))⟩)))
  (ss_one (s_frzL 1 (s_ret (x_join x_str (a_cons (x_var 1) a_nil)))))))))
theorem sc_law:FnScope ["_law_script","_law_cell","_law_names_here","_law_doors","_law_more","_law_keys","_law_rules_here","_law_wings","_law_grants","_law_text_here","_law_house","_law_other","_law_told"] ["_law_script"] (defScope s_law):=⟨rfl,rfl,rfl,by decide +kernel,rfl,by decide +kernel,by decide +kernel⟩
theorem ok_law {f:Addr} {fd:FuncData} (F:Fun K "law" "law" s_law f fd) (T:Txt w K mg) (F__law_cell_at:Fn P w K mg base 1 "_law_cell_at" 2 m__law_cell_at) (F__law_fits:Fn P w K mg base 2 "_law_fits" 5 m__law_fits) (F__law_lists:Fn P w K mg base 2 "_law_lists" 3 m__law_lists) (F__law_mixed:Fn P w K mg base 1 "_law_mixed" 2 m__law_mixed) (F__law_names:Fn P w K mg base 2 "_law_names" 2 m__law_names) (F__law_rules:Fn P w K mg base 2 "_law_rules" 1 m__law_rules) (F__law_text:Fn P w K mg base 1 "_law_text" 4 m__law_text) (F_read_house:Fn P w K mg base 6 "read_house" 1 m_read_house) (F_shown_house:Fn P w K mg base 2 "shown_house" 1 m_shown_house):FnOk P w K mg base CX0 7 f fd ["_law_script"] (spD K 1 m_law):=
 fn_law (k:=6) F sc_law fun cdv A outer s H E hr=>
  (ss_cons (s_set 1 sc_law.nd (x_call (F__law_cell_at.mono (by decide)) hr (a_cons (x_var 0) (a_cons x_int a_nil))))
  (ss_cons (s_set 2 sc_law.nd (x_call (F__law_names.mono (by decide)) hr (a_cons (x_call (F__law_mixed.mono (by decide)) hr (a_cons (x_var 1) (a_cons x_int a_nil))) (a_cons x_int a_nil))))
  (ss_cons (s_set 3 sc_law.nd (x_new (f_slL (p_var 2) o_none (o_some (x_add (p_of x_int) (p_of (x_mod (p_of (x_call (F__law_cell_at.mono (by decide)) hr (a_cons (x_var 0) (a_cons x_int a_nil)))) (p_of x_int))))))))
  (ss_cons (s_set 4 sc_law.nd (x_new (f_slL (p_var 2) (o_some x_int) (o_some (x_add (p_of x_int) (p_of (x_mod (p_of (x_call (F__law_cell_at.mono (by decide)) hr (a_cons (x_var 0) (a_cons x_int a_nil)))) (p_of x_int))))))))
  (ss_cons (s_set 5 sc_law.nd (x_new (f_slL (p_var 2) (o_some x_int) (o_some (x_add (p_of x_int) (p_of (x_mod (p_of (x_call (F__law_cell_at.mono (by decide)) hr (a_cons (x_var 0) (a_cons x_int a_nil)))) (p_of x_int))))))))
  (ss_cons (s_set 6 sc_law.nd (x_call (F__law_rules.mono (by decide)) hr (a_cons (x_var 1) a_nil)))
  (ss_cons (s_set 7 sc_law.nd (x_call (F__law_lists.mono (by decide)) hr (a_cons (x_var 4) (a_cons (x_new (f_cat (p_of (x_new (f_cat (p_var 3) (p_var 4)))) (p_of (x_new (f_slL (p_var 2) (o_some x_int) o_none))))) (a_cons (x_var 0) a_nil)))))
  (ss_cons (s_set 8 sc_law.nd (x_call (F__law_lists.mono (by decide)) hr (a_cons (x_var 5) (a_cons (x_new (f_cat (p_of (x_new (f_cat (p_var 3) (p_var 4)))) (p_of (x_new (f_slL (p_var 2) (o_some x_int) o_none))))) (a_cons (x_new (f_slL (p_var 0) (o_some x_int) o_none)) a_nil)))))
  (ss_cons (s_set 9 sc_law.nd (x_call (F__law_text.mono (by decide)) hr (a_cons (x_var 6) (a_cons (x_var 3) (a_cons (x_var 7) (a_cons (x_var 8) a_nil))))))
  (ss_cons (s_set 10 sc_law.nd (x_call (F_read_house.mono (by decide)) hr (a_cons (x_var 9) a_nil)))
  (ss_cons (s_if (y_not (y_val (x_call (F__law_fits.mono (by decide)) hr (a_cons (x_var 10) (a_cons (x_var 6) (a_cons (x_var 3) (a_cons (x_var 7) (a_cons (x_var 8) a_nil)))))))) (ss_one (s_ret x_bl)) ss_nil)
  (ss_cons (s_set 11 sc_law.nd (x_call (F_read_house.mono (by decide)) hr (a_cons x_str a_nil)))
  (ss_cons (s_set 12 sc_law.nd (x_call (F_shown_house.mono (by decide)) hr (a_cons (x_var 10) a_nil)))
  (ss_cons (s_if (y_w (w_or (y_not (y_val (x_isi isi_str (by decide +kernel) T.n_isinstance T.n_str (p_var 12)))) (w_or (y_cmp (c_ne (hu40 hr)) (p_var 12) (p_var 9)) (w_or1 (y_cmp (c_ne (hu40 hr)) (p_of (x_fld T.o_House_doors (x_var 11))) (p_of (x_new (f_lst (a_cons x_str a_nil))))))))) (ss_one (s_ret x_bl)) ss_nil)
  (ss_one (s_ret (x_and (x_call (F__law_fits.mono (by decide)) hr (a_cons (x_call (F_read_house.mono (by decide)) hr (a_cons (x_var 12) a_nil)) (a_cons (x_var 6) (a_cons (x_var 3) (a_cons (x_var 7) (a_cons (x_var 8) a_nil)))))) (x_one (x_call (F__law_fits.mono (by decide)) hr (a_cons (x_var 10) (a_cons (x_var 6) (a_cons (x_var 3) (a_cons (x_var 7) (a_cons (x_var 8) a_nil))))))))))))))))))))))))
end
end G
namespace G
open PySem PySem.Spec PyProof.Rows L2 L3
theorem all_mk {l:PySem.W.OpenLaw} {w:World} {K:PySem.W.Frag} {h:Heap} {mg:Str→Option Value} {fa:Addr} (X:K.In h) (G:h.Ns mainGlobals mg) (hfa:mg "law"=some (.ref fa))
  {f0:Addr} {od0 an0:Option Addr} {sl0:Array (Option Value)} {oc0 kV0 dc0 pm0 cd0 ct0:Value} {f1:Addr} {od1 an1:Option Addr} {sl1:Array (Option Value)} {oc1 kV1 dc1 pm1 cd1 ct1:Value} {f2:Addr} {od2 an2:Option Addr} {sl2:Array (Option Value)} {oc2 kV2 dc2 pm2 cd2 ct2:Value} {f3:Addr} {od3 an3:Option Addr} {sl3:Array (Option Value)} {oc3 kV3 dc3 pm3 cd3 ct3:Value} {f4:Addr} {od4 an4:Option Addr} {sl4:Array (Option Value)} {oc4 kV4 dc4 pm4 cd4 ct4:Value} {f5:Addr} {od5 an5:Option Addr} {sl5:Array (Option Value)} {oc5 kV5 dc5 pm5 cd5 ct5:Value} {f6:Addr} {od6 an6:Option Addr} {sl6:Array (Option Value)} {oc6 kV6 dc6 pm6 cd6 ct6:Value} {f7:Addr} {od7 an7:Option Addr} {sl7:Array (Option Value)} {oc7 kV7 dc7 pm7 cd7 ct7:Value} {f8:Addr} {od8 an8:Option Addr} {sl8:Array (Option Value)} {oc8 kV8 dc8 pm8 cd8 ct8:Value} {f9:Addr} {od9 an9:Option Addr} {sl9:Array (Option Value)} {oc9 kV9 dc9 pm9 cd9 ct9:Value} {f10:Addr} {od10 an10:Option Addr} {sl10:Array (Option Value)} {oc10 kV10 dc10 pm10 cd10 ct10:Value} {f11:Addr} {od11 an11:Option Addr} {sl11:Array (Option Value)} {oc11 kV11 dc11 pm11 cd11 ct11:Value} {C11:Addr} {f12:Addr} {od12 an12:Option Addr} {sl12:Array (Option Value)} {oc12 kV12 dc12 pm12 cd12 ct12:Value} {f13:Addr} {od13 an13:Option Addr} {sl13:Array (Option Value)} {oc13 kV13 dc13 pm13 cd13 ct13:Value} {f14:Addr} {od14 an14:Option Addr} {sl14:Array (Option Value)} {oc14 kV14 dc14 pm14 cd14 ct14:Value} {f15:Addr} {od15 an15:Option Addr} {sl15:Array (Option Value)} {oc15 kV15 dc15 pm15 cd15 ct15:Value} {f16:Addr} {od16 an16:Option Addr} {sl16:Array (Option Value)} {oc16 kV16 dc16 pm16 cd16 ct16:Value} {f17:Addr} {od17 an17:Option Addr} {sl17:Array (Option Value)} {oc17 kV17 dc17 pm17 cd17 ct17:Value} {f18:Addr} {od18 an18:Option Addr} {sl18:Array (Option Value)} {oc18 kV18 dc18 pm18 cd18 ct18:Value} {f19:Addr} {od19 an19:Option Addr} {sl19:Array (Option Value)} {oc19 kV19 dc19 pm19 cd19 ct19:Value} {f20:Addr} {od20 an20:Option Addr} {sl20:Array (Option Value)} {oc20 kV20 dc20 pm20 cd20 ct20:Value} {f21:Addr} {od21 an21:Option Addr} {sl21:Array (Option Value)} {oc21 kV21 dc21 pm21 cd21 ct21:Value} {f22:Addr} {od22 an22:Option Addr} {sl22:Array (Option Value)} {oc22 kV22 dc22 pm22 cd22 ct22:Value} {f23:Addr} {od23 an23:Option Addr} {sl23:Array (Option Value)} {oc23 kV23 dc23 pm23 cd23 ct23:Value} {f24:Addr} {od24 an24:Option Addr} {sl24:Array (Option Value)} {oc24 kV24 dc24 pm24 cd24 ct24:Value} {f25:Addr} {od25 an25:Option Addr} {sl25:Array (Option Value)} {oc25 kV25 dc25 pm25 cd25 ct25:Value} {f26:Addr} {od26 an26:Option Addr} {sl26:Array (Option Value)} {oc26 kV26 dc26 pm26 cd26 ct26:Value} {f27:Addr} {od27 an27:Option Addr} {sl27:Array (Option Value)} {oc27 kV27 dc27 pm27 cd27 ct27:Value} {f28:Addr} {od28 an28:Option Addr} {sl28:Array (Option Value)} {oc28 kV28 dc28 pm28 cd28 ct28:Value} {f29:Addr} {od29 an29:Option Addr} {sl29:Array (Option Value)} {oc29 kV29 dc29 pm29 cd29 ct29:Value} {f30:Addr} {od30 an30:Option Addr} {sl30:Array (Option Value)} {oc30 kV30 dc30 pm30 cd30 ct30:Value} {f31:Addr} {od31 an31:Option Addr} {sl31:Array (Option Value)} {oc31 kV31 dc31 pm31 cd31 ct31:Value} {f32:Addr} {od32 an32:Option Addr} {sl32:Array (Option Value)} {oc32 kV32 dc32 pm32 cd32 ct32:Value} {t0:Tok} {u1:Addr} {ud1:Option Addr} {ui1:Array Value} {un1:Nat} {us1:Array (Option Value)} {u2:Addr} {un2:Nat} {uh2_0:Int} {ut2_0:Tok} {uc2_0:Addr} {ud2_0:Option Addr} {ui2_0:Array Value} {um2_0:Nat} {us2_0:Array (Option Value)} {uh2_1:Int} {ut2_1:Tok} {uc2_1:Addr} {ud2_1:Option Addr} {ui2_1:Array Value} {um2_1:Nat} {us2_1:Array (Option Value)} {uh2_2:Int} {ut2_2:Tok} {uc2_2:Addr} {ud2_2:Option Addr} {ui2_2:Array Value} {um2_2:Nat} {us2_2:Array (Option Value)} {t3:Tok} {t4:Tok} {u5:Addr} {un5:Nat} {uh5_0:Int} {ut5_0 uv5_0:Tok} {uh5_1:Int} {ut5_1 uv5_1:Tok} {t6:Tok} {t7:Tok} {t8:Tok} {t9:Tok} {t10:Tok}
  (a0:PySem.W.nsIn K mainGlobals "_law_cell_at"=some (some (.ref f0))) (l0:K.lookup f0=some ⟨oc0,od0, .func (PySem.W.fnOf "_law_cell_at" "_law_cell_at" (defArgs s__law_cell_at) (defBody s__law_cell_at) (defScope s__law_cell_at) .none kV0 dc0 pm0 an0 cd0 ct0),sl0⟩) (c0:PySem.W.codeIn K cd0 "_law_cell_at"=true) (k0:PySem.W.keepIn K (.ref f0)=true)
  (a1:PySem.W.nsIn K mainGlobals "_law_lists_fit"=some (some (.ref f1))) (l1:K.lookup f1=some ⟨oc1,od1, .func (PySem.W.fnOf "_law_lists_fit" "_law_lists_fit" (defArgs s__law_lists_fit) (defBody s__law_lists_fit) (defScope s__law_lists_fit) .none kV1 dc1 pm1 an1 cd1 ct1),sl1⟩) (c1:PySem.W.codeIn K cd1 "_law_lists_fit"=true) (k1:PySem.W.keepIn K (.ref f1)=true)
  (a2:PySem.W.nsIn K mainGlobals "_law_fits"=some (some (.ref f2))) (l2:K.lookup f2=some ⟨oc2,od2, .func (PySem.W.fnOf "_law_fits" "_law_fits" (defArgs s__law_fits) (defBody s__law_fits) (defScope s__law_fits) .none kV2 dc2 pm2 an2 cd2 ct2),sl2⟩) (c2:PySem.W.codeIn K cd2 "_law_fits"=true) (k2:PySem.W.keepIn K (.ref f2)=true)
  (a3:PySem.W.nsIn K mainGlobals "_law_mixed"=some (some (.ref f3))) (l3:K.lookup f3=some ⟨oc3,od3, .func (PySem.W.fnOf "_law_mixed" "_law_mixed" (defArgs s__law_mixed) (defBody s__law_mixed) (defScope s__law_mixed) .none kV3 dc3 pm3 an3 cd3 ct3),sl3⟩) (c3:PySem.W.codeIn K cd3 "_law_mixed"=true) (k3:PySem.W.keepIn K (.ref f3)=true)
  (a4:PySem.W.nsIn K mainGlobals "_law_lists"=some (some (.ref f4))) (l4:K.lookup f4=some ⟨oc4,od4, .func (PySem.W.fnOf "_law_lists" "_law_lists" (defArgs s__law_lists) (defBody s__law_lists) (defScope s__law_lists) .none kV4 dc4 pm4 an4 cd4 ct4),sl4⟩) (c4:PySem.W.codeIn K cd4 "_law_lists"=true) (k4:PySem.W.keepIn K (.ref f4)=true)
  (a5:PySem.W.nsIn K mainGlobals "_law_name"=some (some (.ref f5))) (l5:K.lookup f5=some ⟨oc5,od5, .func (PySem.W.fnOf "_law_name" "_law_name" (defArgs s__law_name) (defBody s__law_name) (defScope s__law_name) .none kV5 dc5 pm5 an5 cd5 ct5),sl5⟩) (c5:PySem.W.codeIn K cd5 "_law_name"=true) (k5:PySem.W.keepIn K (.ref f5)=true)
  (a6:PySem.W.nsIn K mainGlobals "_law_open"=some (some (.ref f6))) (l6:K.lookup f6=some ⟨oc6,od6, .func (PySem.W.fnOf "_law_open" "_law_open" (defArgs s__law_open) (defBody s__law_open) (defScope s__law_open) .none kV6 dc6 pm6 an6 cd6 ct6),sl6⟩) (c6:PySem.W.codeIn K cd6 "_law_open"=true) (k6:PySem.W.keepIn K (.ref f6)=true)
  (a7:PySem.W.nsIn K mainGlobals "_law_names"=some (some (.ref f7))) (l7:K.lookup f7=some ⟨oc7,od7, .func (PySem.W.fnOf "_law_names" "_law_names" (defArgs s__law_names) (defBody s__law_names) (defScope s__law_names) .none kV7 dc7 pm7 an7 cd7 ct7),sl7⟩) (c7:PySem.W.codeIn K cd7 "_law_names"=true) (k7:PySem.W.keepIn K (.ref f7)=true)
  (a8:PySem.W.nsIn K mainGlobals "_law_rules"=some (some (.ref f8))) (l8:K.lookup f8=some ⟨oc8,od8, .func (PySem.W.fnOf "_law_rules" "_law_rules" (defArgs s__law_rules) (defBody s__law_rules) (defScope s__law_rules) .none kV8 dc8 pm8 an8 cd8 ct8),sl8⟩) (c8:PySem.W.codeIn K cd8 "_law_rules"=true) (k8:PySem.W.keepIn K (.ref f8)=true)
  (a9:PySem.W.nsIn K mainGlobals "_law_text"=some (some (.ref f9))) (l9:K.lookup f9=some ⟨oc9,od9, .func (PySem.W.fnOf "_law_text" "_law_text" (defArgs s__law_text) (defBody s__law_text) (defScope s__law_text) .none kV9 dc9 pm9 an9 cd9 ct9),sl9⟩) (c9:PySem.W.codeIn K cd9 "_law_text"=true) (k9:PySem.W.keepIn K (.ref f9)=true)
  (a10:PySem.W.nsIn K mainGlobals "copied"=some (some (.ref f10))) (l10:K.lookup f10=some ⟨oc10,od10, .func (PySem.W.fnOf "copied" "copied" (defArgs s_copied) (defBody s_copied) (defScope s_copied) .none kV10 dc10 pm10 an10 cd10 ct10),sl10⟩) (c10:PySem.W.codeIn K cd10 "copied"=true) (k10:PySem.W.keepIn K (.ref f10)=true)
  (aC11:PySem.W.nsIn K mainGlobals "House"=some (some (.ref C11))) (a11:PySem.W.findIn K (.ref C11) "__init__"=some (some (.ref f11))) (i11:PySem.W.isFn K (.ref f11)=true) (l11:K.lookup f11=some ⟨oc11,od11, .func (PySem.W.fnOf "__init__" "House.__init__" (defArgs s_House) (defBody s_House) (defScope s_House) .none kV11 dc11 pm11 an11 cd11 ct11),sl11⟩) (c11:PySem.W.codeIn K cd11 "House.__init__"=true) (k11:PySem.W.keepIn K (.ref f11)=true) (pg11:PySem.W.plainGet K C11 Str.empty=true) (hd11:PySem.W.hasDictIn K C11=true) (po11:PySem.W.plainOver K C11=true) (sa11:PySem.W.findIn K (.ref C11) "__setattr__"=some (some (.builtin "object.__setattr__"))) (mk11:PySem.W.makesIn K C11=true) (kc11:PySem.W.keepIn K (.ref C11)=true) (n11_rules:PySem.W.findIn K (.ref C11) "rules"=some none) (n11_doors:PySem.W.findIn K (.ref C11) "doors"=some none) (n11_wings:PySem.W.findIn K (.ref C11) "wings"=some none) (n11_grants:PySem.W.findIn K (.ref C11) "grants"=some none)
  (a12:PySem.W.nsIn K mainGlobals "can_stand"=some (some (.ref f12))) (l12:K.lookup f12=some ⟨oc12,od12, .func (PySem.W.fnOf "can_stand" "can_stand" (defArgs s_can_stand) (defBody s_can_stand) (defScope s_can_stand) .none kV12 dc12 pm12 an12 cd12 ct12),sl12⟩) (c12:PySem.W.codeIn K cd12 "can_stand"=true) (k12:PySem.W.keepIn K (.ref f12)=true)
  (a13:PySem.W.nsIn K mainGlobals "depths_of"=some (some (.ref f13))) (l13:K.lookup f13=some ⟨oc13,od13, .func (PySem.W.fnOf "depths_of" "depths_of" (defArgs s_depths_of) (defBody s_depths_of) (defScope s_depths_of) .none kV13 dc13 pm13 an13 cd13 ct13),sl13⟩) (c13:PySem.W.codeIn K cd13 "depths_of"=true) (k13:PySem.W.keepIn K (.ref f13)=true)
  (a14:PySem.W.nsIn K mainGlobals "heights_of"=some (some (.ref f14))) (l14:K.lookup f14=some ⟨oc14,od14, .func (PySem.W.fnOf "heights_of" "heights_of" (defArgs s_heights_of) (defBody s_heights_of) (defScope s_heights_of) .none kV14 dc14 pm14 an14 cd14 ct14),sl14⟩) (c14:PySem.W.codeIn K cd14 "heights_of"=true) (k14:PySem.W.keepIn K (.ref f14)=true)
  (a15:PySem.W.nsIn K mainGlobals "places_of"=some (some (.ref f15))) (l15:K.lookup f15=some ⟨oc15,od15, .func (PySem.W.fnOf "places_of" "places_of" (defArgs s_places_of) (defBody s_places_of) (defScope s_places_of) .none kV15 dc15 pm15 an15 cd15 ct15),sl15⟩) (c15:PySem.W.codeIn K cd15 "places_of"=true) (k15:PySem.W.keepIn K (.ref f15)=true)
  (a16:PySem.W.nsIn K mainGlobals "step_of"=some (some (.ref f16))) (l16:K.lookup f16=some ⟨oc16,od16, .func (PySem.W.fnOf "step_of" "step_of" (defArgs s_step_of) (defBody s_step_of) (defScope s_step_of) .none kV16 dc16 pm16 an16 cd16 ct16),sl16⟩) (c16:PySem.W.codeIn K cd16 "step_of"=true) (k16:PySem.W.keepIn K (.ref f16)=true)
  (a17:PySem.W.nsIn K mainGlobals "are_bounded"=some (some (.ref f17))) (l17:K.lookup f17=some ⟨oc17,od17, .func (PySem.W.fnOf "are_bounded" "are_bounded" (defArgs s_are_bounded) (defBody s_are_bounded) (defScope s_are_bounded) .none kV17 dc17 pm17 an17 cd17 ct17),sl17⟩) (c17:PySem.W.codeIn K cd17 "are_bounded"=true) (k17:PySem.W.keepIn K (.ref f17)=true)
  (a18:PySem.W.nsIn K mainGlobals "is_whole"=some (some (.ref f18))) (l18:K.lookup f18=some ⟨oc18,od18, .func (PySem.W.fnOf "is_whole" "is_whole" (defArgs s_is_whole) (defBody s_is_whole) (defScope s_is_whole) .none kV18 dc18 pm18 an18 cd18 ct18),sl18⟩) (c18:PySem.W.codeIn K cd18 "is_whole"=true) (k18:PySem.W.keepIn K (.ref f18)=true)
  (a19:PySem.W.nsIn K mainGlobals "is_rules"=some (some (.ref f19))) (l19:K.lookup f19=some ⟨oc19,od19, .func (PySem.W.fnOf "is_rules" "is_rules" (defArgs s_is_rules) (defBody s_is_rules) (defScope s_is_rules) .none kV19 dc19 pm19 an19 cd19 ct19),sl19⟩) (c19:PySem.W.codeIn K cd19 "is_rules"=true) (k19:PySem.W.keepIn K (.ref f19)=true)
  (a20:PySem.W.nsIn K mainGlobals "has_only"=some (some (.ref f20))) (l20:K.lookup f20=some ⟨oc20,od20, .func (PySem.W.fnOf "has_only" "has_only" (defArgs s_has_only) (defBody s_has_only) (defScope s_has_only) .none kV20 dc20 pm20 an20 cd20 ct20),sl20⟩) (c20:PySem.W.codeIn K cd20 "has_only"=true) (k20:PySem.W.keepIn K (.ref f20)=true)
  (a21:PySem.W.nsIn K mainGlobals "is_written"=some (some (.ref f21))) (l21:K.lookup f21=some ⟨oc21,od21, .func (PySem.W.fnOf "is_written" "is_written" (defArgs s_is_written) (defBody s_is_written) (defScope s_is_written) .none kV21 dc21 pm21 an21 cd21 ct21),sl21⟩) (c21:PySem.W.codeIn K cd21 "is_written"=true) (k21:PySem.W.keepIn K (.ref f21)=true)
  (a22:PySem.W.nsIn K mainGlobals "numbers_in"=some (some (.ref f22))) (l22:K.lookup f22=some ⟨oc22,od22, .func (PySem.W.fnOf "numbers_in" "numbers_in" (defArgs s_numbers_in) (defBody s_numbers_in) (defScope s_numbers_in) .none kV22 dc22 pm22 an22 cd22 ct22),sl22⟩) (c22:PySem.W.codeIn K cd22 "numbers_in"=true) (k22:PySem.W.keepIn K (.ref f22)=true)
  (a23:PySem.W.nsIn K mainGlobals "read_rules"=some (some (.ref f23))) (l23:K.lookup f23=some ⟨oc23,od23, .func (PySem.W.fnOf "read_rules" "read_rules" (defArgs s_read_rules) (defBody s_read_rules) (defScope s_read_rules) .none kV23 dc23 pm23 an23 cd23 ct23),sl23⟩) (c23:PySem.W.codeIn K cd23 "read_rules"=true) (k23:PySem.W.keepIn K (.ref f23)=true)
  (a24:PySem.W.nsIn K mainGlobals "rules_in"=some (some (.ref f24))) (l24:K.lookup f24=some ⟨oc24,od24, .func (PySem.W.fnOf "rules_in" "rules_in" (defArgs s_rules_in) (defBody s_rules_in) (defScope s_rules_in) .none kV24 dc24 pm24 an24 cd24 ct24),sl24⟩) (c24:PySem.W.codeIn K cd24 "rules_in"=true) (k24:PySem.W.keepIn K (.ref f24)=true)
  (a25:PySem.W.nsIn K mainGlobals "is_name"=some (some (.ref f25))) (l25:K.lookup f25=some ⟨oc25,od25, .func (PySem.W.fnOf "is_name" "is_name" (defArgs s_is_name) (defBody s_is_name) (defScope s_is_name) .none kV25 dc25 pm25 an25 cd25 ct25),sl25⟩) (c25:PySem.W.codeIn K cd25 "is_name"=true) (k25:PySem.W.keepIn K (.ref f25)=true)
  (a26:PySem.W.nsIn K mainGlobals "are_unlike_names"=some (some (.ref f26))) (l26:K.lookup f26=some ⟨oc26,od26, .func (PySem.W.fnOf "are_unlike_names" "are_unlike_names" (defArgs s_are_unlike_names) (defBody s_are_unlike_names) (defScope s_are_unlike_names) .none kV26 dc26 pm26 an26 cd26 ct26),sl26⟩) (c26:PySem.W.codeIn K cd26 "are_unlike_names"=true) (k26:PySem.W.keepIn K (.ref f26)=true)
  (a27:PySem.W.nsIn K mainGlobals "thing_in"=some (some (.ref f27))) (l27:K.lookup f27=some ⟨oc27,od27, .func (PySem.W.fnOf "thing_in" "thing_in" (defArgs s_thing_in) (defBody s_thing_in) (defScope s_thing_in) .none kV27 dc27 pm27 an27 cd27 ct27),sl27⟩) (c27:PySem.W.codeIn K cd27 "thing_in"=true) (k27:PySem.W.keepIn K (.ref f27)=true)
  (a28:PySem.W.nsIn K mainGlobals "read_house"=some (some (.ref f28))) (l28:K.lookup f28=some ⟨oc28,od28, .func (PySem.W.fnOf "read_house" "read_house" (defArgs s_read_house) (defBody s_read_house) (defScope s_read_house) .none kV28 dc28 pm28 an28 cd28 ct28),sl28⟩) (c28:PySem.W.codeIn K cd28 "read_house"=true) (k28:PySem.W.keepIn K (.ref f28)=true)
  (a29:PySem.W.nsIn K mainGlobals "shown_rules"=some (some (.ref f29))) (l29:K.lookup f29=some ⟨oc29,od29, .func (PySem.W.fnOf "shown_rules" "shown_rules" (defArgs s_shown_rules) (defBody s_shown_rules) (defScope s_shown_rules) .none kV29 dc29 pm29 an29 cd29 ct29),sl29⟩) (c29:PySem.W.codeIn K cd29 "shown_rules"=true) (k29:PySem.W.keepIn K (.ref f29)=true)
  (a30:PySem.W.nsIn K mainGlobals "shown_thing"=some (some (.ref f30))) (l30:K.lookup f30=some ⟨oc30,od30, .func (PySem.W.fnOf "shown_thing" "shown_thing" (defArgs s_shown_thing) (defBody s_shown_thing) (defScope s_shown_thing) .none kV30 dc30 pm30 an30 cd30 ct30),sl30⟩) (c30:PySem.W.codeIn K cd30 "shown_thing"=true) (k30:PySem.W.keepIn K (.ref f30)=true)
  (a31:PySem.W.nsIn K mainGlobals "shown_house"=some (some (.ref f31))) (l31:K.lookup f31=some ⟨oc31,od31, .func (PySem.W.fnOf "shown_house" "shown_house" (defArgs s_shown_house) (defBody s_shown_house) (defScope s_shown_house) .none kV31 dc31 pm31 an31 cd31 ct31),sl31⟩) (c31:PySem.W.codeIn K cd31 "shown_house"=true) (k31:PySem.W.keepIn K (.ref f31)=true)
  (a32:PySem.W.nsIn K mainGlobals "law"=some (some (.ref f32))) (l32:K.lookup f32=some ⟨oc32,od32, .func (PySem.W.fnOf "law" "law" (defArgs s_law) (defBody s_law) (defScope s_law) .none kV32 dc32 pm32 an32 cd32 ct32),sl32⟩) (c32:PySem.W.codeIn K cd32 "law"=true) (k32:PySem.W.keepIn K (.ref f32)=true)
  (z0:PySem.W.nsIn K mainGlobals "all"=some none)
  (z1:PySem.W.nsIn K mainGlobals "any"=some none)
  (z2:PySem.W.nsIn K mainGlobals "bool"=some none)
  (z3:PySem.W.nsIn K mainGlobals "enumerate"=some none)
  (z4:PySem.W.nsIn K mainGlobals "int"=some none)
  (z5:PySem.W.nsIn K mainGlobals "isinstance"=some none)
  (z6:PySem.W.nsIn K mainGlobals "len"=some none)
  (z7:PySem.W.nsIn K mainGlobals "list"=some none)
  (z8:PySem.W.nsIn K mainGlobals "range"=some none)
  (z9:PySem.W.nsIn K mainGlobals "set"=some none)
  (z10:PySem.W.nsIn K mainGlobals "str"=some none)
  (z11:PySem.W.nsIn K mainGlobals "tuple"=some none)
  (y0:PySem.W.nsIn K mainGlobals "FIGURES"=some (some (.str "0123456789" t0)))
  (y1:PySem.W.nsIn K mainGlobals "KEPT_WORDS"=some (some (.ref u1))) (w1:K.lookup u1=some ⟨.type "tuple",ud1, .seq ui1 un1,us1⟩) (v1:Vals ((["door","key","opens","rules","wing"]:List Str).map V.str) ui1.toList)
  (y2:PySem.W.nsIn K mainGlobals "LATER_KINDS"=some (some (.ref u2))) (w2:K.lookup u2=some ⟨.type "dict",none, .dict #[⟨uh2_0, .str "door" ut2_0, .ref uc2_0⟩,⟨uh2_1, .str "wing" ut2_1, .ref uc2_1⟩,⟨uh2_2, .str "key" ut2_2, .ref uc2_2⟩] un2,#[]⟩) (s2:(u2==sysModules)=false) (h2_0:uh2_0=hashStr w "door") (w2_0:K.lookup uc2_0=some ⟨.type "tuple",ud2_0, .seq ui2_0 um2_0,us2_0⟩) (v2_0:Vals ((["wing","key"]:List Str).map V.str) ui2_0.toList) (h2_1:uh2_1=hashStr w "wing") (w2_1:K.lookup uc2_1=some ⟨.type "tuple",ud2_1, .seq ui2_1 um2_1,us2_1⟩) (v2_1:Vals ((["key"]:List Str).map V.str) ui2_1.toList) (h2_2:uh2_2=hashStr w "key") (w2_2:K.lookup uc2_2=some ⟨.type "tuple",ud2_2, .seq ui2_2 um2_2,us2_2⟩) (v2_2:Vals (([]:List Str).map V.str) ui2_2.toList)
  (y3:PySem.W.nsIn K mainGlobals "LEAST_DEPTHS"=some (some (.int 2 t3)))
  (y4:PySem.W.nsIn K mainGlobals "LETTERS"=some (some (.str "abcdefghijklmnopqrstuvwxyz" t4)))
  (y5:PySem.W.nsIn K mainGlobals "LINKS"=some (some (.ref u5))) (w5:K.lookup u5=some ⟨.type "dict",none, .dict #[⟨uh5_0, .str "wing" ut5_0, .str "=" uv5_0⟩,⟨uh5_1, .str "key" ut5_1, .str "opens" uv5_1⟩] un5,#[]⟩) (h5_0:uh5_0=hashStr w "wing") (h5_1:uh5_1=hashStr w "key") (s5:(u5==sysModules)=false)
  (y6:PySem.W.nsIn K mainGlobals "MOST_DEPTHS"=some (some (.int 20 t6)))
  (y7:PySem.W.nsIn K mainGlobals "MOST_FIGURES"=some (some (.int 3 t7)))
  (y8:PySem.W.nsIn K mainGlobals "MOST_LETTERS"=some (some (.int 12 t8)))
  (y9:PySem.W.nsIn K mainGlobals "MOST_OF_A_KIND"=some (some (.int 60 t9)))
  (y10:PySem.W.nsIn K mainGlobals "MOST_PLACES"=some (some (.int 24 t10)))
  :∃ fd:FuncData,(∀ (s:Shared) (v:Value),BindsTo s fd ⟨[v],[]⟩ [("_law_script",v)])∧∀ base:Heap,K.In base→base.Ns mainGlobals mg→FnOk l.prog w K mg base CX0 7 fa fd ["_law_script"] (spLaw K):=by
 have e:=hfa.symm.trans (PySem.W.mg_of X G a32)
 cases e
 have T:Txt w K mg:=⟨PySem.W.mg_none_of X G z0,PySem.W.mg_none_of X G z1,PySem.W.mg_none_of X G z2,PySem.W.mg_none_of X G z3,PySem.W.mg_none_of X G z4,PySem.W.mg_none_of X G z5,PySem.W.mg_none_of X G z6,PySem.W.mg_none_of X G z7,PySem.W.mg_none_of X G z8,PySem.W.mg_none_of X G z9,PySem.W.mg_none_of X G z10,PySem.W.mg_none_of X G z11,⟨t0,PySem.W.mg_of X G y0⟩,⟨⟨u1,_,ui1,un1,PySem.W.mg_of X G y1,w1,rfl,rfl,by have:=v1.length;rw [sizeLine_eq];simp at this;omega,v1⟩⟩,⟨⟨u2,_,_,un2,PySem.W.mg_of X G y2,w2,⟨rfl,rfl,rfl⟩,rfl,(.cons ⟨h2_0,⟨_,rfl⟩,uc2_0,_,ui2_0,um2_0,rfl,w2_0,rfl,rfl,by have:=v2_0.length;rw [sizeLine_eq];simp at this;omega,v2_0⟩ (.cons ⟨h2_1,⟨_,rfl⟩,uc2_1,_,ui2_1,um2_1,rfl,w2_1,rfl,rfl,by have:=v2_1.length;rw [sizeLine_eq];simp at this;omega,v2_1⟩ (.cons ⟨h2_2,⟨_,rfl⟩,uc2_2,_,ui2_2,um2_2,rfl,w2_2,rfl,rfl,by have:=v2_2.length;rw [sizeLine_eq];simp at this;omega,v2_2⟩ .nil))),by decide +kernel,s2⟩⟩,⟨t3,PySem.W.mg_of X G y3⟩,⟨t4,PySem.W.mg_of X G y4⟩,⟨⟨u5,_,_,un5,PySem.W.mg_of X G y5,w5,⟨rfl,rfl,rfl⟩,rfl,(.cons ⟨h5_0,⟨_,rfl⟩,_,rfl⟩ (.cons ⟨h5_1,⟨_,rfl⟩,_,rfl⟩ .nil)),by decide +kernel,s5⟩⟩,⟨t6,PySem.W.mg_of X G y6⟩,⟨t7,PySem.W.mg_of X G y7⟩,⟨t8,PySem.W.mg_of X G y8⟩,⟨t9,PySem.W.mg_of X G y9⟩,⟨t10,PySem.W.mg_of X G y10⟩,⟨⟨C11,aC11,⟨pg11,hd11,po11,sa11⟩,n11_doors⟩⟩,⟨⟨C11,aC11,⟨pg11,hd11,po11,sa11⟩,n11_grants⟩⟩,⟨⟨C11,aC11,⟨pg11,hd11,po11,sa11⟩,n11_rules⟩⟩,⟨⟨C11,aC11,⟨pg11,hd11,po11,sa11⟩,n11_wings⟩⟩⟩
 refine ⟨PySem.W.fnOf "law" "law" (defArgs s_law) (defBody s_law) (defScope s_law) .none kV32 dc32 pm32 an32 cd32 ct32,fun s v=> .of_eq rfl,fun base _ _=> ?_⟩
 have F__law_cell_at:Fn l.prog w K mg base 1 "_law_cell_at" 2 m__law_cell_at:=ok__law_cell_at (fun_mk (st:=s__law_cell_at) l0 c0 k0) (PySem.W.mg_of X G a0) T
 have F__law_lists_fit:Fn l.prog w K mg base 1 "_law_lists_fit" 2 m__law_lists_fit:=ok__law_lists_fit (fun_mk (st:=s__law_lists_fit) l1 c1 k1) (PySem.W.mg_of X G a1) T
 have F__law_fits:Fn l.prog w K mg base 2 "_law_fits" 5 m__law_fits:=ok__law_fits (fun_mk (st:=s__law_fits) l2 c2 k2) (PySem.W.mg_of X G a2) T F__law_lists_fit
 have F__law_mixed:Fn l.prog w K mg base 1 "_law_mixed" 2 m__law_mixed:=ok__law_mixed (fun_mk (st:=s__law_mixed) l3 c3 k3) (PySem.W.mg_of X G a3) T
 have F__law_lists:Fn l.prog w K mg base 2 "_law_lists" 3 m__law_lists:=ok__law_lists (fun_mk (st:=s__law_lists) l4 c4 k4) (PySem.W.mg_of X G a4) T F__law_cell_at F__law_mixed
 have F__law_name:Fn l.prog w K mg base 1 "_law_name" 1 m__law_name:=ok__law_name (fun_mk (st:=s__law_name) l5 c5 k5) (PySem.W.mg_of X G a5) T
 have F__law_open:Fn l.prog w K mg base 1 "_law_open" 1 m__law_open:=ok__law_open (fun_mk (st:=s__law_open) l6 c6 k6) (PySem.W.mg_of X G a6) T
 have F__law_names:Fn l.prog w K mg base 2 "_law_names" 2 m__law_names:=ok__law_names (fun_mk (st:=s__law_names) l7 c7 k7) (PySem.W.mg_of X G a7) T F__law_name F__law_open
 have F__law_rules:Fn l.prog w K mg base 2 "_law_rules" 1 m__law_rules:=ok__law_rules (fun_mk (st:=s__law_rules) l8 c8 k8) (PySem.W.mg_of X G a8) T F__law_mixed
 have F__law_text:Fn l.prog w K mg base 1 "_law_text" 4 m__law_text:=ok__law_text (fun_mk (st:=s__law_text) l9 c9 k9) (PySem.W.mg_of X G a9) T
 have F_copied:Fn l.prog w K mg base 1 "copied" 1 m_copied:=ok_copied (fun_mk (st:=s_copied) l10 c10 k10) (PySem.W.mg_of X G a10) T
 have F_House:FnI l.prog w K mg base 3 "House" 4 4 fs_House:=ok_House (fun_mk (st:=s_House) l11 c11 k11) ⟨mk11,a11,i11,kc11⟩ (PySem.W.mg_of X G aC11) aC11 ⟨pg11,hd11,po11,sa11⟩ n11_rules n11_doors n11_wings n11_grants T F_copied
 have F_can_stand:Fn l.prog w K mg base 1 "can_stand" 2 m_can_stand:=ok_can_stand (fun_mk (st:=s_can_stand) l12 c12 k12) (PySem.W.mg_of X G a12) T
 have F_depths_of:Fn l.prog w K mg base 1 "depths_of" 1 m_depths_of:=ok_depths_of (fun_mk (st:=s_depths_of) l13 c13 k13) (PySem.W.mg_of X G a13) T
 have F_heights_of:Fn l.prog w K mg base 1 "heights_of" 1 m_heights_of:=ok_heights_of (fun_mk (st:=s_heights_of) l14 c14 k14) (PySem.W.mg_of X G a14) T
 have F_places_of:Fn l.prog w K mg base 1 "places_of" 1 m_places_of:=ok_places_of (fun_mk (st:=s_places_of) l15 c15 k15) (PySem.W.mg_of X G a15) T
 have F_step_of:Fn l.prog w K mg base 1 "step_of" 1 m_step_of:=ok_step_of (fun_mk (st:=s_step_of) l16 c16 k16) (PySem.W.mg_of X G a16) T
 have F_are_bounded:Fn l.prog w K mg base 2 "are_bounded" 1 m_are_bounded:=ok_are_bounded (fun_mk (st:=s_are_bounded) l17 c17 k17) (PySem.W.mg_of X G a17) T F_depths_of F_heights_of F_places_of F_step_of
 have F_is_whole:Fn l.prog w K mg base 1 "is_whole" 1 m_is_whole:=ok_is_whole (fun_mk (st:=s_is_whole) l18 c18 k18) (PySem.W.mg_of X G a18) T
 have F_is_rules:Fn l.prog w K mg base 3 "is_rules" 1 m_is_rules:=ok_is_rules (fun_mk (st:=s_is_rules) l19 c19 k19) (PySem.W.mg_of X G a19) T F_are_bounded F_is_whole
 have F_has_only:Fn l.prog w K mg base 1 "has_only" 2 m_has_only:=ok_has_only (fun_mk (st:=s_has_only) l20 c20 k20) (PySem.W.mg_of X G a20) T
 have F_is_written:Fn l.prog w K mg base 2 "is_written" 2 m_is_written:=ok_is_written (fun_mk (st:=s_is_written) l21 c21 k21) (PySem.W.mg_of X G a21) T F_has_only
 have F_numbers_in:Fn l.prog w K mg base 3 "numbers_in" 2 m_numbers_in:=ok_numbers_in (fun_mk (st:=s_numbers_in) l22 c22 k22) (PySem.W.mg_of X G a22) T F_is_written
 have F_read_rules:Fn l.prog w K mg base 4 "read_rules" 1 m_read_rules:=ok_read_rules (fun_mk (st:=s_read_rules) l23 c23 k23) (PySem.W.mg_of X G a23) T F_is_rules F_numbers_in
 have F_rules_in:Fn l.prog w K mg base 5 "rules_in" 1 m_rules_in:=ok_rules_in (fun_mk (st:=s_rules_in) l24 c24 k24) (PySem.W.mg_of X G a24) T F_read_rules
 have F_is_name:Fn l.prog w K mg base 2 "is_name" 1 m_is_name:=ok_is_name (fun_mk (st:=s_is_name) l25 c25 k25) (PySem.W.mg_of X G a25) T F_has_only
 have F_are_unlike_names:Fn l.prog w K mg base 3 "are_unlike_names" 1 m_are_unlike_names:=ok_are_unlike_names (fun_mk (st:=s_are_unlike_names) l26 c26 k26) (PySem.W.mg_of X G a26) T F_is_name
 have F_thing_in:Fn l.prog w K mg base 4 "thing_in" 1 m_thing_in:=ok_thing_in (fun_mk (st:=s_thing_in) l27 c27 k27) (PySem.W.mg_of X G a27) T F_are_unlike_names F_is_name
 have F_read_house:Fn l.prog w K mg base 6 "read_house" 1 m_read_house:=ok_read_house (fun_mk (st:=s_read_house) l28 c28 k28) (PySem.W.mg_of X G a28) T F_House F_can_stand F_rules_in F_thing_in
 have F_shown_rules:Fn l.prog w K mg base 1 "shown_rules" 1 m_shown_rules:=ok_shown_rules (fun_mk (st:=s_shown_rules) l29 c29 k29) (PySem.W.mg_of X G a29) T
 have F_shown_thing:Fn l.prog w K mg base 1 "shown_thing" 2 m_shown_thing:=ok_shown_thing (fun_mk (st:=s_shown_thing) l30 c30 k30) (PySem.W.mg_of X G a30) T
 have F_shown_house:Fn l.prog w K mg base 2 "shown_house" 1 m_shown_house:=ok_shown_house (fun_mk (st:=s_shown_house) l31 c31 k31) (PySem.W.mg_of X G a31) T F_shown_rules F_shown_thing
 exact law_of (ok_law (fun_mk (st:=s_law) l32 c32 k32) T F__law_cell_at F__law_fits F__law_lists F__law_mixed F__law_names F__law_rules F__law_text F_read_house F_shown_house) law_true
theorem walk {l:PySem.W.OpenLaw} {q:Program} {loose:List Str} {XP:(Str→Option Value)→Heap→Prop} {YP:World→Heap→Prop} {d:DefRec} {K:Params→PySem.W.Frag} (hn:l.most=some 63) (hdf:d.params.defaults= [])
  (hY:∀ (w:World) (h:Heap),YP w h→(K w.params).In h)
  (F:∀ (w:World) (mg:Str→Option Value) (fa:Addr) (h:Heap),(K w.params).In h→h.Ns mainGlobals mg→mg d.name=some (.ref fa)→
   ∃ fd:FuncData,(∀ (s:Shared) (u:Value),BindsTo s fd ⟨[u],[]⟩ [("_law_script",u)])∧∀ base:Heap,(K w.params).In base→base.Ns mainGlobals mg→FnOk l.prog w (K w.params) mg base CX0 7 fa fd ["_law_script"] (spLaw (K w.params))):
  PySem.W.WalkO q loose XP YP l.row.toRowW d [] (fun f vs=>PySem.call f vs):=
 L2.walk_of (n:=63) (k:=7) (x:="_law_script") (CX:=fun _=>CX0) (sp:=fun w=>spLaw (K w.params)) hn (by decide) hdf ⟨rfl,by decide,by decide,rfl⟩ hY F (fun _ _ a ns hl _ hS=>⟨a,ns,rfl,hS,hl,fun _=>rfl⟩) fun _ _ _ _ _ z=>z
end G
open PySem PySem.W PyProof.Rows
theorem PySem.W.Fast.tw7397589573842436754 : True := trivial
theorem PySem.W.Fast.tw13248012167375910568 : True := trivial
theorem PySem.W.Fast.tw12950448443704153490 : True := trivial
theorem PySem.W.Fast.tw11906851257759042349 : True := trivial
theorem PySem.W.Fast.tw18197105482296152372 : True := trivial
theorem PySem.W.Fast.tw8151246475398238585 : True := trivial
theorem PySem.W.Fast.tw6945189731506369320 : True := trivial
theorem PySem.W.Fast.tw7281059119277306637 : True := trivial
theorem PySem.W.Fast.tw10270817444824139940 : True := trivial
theorem PySem.W.Fast.tw10067469724877089336 : True := trivial
theorem PySem.W.Fast.tw17294433072170340721 : True := trivial
theorem PySem.W.Fast.tw2218870040004293092 : True := trivial
theorem PySem.W.Fast.tw5758202298004376786 : True := trivial
theorem PySem.W.Fast.tw12978327570660822705 : True := trivial
theorem PySem.W.Fast.tw15781935873302240084 : True := trivial
theorem PySem.W.Fast.tw10268441623594548307 : True := trivial
theorem PySem.W.Fast.tw14833638895539524728 : True := trivial
theorem PySem.W.Fast.tw3853771898560217526 : True := trivial
theorem PySem.W.Fast.tw6225778726860295379 : True := trivial
theorem PySem.W.Fast.tw8671852969680971997 : True := trivial
theorem PySem.W.Fast.tw17045680044879953487 : True := trivial
theorem PySem.W.Fast.tw8198868734353961681 : True := trivial
theorem PySem.W.Fast.tw8496722270523213387 : True := trivial
theorem PySem.W.Fast.tw11647418468175051036 : True := trivial
theorem PySem.W.Fast.tw17103352877126608221 : True := trivial
theorem PySem.W.Fast.tw2186014328912555752 : True := trivial
theorem PySem.W.Fast.tw4613700871329745873 : True := trivial
theorem PySem.W.Fast.tw2757366968732039306 : True := trivial
theorem PySem.W.Fast.tw13687949747782104863 : True := trivial
theorem PySem.W.Fast.tw6072140350118051991 : True := trivial
theorem PySem.W.Fast.tw12395546727808247400 : True := trivial
theorem PySem.W.Fast.tw6677721481411237451 : True := trivial
theorem PySem.W.Fast.tw16452624274541424441 : True := trivial
theorem PySem.W.Fast.tw3794188314777256725 : True := trivial
theorem PySem.W.Fast.tw945701514168857336 : True := trivial
theorem PySem.W.Fast.tw12734248418828920683 : True := trivial
theorem PySem.W.Fast.tw17637076894573945504 : True := trivial
theorem PySem.W.Fast.tw17082455586536033655 : True := trivial
theorem PySem.W.Fast.tw8374810770797089743 : True := trivial
theorem PySem.W.Fast.tw10318251011613400403 : True := trivial
theorem PySem.W.Fast.tw17082152048654017614 : True := trivial
theorem PySem.W.Fast.tw4985798339854454225 : True := trivial
theorem PySem.W.Fast.tw9814789160343671934 : True := trivial
theorem PySem.W.Fast.tw386784644202461122 : True := trivial
theorem PySem.W.Fast.tw5143908319776495130 : True := trivial
theorem PySem.W.Fast.tw15133229893871517976 : True := trivial
theorem PySem.W.Fast.tw6244110456573422618 : True := trivial
theorem PySem.W.Fast.tw13581991690273118339 : True := trivial
theorem PySem.W.Fast.tw11716342976473150148 : True := trivial
theorem PySem.W.Fast.tw7959923534511253196 : True := trivial
theorem PySem.W.Fast.tw11666016481095678487 : True := trivial
theorem PySem.W.Fast.tw13672237291808101822 : True := trivial
theorem PySem.W.Fast.tw6749483044349996796 : True := trivial
theorem PySem.W.Fast.tw11343741346517637094 : True := trivial
theorem PySem.W.Fast.tw10666600458991831581 : True := trivial
theorem PySem.W.Fast.tw4839659907665352066 : True := trivial
theorem PySem.W.Fast.tw8732100900432499261 : True := trivial
theorem PySem.W.Fast.tw14611342176283017798 : True := trivial
theorem PySem.Challenge.cw_wardsmith_k32_house_read_holds : PySem.Challenge.rw_wardsmith_k32_house_read.Holds := by
 w_on;o_law;k_head;(case hw=>w_witness2)
 k_fill
 refine G.walk (l:=PySem.Challenge.rw_wardsmith_k32_house_read) rfl rfl (fun w h Y=>PySem.W.kIn_of Y) ?F
 case F=>
  intro w mg fa h KX GG hmg
  refine' G.all_mk KX GG hmg ?a0 ?l0 ?c0 ?k0 ?a1 ?l1 ?c1 ?k1 ?a2 ?l2 ?c2 ?k2 ?a3 ?l3 ?c3 ?k3 ?a4 ?l4 ?c4 ?k4 ?a5 ?l5 ?c5 ?k5 ?a6 ?l6 ?c6 ?k6 ?a7 ?l7 ?c7 ?k7 ?a8 ?l8 ?c8 ?k8 ?a9 ?l9 ?c9 ?k9 ?a10 ?l10 ?c10 ?k10 ?aC11 ?a11 ?i11 ?l11 ?c11 ?k11 ?pg11 ?hd11 ?po11 ?sa11 ?mk11 ?kc11 ?n11_rules ?n11_doors ?n11_wings ?n11_grants ?a12 ?l12 ?c12 ?k12 ?a13 ?l13 ?c13 ?k13 ?a14 ?l14 ?c14 ?k14 ?a15 ?l15 ?c15 ?k15 ?a16 ?l16 ?c16 ?k16 ?a17 ?l17 ?c17 ?k17 ?a18 ?l18 ?c18 ?k18 ?a19 ?l19 ?c19 ?k19 ?a20 ?l20 ?c20 ?k20 ?a21 ?l21 ?c21 ?k21 ?a22 ?l22 ?c22 ?k22 ?a23 ?l23 ?c23 ?k23 ?a24 ?l24 ?c24 ?k24 ?a25 ?l25 ?c25 ?k25 ?a26 ?l26 ?c26 ?k26 ?a27 ?l27 ?c27 ?k27 ?a28 ?l28 ?c28 ?k28 ?a29 ?l29 ?c29 ?k29 ?a30 ?l30 ?c30 ?k30 ?a31 ?l31 ?c31 ?k31 ?a32 ?l32 ?c32 ?k32 ?z0 ?z1 ?z2 ?z3 ?z4 ?z5 ?z6 ?z7 ?z8 ?z9 ?z10 ?z11 ?y0 ?y1 ?w1 ?v1 ?y2 ?w2 ?s2 ?h2_0 ?w2_0 ?v2_0 ?h2_1 ?w2_1 ?v2_1 ?h2_2 ?w2_2 ?v2_2 ?y3 ?y4 ?y5 ?w5 ?h5_0 ?h5_1 ?s5 ?y6 ?y7 ?y8 ?y9 ?y10
  (case a0=>k_is);(case l0=>k_is);(case c0=>k_is);(case k0=>k_is);(case a1=>k_is);(case l1=>k_is)
  (case c1=>k_is);(case k1=>k_is);(case a2=>k_is);(case l2=>k_is);(case c2=>k_is);(case k2=>k_is)
  (case a3=>k_is);(case l3=>k_is);(case c3=>k_is);(case k3=>k_is);(case a4=>k_is);(case l4=>k_is)
  (case c4=>k_is);(case k4=>k_is);(case a5=>k_is);(case l5=>k_is);(case c5=>k_is);(case k5=>k_is)
  (case a6=>k_is);(case l6=>k_is);(case c6=>k_is);(case k6=>k_is);(case a7=>k_is);(case l7=>k_is)
  (case c7=>k_is);(case k7=>k_is);(case a8=>k_is);(case l8=>k_is);(case c8=>k_is);(case k8=>k_is)
  (case a9=>k_is);(case l9=>k_is);(case c9=>k_is);(case k9=>k_is);(case a10=>k_is);(case l10=>k_is)
  (case c10=>k_is);(case k10=>k_is);(case aC11=>k_is);(case a11=>k_is);(case i11=>k_is);(case l11=>k_is)
  (case c11=>k_is);(case k11=>k_is);(case pg11=>k_is);(case hd11=>k_is);(case po11=>k_is);(case sa11=>k_is)
  (case mk11=>k_is);(case kc11=>k_is);(case n11_rules=>k_is);(case n11_doors=>k_is);(case n11_wings=>k_is);(case n11_grants=>k_is)
  (case a12=>k_is);(case l12=>k_is);(case c12=>k_is);(case k12=>k_is);(case a13=>k_is);(case l13=>k_is)
  (case c13=>k_is);(case k13=>k_is);(case a14=>k_is);(case l14=>k_is);(case c14=>k_is);(case k14=>k_is)
  (case a15=>k_is);(case l15=>k_is);(case c15=>k_is);(case k15=>k_is);(case a16=>k_is);(case l16=>k_is)
  (case c16=>k_is);(case k16=>k_is);(case a17=>k_is);(case l17=>k_is);(case c17=>k_is);(case k17=>k_is)
  (case a18=>k_is);(case l18=>k_is);(case c18=>k_is);(case k18=>k_is);(case a19=>k_is);(case l19=>k_is)
  (case c19=>k_is);(case k19=>k_is);(case a20=>k_is);(case l20=>k_is);(case c20=>k_is);(case k20=>k_is)
  (case a21=>k_is);(case l21=>k_is);(case c21=>k_is);(case k21=>k_is);(case a22=>k_is);(case l22=>k_is)
  (case c22=>k_is);(case k22=>k_is);(case a23=>k_is);(case l23=>k_is);(case c23=>k_is);(case k23=>k_is)
  (case a24=>k_is);(case l24=>k_is);(case c24=>k_is);(case k24=>k_is);(case a25=>k_is);(case l25=>k_is)
  (case c25=>k_is);(case k25=>k_is);(case a26=>k_is);(case l26=>k_is);(case c26=>k_is);(case k26=>k_is)
  (case a27=>k_is);(case l27=>k_is);(case c27=>k_is);(case k27=>k_is);(case a28=>k_is);(case l28=>k_is)
  (case c28=>k_is);(case k28=>k_is);(case a29=>k_is);(case l29=>k_is);(case c29=>k_is);(case k29=>k_is)
  (case a30=>k_is);(case l30=>k_is);(case c30=>k_is);(case k30=>k_is);(case a31=>k_is);(case l31=>k_is)
  (case c31=>k_is);(case k31=>k_is);(case a32=>k_is);(case l32=>k_is);(case c32=>k_is);(case k32=>k_is)
  (case z0=>k_is);(case z1=>k_is);(case z2=>k_is);(case z3=>k_is);(case z4=>k_is);(case z5=>k_is)
  (case z6=>k_is);(case z7=>k_is);(case z8=>k_is);(case z9=>k_is);(case z10=>k_is);(case z11=>k_is)
  (case y0=>k_is);(case y1=>k_is);(case w1=>k_is);(case v1=>exact (.cons ⟨_,rfl⟩ (.cons ⟨_,rfl⟩ (.cons ⟨_,rfl⟩ (.cons ⟨_,rfl⟩ (.cons ⟨_,rfl⟩ .nil))))));(case y2=>k_is);(case w2=>k_is)
  (case s2=>rfl);(case h2_0=>rfl);(case w2_0=>k_is);(case v2_0=>exact (.cons ⟨_,rfl⟩ (.cons ⟨_,rfl⟩ .nil)));(case h2_1=>rfl);(case w2_1=>k_is)
  (case v2_1=>exact (.cons ⟨_,rfl⟩ .nil));(case h2_2=>rfl);(case w2_2=>k_is);(case v2_2=>exact  .nil);(case y3=>k_is);(case y4=>k_is)
  (case y5=>k_is);(case w5=>k_is);(case h5_0=>rfl);(case h5_1=>rfl);(case s5=>rfl);(case y6=>k_is)
  (case y7=>k_is);(case y8=>k_is);(case y9=>k_is);(case y10=>k_is)
